/- The document's wheel: Advance. -/
import Derived.Test.YtpkkgmcfificiaaDoorD7D
namespace Go.Proofs.YtpkkgmcfificiaaDoor
open Go.RowKit Go.Shelf Go.Maps
set_option linter.unusedVariables false
set_option maxRecDepth 100000
set_option maxHeartbeats 2000000

theorem adv_split {T : List Tm} (srt : T.Pairwise ltT) {t j : Nat} (h1 : ∀ p ∈ T.take j, p.2 ≤ t) (h2 : ∀ p, T[j]? = some p → t < p.2) : dueT T t = T.take j ∧ lateT T t = T.drop j := by
  have hd : ∀ p ∈ T.drop j, t < p.2 := by
    cases e : T.drop j with
    | nil => intro p hp; cases hp
    | cons q r =>
      have hq : T[j]? = some q := by
        have : (T.drop j)[0]? = some q := by rw [e]; rfl
        rw [List.getElem?_drop] at this
        simpa using this
      have sr : (q :: r).Pairwise ltT := by rw [← e]; exact srt.sublist (List.drop_sublist j T)
      intro p hp
      rcases List.mem_cons.1 hp with rfl | hp
      · exact h2 _ hq
      · have := (List.pairwise_cons.1 sr).1 p hp
        have := h2 _ hq
        unfold ltT at *
        omega
  have eT : T = T.take j ++ T.drop j := (List.take_append_drop j T).symm
  constructor
  · unfold dueT
    conv => lhs; rw [eT]
    rw [List.filter_append, List.filter_eq_self.2 (fun p hp => by have := h1 p hp; simp; omega), List.filter_eq_nil_iff.2 (fun p hp => by have := hd p hp; simp; omega), List.append_nil]
  · unfold lateT
    conv => lhs; rw [eT]
    rw [List.filter_append, List.filter_eq_nil_iff.2 (fun p hp => by have := h1 p hp; simp; omega), List.filter_eq_self.2 (fun p hp => by have := hd p hp; simp; omega), List.nil_append]

/-- A list of numbers that the call has made. -/
structure IL (w wr : World) (lv : Value) (T : List Tm) : Prop where
  row : wr.ownsRow w.heap.size 3 1 lv T.length (idT T)
  gr : w.grownBy wr none
theorem IL.nil (w : World) : IL w w (.slice none 0 0) [] := ⟨World.ownsRow_nil _ _ _ _, World.grownBy.refl _ _⟩
theorem IL.drewN {w wr : World} {lv : Value} {T : List Tm} (h : IL w wr lv T) (q : Nat) : IL w (wr.drewN q) lv T := ⟨h.row, grown_drewN h.gr⟩
theorem IL.push {w wr : World} {lv : Value} {T : List Tm} (h : IL w wr lv T) (p : Tm) (few : T.length ≤ 1000000) :
    ∃ g c w', (Builtin.append_ #[30, 30] 30 #[lv, .slice (some ⟨wr.heap.size, 0, none⟩) 1 1]).run Tryd.prog (wr.alloc (.cells #[.int .i64 (p.1 : Int)] 3)) = .ok (.slice (some ⟨g, 0, none⟩) (T.length + 1) c) w'
      ∧ IL w w' (.slice (some ⟨g, 0, none⟩) (T.length + 1) c) (T ++ [p]) := by
  obtain ⟨inf, hi0, hz0, hz1, hz2⟩ := info_parts Tryd.infoI
  have hsz : (wr.alloc (.cells #[.int .i64 (p.1 : Int)] 3)).heap.size = wr.heap.size + 1 := by show (wr.heap.push _).size = _; simp
  have gA := World.grownBy_alloc wr (.cells #[.int .i64 (p.1 : Int)] 3) none
  have h1 := trow_kept h.row gA
  have hB := h.gr.size
  have hnews : ∀ (i : Nat) u, ([.int .i64 (p.1 : Int)] : List Value)[i]? = some u → (wr.alloc (.cells #[.int .i64 (p.1 : Int)] 3)).cell? ((⟨wr.heap.size, 0, none⟩ : Addr).add i) = some u := fun i u hu => by
    rw [show (⟨wr.heap.size, 0, none⟩ : Addr).add i = ⟨wr.heap.size, i, none⟩ by simp [Addr.add]; exact fun e => e.symm]
    simp only [World.cell?, heap_alloc_new]
    rw [← hu]
    simp
  obtain ⟨v5, W5, hrun, o5, g5, -⟩ := run_append_own (P := Tryd.prog) (wr.alloc (.cells #[.int .i64 (p.1 : Int)] 3)) w.heap.size 30 30 3 inf (.int .i64 0) 1 8 Tryd.underlying30 hi0 hz0 hz1 hz2 rfl (by decide) lv T.length (idT T) h1 ⟨wr.heap.size, 0, none⟩ 1 1 [.int .i64 (p.1 : Int)] rfl hnews (fun u hu => by
    simp only [List.mem_cons, List.not_mem_nil, or_false] at hu
    subst hu; rfl) (by unfold maxLen; omega) (by omega) (by omega)
  obtain ⟨h5, c5, rfl⟩ : ∃ h5 c5, v5 = .slice (some ⟨h5, 0, none⟩) (T.length + 1) c5 := by
    rcases o5.2 with ⟨-, e⟩ | ⟨g6, cap, cur, e, -⟩
    · omega
    · exact ⟨g6, cap, e⟩
  refine ⟨h5, c5, W5, hrun, ?_, ?_⟩
  · have e1 : (T ++ [p]).length = T.length + 1 := by simp
    have e2 : idT (T ++ [p]) = idT T ++ [.int .i64 (p.1 : Int)] := by simp [idT]
    rw [e1, e2]; exact o5
  · have k : Kp (fun g => w.heap.size ≤ g) wr W5 := (Kp.grown gA _).trans ⟨g5.os, g5.tape, g5.output, g5.size, fun g hg hn => g5.block g hg (fun e => hn ((h1.lt g e.symm).1))⟩
    have gg := h.gr
    exact ⟨k.os.trans gg.os, k.tape.trans gg.tape, k.output.trans gg.output, Nat.le_trans gg.size k.size, fun i hi hne => (k.block i (by have := gg.size; omega) (by omega)).trans (gg.block i hi hne)⟩
theorem IL.shape {w wr : World} {lv : Value} {T : List Tm} (h : IL w wr lv T) : ∃ a c, lv = .slice a T.length c := by
  rcases h.row.2 with ⟨e1, e2⟩ | ⟨g, cap, cur, e1, -⟩
  · exact ⟨none, 0, by rw [e1, e2]⟩
  · exact ⟨_, _, e1⟩

/-- What the document's Advance leaves. -/
def RAdv (B : Nat) (w : World) (Q : Nat → Prop) (R t : Nat) (T : List Tm) (e : Ending) (w' : World) : Prop :=
  ∃ (a : Option Addr) (m c' : Nat), e = .returned (.slice a m c') ∧ (dueT T t).length = m ∧ w'.ownsRow w.heap.size 3 1 (.slice a m c') m (idT (dueT T t)) ∧ RSt B w Q R t (lateT T t) w'

theorem radv_fin {B : Nat} {w W1 wq : World} {Q : Nat → Prop} {R c t j cp : Nat} {T : List Tm} {al al' : Option Addr} {l1 : Value} (h : RW B w Q R c T) (k1 : Kp (fun g => g = R) w W1) (sz : W1.heap.size = w.heap.size) (b1 : Blk W1 R #[.int .i64 (t : Int), .slice al T.length cp] 62) (r1 : RdT W1 Q R al cp T) (i : IL W1 wq l1 (T.take j)) (hj : j ≤ T.length) (sp : dueT T t = T.take j ∧ lateT T t = T.drop j)
    (ha : T.drop j = [] ∨ ∀ g off, al = some ⟨g, off, none⟩ → al' = some ⟨g, off + j * 2, none⟩) : RAdv B w Q R t T (.returned l1) (wq.setCell ⟨R, 1, none⟩ (.slice al' (T.length - j) (cp - j))) := by
  have hR := h.lt R h.q
  have kq : Kp (fun g => g = R) W1 (wq.setCell ⟨R, 1, none⟩ (.slice al' (T.length - j) (cp - j))) := (Kp.grown i.gr _).set R 1 _ (fun _ => rfl)
  have ks : Kp (fun g => g = R) wq (wq.setCell ⟨R, 1, none⟩ (.slice al' (T.length - j) (cp - j))) := (Kp.refl _ wq).set R 1 _ (fun _ => rfl)
  have cap := r1.cap
  have rd : RdT W1 Q R al' (cp - j) (T.drop j) := by
    refine ⟨⟨by rw [List.length_drop]; omega, by omega⟩, ?_⟩
    rcases ha with ha | ha
    · exact .inl ha
    · rcases r1.at_ with e | ⟨g, off, e, hn, hq, hg, hc⟩
      · exact .inl (by rw [e]; simp)
      · refine .inr ⟨g, off + j * 2, ha g off e, hn, hq, hg, fun k p hp => ?_⟩
        rw [List.getElem?_drop] at hp
        have := hc (j + k) p hp
        rw [show off + (j + k) * 2 = off + j * 2 + k * 2 by omega] at this
        exact this
  have bf := (b1.grown i.gr).setC 1 (.slice al' (T.length - j) (cp - j))
  have rl := i.row.lt
  have row : (wq.setCell ⟨R, 1, none⟩ (.slice al' (T.length - j) (cp - j))).ownsRow w.heap.size 3 1 l1 (T.take j).length (idT (T.take j)) := by
    have ir := i.row
    rw [sz] at ir rl
    refine ⟨ir.1, ?_⟩
    rcases ir.2 with h2 | ⟨g', cap', cur, e, q1, q2, q3⟩
    · exact .inl h2
    · subst e
      exact .inr ⟨g', cap', cur, rfl, q1, by rw [ks.block g' (rl g' rfl).2 (by omega)]; exact q2, q3⟩
  obtain ⟨a, c', rfl⟩ := i.shape
  refine ⟨a, (T.take j).length, c', rfl, by rw [sp.1], by rw [sp.1]; exact row, Q, ⟨⟨al', cp - j, ?_, ?_⟩, h.q, fun g hg => ⟨(h.lt g hg).1, ?_⟩⟩, (k1.mono (fun g _ e => by subst e; exact h.q)).trans ((Kp.grown i.gr Q).set R 1 _ (fun _ => h.q)), fun _ hg => hg, fun _ hg => .inl hg⟩
  · rw [sp.2, List.length_drop]; exact bf
  · rw [sp.2]; exact rd.kept kq.size (fun g _ hn hl => kq.block g hl hn)
  · have := (h.lt g hg).2
    have := kq.size
    omega

theorem radv_any {B : Nat} {w : World} {Q : Nat → Prop} {R c : Nat} {T : List Tm} (h : RW B w Q R c T) (srt : T.Pairwise ltT) (hl : T.length ≤ 4096) (hc : c ≤ 1125899906842624) (now : Int) :
    Calls Tryd.prog 14 #[ptr R, .int .i64 now] w (RAdv B w Q R (adv c now) T) := by
  have la := later_any c now hc w
  obtain ⟨al, cp, b, r⟩ := h.ex
  have cap := r.cap
  have x0 := b.cell 0 (.int .i64 (c : Int)) rfl
  have th := b.thaw 0
  generalize adv c now = t at *
  have b1 : Blk (w.setCell ⟨R, 0, none⟩ (.int .i64 (t : Int))) R #[.int .i64 (t : Int), .slice al T.length cp] 62 := b.setC 0 (.int .i64 (t : Int))
  have k1 : Kp (fun g => g = R) w (w.setCell ⟨R, 0, none⟩ (.int .i64 (t : Int))) := (Kp.refl _ w).set R 0 _ (fun _ => rfl)
  have r1 : RdT (w.setCell ⟨R, 0, none⟩ (.int .i64 (t : Int))) Q R al cp T := r.kept k1.size (fun g _ hn hl => k1.block g hl hn)
  have sz1 : (w.setCell ⟨R, 0, none⟩ (.int .i64 (t : Int))).heap.size = w.heap.size := set_size _ _ _ _
  have HH := hide h
  clear b r h
  go_enter Tryd.func14, Tryd.ntmps14
  go_wp2_with fail
  refine la.mono ?_
  rintro e w' ⟨rfl, hw⟩
  replace hw := hw.symm
  subst hw
  clear la
  go_wp2_with fail
  generalize w.setCell ⟨R, 0, none⟩ (.int .i64 (t : Int)) = W1 at *
  have y0 := b1.cell 0 (.int .i64 (t : Int)) rfl
  have y1 := b1.cell 1 (.slice al T.length cp) rfl
  have FIN := hide (fun (wq : World) (l1 : Value) (al' : Option Addr) (j : Nat) (i : IL W1 wq l1 (T.take j)) (hj : j ≤ T.length) (sp : dueT T t = T.take j ∧ lateT T t = T.drop j) (ha : T.drop j = [] ∨ ∀ g off, al = some ⟨g, off, none⟩ → al' = some ⟨g, off + j * 2, none⟩) => radv_fin (unhide HH) k1 sz1 b1 r1 i hj sp ha)
  have BB := hide b1; have RR := hide r1; have SRT := hide srt
  have lI : ¬ (9223372036854775807 : Int) < (T.length : Int) := by omega
  clear b1 r1 HH k1 sz1 srt x0 th
  go_loopw [5, 6] (fun lv iv wr => ∃ (l1 : Value) (j : Nat), j ≤ T.length ∧ Hid (l1 = lv) ∧ iv = .int .i64 j ∧ Hid (∀ p ∈ T.take j, p.2 ≤ t) ∧ Hid (IL W1 wr l1 (T.take j))) (fun _ iv _ => T.length - (intOf iv).toNat)
  case atStart => exact ⟨_, 0, Nat.zero_le _, rfl, rfl, (fun p hp => by simp at hp), IL.nil W1⟩
  case round =>
    obtain ⟨l1, j, hj, el, rfl, HP, H⟩ := hrel
    have el := unhide el
    subst el
    have gr := (unhide H).gr
    have z0 := gr.cell y0 (by simp)
    have z1 := gr.cell y1 (by simp)
    have few : (T.take j).length ≤ 1000000 := by rw [List.length_take]; omega
    by_cases hlt : j < T.length
    · have jN : (j : Int) < (T.length : Int) := by omega
      obtain ⟨p, hp⟩ : ∃ p, T[j]? = some p := ⟨T[j], by simp⟩
      obtain ⟨g, off, rfl, hgn, hq, hgl, hcl⟩ := (unhide RR).at_.resolve_left (fun e => by rw [e] at hlt; simp at hlt)
      have c0 := gr.cell (hcl j p hp).1 (by simp)
      have c1 := gr.cell (hcl j p hp).2 (by simp)
      by_cases hd : p.2 ≤ t
      · have dI : (p.2 : Int) ≤ (t : Int) := by omega
        have eT : T.take (j + 1) = T.take j ++ [p] := by rw [List.take_add_one, hp]; rfl
        have HP2 : Hid (∀ q ∈ T.take (j + 1), q.2 ≤ t) := by
          intro q hq'
          rw [eT] at hq'
          rcases List.mem_append.1 hq' with hq' | hq'
          · exact unhide HP q hq'
          · simp only [List.mem_singleton] at hq'; subst hq'; exact hd
        have PU : Hid (∀ q, ∃ g c w', (Builtin.append_ #[30, 30] 30 #[l1, .slice (some ⟨(wr.drewN q).heap.size, 0, none⟩) 1 1]).run Tryd.prog ((wr.drewN q).alloc (.cells #[.int .i64 (p.1 : Int)] 3)) = .ok (.slice (some ⟨g, 0, none⟩) ((T.take j).length + 1) c) w' ∧ IL W1 w' (.slice (some ⟨g, 0, none⟩) ((T.take j).length + 1) c) (T.take (j + 1))) := by
          intro q
          rw [eT]
          exact ((unhide H).drewN q).push p few
        clear hcl hp gr H HP eT hd few hgn hq hgl
        go_wp2_with fail
        go_quiet (fail)
        obtain ⟨g', c', w', hrun, il⟩ := unhide PU nq
        have R1 := hide hrun; have E := hide il
        have z0' : (wr.drewN nq).cell? ⟨R, 0, none⟩ = some (.int .i64 (t : Int)) := z0
        have z1' : (wr.drewN nq).cell? ⟨R, 1, none⟩ = some (.slice (some ⟨g, off, none⟩) T.length cp) := z1
        have c0' : (wr.drewN nq).cell? ⟨g, off + j * 2, none⟩ = some (.int .i64 (p.1 : Int)) := c0
        clear hrun il PU z0 z1 c0 c1
        generalize wr.drewN nq = wq at *
        generalize (T.take j).length + 1 = M at *
        go_wp2_with (at_builtin; refine wpList_append_runQ _ rfl _ _ 30 30 rfl _ _ rfl rfl (unhide R1) ?_)
        exact ⟨⟨_, j + 1, by omega, rfl, by go_num, HP2, E⟩, by simp [intOf]; omega⟩
      · have dI : ¬ (p.2 : Int) ≤ (t : Int) := by omega
        have sp := hide (adv_split (unhide SRT) (unhide HP) (fun q hq' => by rw [hp] at hq'; cases hq'; omega))
        have E := hide (fun q => unhide FIN (wr.drewN q) l1 (some ⟨g, off + j * 2, none⟩) j ((unhide H).drewN q) hj (unhide sp) (.inr fun g' off' e => by cases e; rfl))
        obtain ⟨a1, c1', rfl⟩ := (unhide H).shape
        have th := fun q => (((unhide BB).grown gr).drewN q).thaw 1
        have s1 : ¬ cp = j := by omega
        have s2 : (j : Int) ≤ (T.length : Int) := by omega
        clear hcl hp gr H HP hd few hgn hq hgl sp
        generalize (T.take j).length = M at *
        go_wp2_with fail
        go_quiet (fail)
        have z1' : (wr.drewN nq).cell? ⟨R, 1, none⟩ = some (.slice (some ⟨g, off, none⟩) T.length cp) := z1
        have th' := th nq
        have E' := hide (unhide E nq)
        clear E th z0 z1 c0 c1
        generalize wr.drewN nq = wq at *
        go_wp2_with fail
        go_ret
        exact unhide E'
    · have jN : ¬ (j : Int) < (T.length : Int) := by omega
      obtain rfl : j = T.length := by omega
      have sp := hide (adv_split (unhide SRT) (unhide HP) (fun q hq' => by rw [List.getElem?_eq_none (Nat.le_refl _)] at hq'; cases hq'))
      have E := hide (fun q al' => unhide FIN (wr.drewN q) l1 al' T.length ((unhide H).drewN q) hj (unhide sp) (.inl (by simp)))
      obtain ⟨a1, c1', rfl⟩ := (unhide H).shape
      have th := fun q => (((unhide BB).grown gr).drewN q).thaw 1
      clear gr H HP few sp
      generalize (T.take T.length).length = M at *
      simp only [Nat.sub_self] at E
      generalize T.length = N at *
      cases al with
      | none =>
        go_wp2_with fail
        go_quiet (fail)
        have z1' : (wr.drewN nq).cell? ⟨R, 1, none⟩ = some (.slice none N cp) := z1
        have th' := th nq
        have E' := hide (unhide E nq)
        clear E th z0 z1
        generalize wr.drewN nq = wq at *
        go_wp2_with fail
        go_ret
        exact unhide E' _
      | some x =>
        by_cases s1 : cp = N
        · go_wp2_with fail
          go_quiet (fail)
          have z1' : (wr.drewN nq).cell? ⟨R, 1, none⟩ = some (.slice (some x) N cp) := z1
          have th' := th nq
          have E' := hide (unhide E nq)
          clear E th z0 z1
          generalize wr.drewN nq = wq at *
          go_wp2_with fail
          go_ret
          exact (by have := unhide E' (some x); rw [show cp - N = 0 by omega] at this; exact this)
        · go_wp2_with fail
          go_quiet (fail)
          have z1' : (wr.drewN nq).cell? ⟨R, 1, none⟩ = some (.slice (some x) N cp) := z1
          have th' := th nq
          have E' := hide (unhide E nq)
          clear E th z0 z1
          generalize wr.drewN nq = wq at *
          go_wp2_with fail
          go_ret
          exact unhide E' _
end Go.Proofs.YtpkkgmcfificiaaDoor
