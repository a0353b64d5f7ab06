/- The document's Advance once more: its blocks stay the same; both wheels' Advance. -/
import Derived.Test.YtpkkgmcfificiaaDoorD7K
import Derived.Test.YtpkkgmcfificiaaDoorD7L
namespace Go.Proofs.YtpkkgmcfificiaaDoor
open Go.RowKit Go.Shelf Go.Maps
set_option linter.unusedVariables false
set_option maxRecDepth 100000
set_option maxHeartbeats 1000000

def RAdw (B : Nat) (w : World) (Q : Nat → Prop) (R t : Nat) (T : List Tm) (e : Ending) (w' : World) : Prop :=
  ∃ (a : Option Addr) (m c' : Nat), e = .returned (.slice a m c') ∧ (dueT T t).length = m ∧ w'.ownsRow w.heap.size 3 1 (.slice a m c') m (idT (dueT T t)) ∧ RW B w' Q R t (lateT T t) ∧ Kp Q w w'

theorem radw_fin {B : Nat} {w W1 wq : World} {Q : Nat → Prop} {R c t j cp : Nat} {T : List Tm} {al al' : Option Addr} {l1 : Value} (h : RW B w Q R c T) (k1 : Kp (fun g => g = R) w W1) (sz : W1.heap.size = w.heap.size) (b1 : Blk W1 R #[.int .i64 (t : Int), .slice al T.length cp] 62) (r1 : RdT W1 Q R al cp T) (i : IL W1 wq l1 (T.take j)) (hj : j ≤ T.length) (sp : dueT T t = T.take j ∧ lateT T t = T.drop j)
    (ha : T.drop j = [] ∨ ∀ g off, al = some ⟨g, off, none⟩ → al' = some ⟨g, off + j * 2, none⟩) : RAdw B w Q R t T (.returned l1) (wq.setCell ⟨R, 1, none⟩ (.slice al' (T.length - j) (cp - j))) := by
  have hR := h.lt R h.q
  have kq : Kp (fun g => g = R) W1 (wq.setCell ⟨R, 1, none⟩ (.slice al' (T.length - j) (cp - j))) := (Kp.grown i.gr _).set R 1 _ (fun _ => rfl)
  have ks : Kp (fun g => g = R) wq (wq.setCell ⟨R, 1, none⟩ (.slice al' (T.length - j) (cp - j))) := (Kp.refl _ wq).set R 1 _ (fun _ => rfl)
  have cap := r1.cap
  have rd : RdT W1 Q R al' (cp - j) (T.drop j) := by
    refine ⟨⟨by rw [List.length_drop]; omega, by omega⟩, ?_⟩
    rcases ha with ha | ha
    · exact .inl ha
    · rcases r1.at_ with e | ⟨g, off, e, hn, hq, hg, hc⟩
      · exact .inl (by rw [e]; simp)
      · refine .inr ⟨g, off + j * 2, ha g off e, hn, hq, hg, fun k p hp => ?_⟩
        rw [List.getElem?_drop] at hp
        have := hc (j + k) p hp
        rw [show off + (j + k) * 2 = off + j * 2 + k * 2 by omega] at this
        exact this
  have bf := (b1.grown i.gr).setC 1 (.slice al' (T.length - j) (cp - j))
  have rl := i.row.lt
  have row : (wq.setCell ⟨R, 1, none⟩ (.slice al' (T.length - j) (cp - j))).ownsRow w.heap.size 3 1 l1 (T.take j).length (idT (T.take j)) := by
    have ir := i.row
    rw [sz] at ir rl
    refine ⟨ir.1, ?_⟩
    rcases ir.2 with h2 | ⟨g', cap', cur, e, q1, q2, q3⟩
    · exact .inl h2
    · subst e
      exact .inr ⟨g', cap', cur, rfl, q1, by rw [ks.block g' (rl g' rfl).2 (by omega)]; exact q2, q3⟩
  obtain ⟨a, c', rfl⟩ := i.shape
  refine ⟨a, (T.take j).length, c', rfl, by rw [sp.1], by rw [sp.1]; exact row, ⟨⟨al', cp - j, ?_, ?_⟩, h.q, fun g hg => ⟨(h.lt g hg).1, ?_⟩⟩, (k1.mono (fun g _ e => by subst e; exact h.q)).trans ((Kp.grown i.gr Q).set R 1 _ (fun _ => h.q))⟩
  · rw [sp.2, List.length_drop]; exact bf
  · rw [sp.2]; exact rd.kept kq.size (fun g _ hn hl => kq.block g hl hn)
  · have := (h.lt g hg).2
    have := kq.size
    omega

theorem radw_any {B : Nat} {w : World} {Q : Nat → Prop} {R c : Nat} {T : List Tm} (h : RW B w Q R c T) (srt : T.Pairwise ltT) (hl : T.length ≤ 4096) (hc : c ≤ 1125899906842624) (now : Int) :
    Calls Tryd.prog 14 #[ptr R, .int .i64 now] w (RAdw B w Q R (adv c now) T) := by
  have la := later_any c now hc w
  obtain ⟨al, cp, b, r⟩ := h.ex
  have cap := r.cap
  have x0 := b.cell 0 (.int .i64 (c : Int)) rfl
  have th := b.thaw 0
  generalize adv c now = t at *
  have b1 : Blk (w.setCell ⟨R, 0, none⟩ (.int .i64 (t : Int))) R #[.int .i64 (t : Int), .slice al T.length cp] 62 := b.setC 0 (.int .i64 (t : Int))
  have k1 : Kp (fun g => g = R) w (w.setCell ⟨R, 0, none⟩ (.int .i64 (t : Int))) := (Kp.refl _ w).set R 0 _ (fun _ => rfl)
  have r1 : RdT (w.setCell ⟨R, 0, none⟩ (.int .i64 (t : Int))) Q R al cp T := r.kept k1.size (fun g _ hn hl => k1.block g hl hn)
  have sz1 : (w.setCell ⟨R, 0, none⟩ (.int .i64 (t : Int))).heap.size = w.heap.size := set_size _ _ _ _
  have HH := hide h
  clear b r h
  go_enter Tryd.func14, Tryd.ntmps14
  go_wp2_with fail
  refine la.mono ?_
  rintro e w' ⟨rfl, hw⟩
  replace hw := hw.symm
  subst hw
  clear la
  go_wp2_with fail
  generalize w.setCell ⟨R, 0, none⟩ (.int .i64 (t : Int)) = W1 at *
  have y0 := b1.cell 0 (.int .i64 (t : Int)) rfl
  have y1 := b1.cell 1 (.slice al T.length cp) rfl
  have FIN := hide (fun (wq : World) (l1 : Value) (al' : Option Addr) (j : Nat) (i : IL W1 wq l1 (T.take j)) (hj : j ≤ T.length) (sp : dueT T t = T.take j ∧ lateT T t = T.drop j) (ha : T.drop j = [] ∨ ∀ g off, al = some ⟨g, off, none⟩ → al' = some ⟨g, off + j * 2, none⟩) => radw_fin (unhide HH) k1 sz1 b1 r1 i hj sp ha)
  have BB := hide b1; have RR := hide r1; have SRT := hide srt
  have lI : ¬ (9223372036854775807 : Int) < (T.length : Int) := by omega
  clear b1 r1 HH k1 sz1 srt x0 th
  go_loopw [5, 6] (fun lv iv wr => ∃ (l1 : Value) (j : Nat), j ≤ T.length ∧ Hid (l1 = lv) ∧ iv = .int .i64 j ∧ Hid (∀ p ∈ T.take j, p.2 ≤ t) ∧ Hid (IL W1 wr l1 (T.take j))) (fun _ iv _ => T.length - (intOf iv).toNat)
  case atStart => exact ⟨_, 0, Nat.zero_le _, rfl, rfl, (fun p hp => by simp at hp), IL.nil W1⟩
  case round =>
    obtain ⟨l1, j, hj, el, rfl, HP, H⟩ := hrel
    have el := unhide el
    subst el
    have gr := (unhide H).gr
    have z0 := gr.cell y0 (by simp)
    have z1 := gr.cell y1 (by simp)
    have few : (T.take j).length ≤ 1000000 := by rw [List.length_take]; omega
    by_cases hlt : j < T.length
    · have jN : (j : Int) < (T.length : Int) := by omega
      obtain ⟨p, hp⟩ : ∃ p, T[j]? = some p := ⟨T[j], by simp⟩
      obtain ⟨g, off, rfl, hgn, hq, hgl, hcl⟩ := (unhide RR).at_.resolve_left (fun e => by rw [e] at hlt; simp at hlt)
      have c0 := gr.cell (hcl j p hp).1 (by simp)
      have c1 := gr.cell (hcl j p hp).2 (by simp)
      by_cases hd : p.2 ≤ t
      · have dI : (p.2 : Int) ≤ (t : Int) := by omega
        have eT : T.take (j + 1) = T.take j ++ [p] := by rw [List.take_add_one, hp]; rfl
        have HP2 : Hid (∀ q ∈ T.take (j + 1), q.2 ≤ t) := by
          intro q hq'
          rw [eT] at hq'
          rcases List.mem_append.1 hq' with hq' | hq'
          · exact unhide HP q hq'
          · simp only [List.mem_singleton] at hq'; subst hq'; exact hd
        have PU : Hid (∀ q, ∃ g c w', (Builtin.append_ #[30, 30] 30 #[l1, .slice (some ⟨(wr.drewN q).heap.size, 0, none⟩) 1 1]).run Tryd.prog ((wr.drewN q).alloc (.cells #[.int .i64 (p.1 : Int)] 3)) = .ok (.slice (some ⟨g, 0, none⟩) ((T.take j).length + 1) c) w' ∧ IL W1 w' (.slice (some ⟨g, 0, none⟩) ((T.take j).length + 1) c) (T.take (j + 1))) := by
          intro q
          rw [eT]
          exact ((unhide H).drewN q).push p few
        clear hcl hp gr H HP eT hd few hgn hq hgl
        go_wp2_with fail
        go_quiet (fail)
        obtain ⟨g', c', w', hrun, il⟩ := unhide PU nq
        have R1 := hide hrun; have E := hide il
        have z0' : (wr.drewN nq).cell? ⟨R, 0, none⟩ = some (.int .i64 (t : Int)) := z0
        have z1' : (wr.drewN nq).cell? ⟨R, 1, none⟩ = some (.slice (some ⟨g, off, none⟩) T.length cp) := z1
        have c0' : (wr.drewN nq).cell? ⟨g, off + j * 2, none⟩ = some (.int .i64 (p.1 : Int)) := c0
        clear hrun il PU z0 z1 c0 c1
        generalize wr.drewN nq = wq at *
        generalize (T.take j).length + 1 = M at *
        go_wp2_with (at_builtin; refine wpList_append_runQ _ rfl _ _ 30 30 rfl _ _ rfl rfl (unhide R1) ?_)
        exact ⟨⟨_, j + 1, by omega, rfl, by go_num, HP2, E⟩, by simp [intOf]; omega⟩
      · have dI : ¬ (p.2 : Int) ≤ (t : Int) := by omega
        have sp := hide (adv_split (unhide SRT) (unhide HP) (fun q hq' => by rw [hp] at hq'; cases hq'; omega))
        have E := hide (fun q => unhide FIN (wr.drewN q) l1 (some ⟨g, off + j * 2, none⟩) j ((unhide H).drewN q) hj (unhide sp) (.inr fun g' off' e => by cases e; rfl))
        obtain ⟨a1, c1', rfl⟩ := (unhide H).shape
        have th := fun q => (((unhide BB).grown gr).drewN q).thaw 1
        have s1 : ¬ cp = j := by omega
        have s2 : (j : Int) ≤ (T.length : Int) := by omega
        clear hcl hp gr H HP hd few hgn hq hgl sp
        generalize (T.take j).length = M at *
        go_wp2_with fail
        go_quiet (fail)
        have z1' : (wr.drewN nq).cell? ⟨R, 1, none⟩ = some (.slice (some ⟨g, off, none⟩) T.length cp) := z1
        have th' := th nq
        have E' := hide (unhide E nq)
        clear E th z0 z1 c0 c1
        generalize wr.drewN nq = wq at *
        go_wp2_with fail
        go_ret
        exact unhide E'
    · have jN : ¬ (j : Int) < (T.length : Int) := by omega
      obtain rfl : j = T.length := by omega
      have sp := hide (adv_split (unhide SRT) (unhide HP) (fun q hq' => by rw [List.getElem?_eq_none (Nat.le_refl _)] at hq'; cases hq'))
      have E := hide (fun q al' => unhide FIN (wr.drewN q) l1 al' T.length ((unhide H).drewN q) hj (unhide sp) (.inl (by simp)))
      obtain ⟨a1, c1', rfl⟩ := (unhide H).shape
      have th := fun q => (((unhide BB).grown gr).drewN q).thaw 1
      clear gr H HP few sp
      generalize (T.take T.length).length = M at *
      simp only [Nat.sub_self] at E
      generalize T.length = N at *
      cases al with
      | none =>
        go_wp2_with fail
        go_quiet (fail)
        have z1' : (wr.drewN nq).cell? ⟨R, 1, none⟩ = some (.slice none N cp) := z1
        have th' := th nq
        have E' := hide (unhide E nq)
        clear E th z0 z1
        generalize wr.drewN nq = wq at *
        go_wp2_with fail
        go_ret
        exact unhide E' _
      | some x =>
        by_cases s1 : cp = N
        · go_wp2_with fail
          go_quiet (fail)
          have z1' : (wr.drewN nq).cell? ⟨R, 1, none⟩ = some (.slice (some x) N cp) := z1
          have th' := th nq
          have E' := hide (unhide E nq)
          clear E th z0 z1
          generalize wr.drewN nq = wq at *
          go_wp2_with fail
          go_ret
          exact (by have := unhide E' (some x); rw [show cp - N = 0 by omega] at this; exact this)
        · go_wp2_with fail
          go_quiet (fail)
          have z1' : (wr.drewN nq).cell? ⟨R, 1, none⟩ = some (.slice (some x) N cp) := z1
          have th' := th nq
          have E' := hide (unhide E nq)
          clear E th z0 z1
          generalize wr.drewN nq = wq at *
          go_wp2_with fail
          go_ret
          exact unhide E' _

theorem pw_adw {B : Nat} {w : World} {U : Nat → Prop} {W R c : Nat} {T : List Tm} (h : PW B w U W R c T) (ht : Tb w) (now : Int) :
    Calls Tryd.prog 13 #[ptr W, .int .i64 now] w fun e w1 => ∃ (a1 : Option Addr) (m c1 : Nat), e = .returned (.slice a1 m c1) ∧ (dueT T (adv c now)).length = m ∧ m ≤ 4096 ∧ w1.ownsRow w.heap.size 3 1 (.slice a1 m c1) m (intsV (idI (dueT T (adv c now)))) ∧ Kp U w w1 ∧
      Hid (Calls Tryd.prog 14 #[ptr R, .int .i64 now] w1 fun e w2 => ∃ (a2 : Option Addr) (c2 : Nat), e = .returned (.slice a2 m c2) ∧ w2.ownsRow w1.heap.size 3 1 (.slice a2 m c2) m (intsV (idI (dueT T (adv c now)))) ∧ Kp U w1 w2 ∧ PW B w2 U W R (adv c now) (lateT T (adv c now))) := by
  obtain ⟨ok, hc, hl⟩ := h.ok
  obtain ⟨S, Q, wl, rw, dj, hs⟩ := h.ex
  rw [← idT_ints]
  refine (wl_adv B w S W c T wl ht now).mono ?_
  rintro e w1 ⟨a1, m, c1, rfl, hm, ro, wl1, k1⟩
  have hm4 : m ≤ 4096 := by
    rw [← hm]
    exact Nat.le_trans (List.length_filter_le _ _) hl
  refine ⟨a1, m, c1, rfl, hm, hm4, ro, k1.mono (fun g _ hg => hs g (.inl hg)), ?_⟩
  refine (radw_any (rw.other k1 (fun g hq hs' => dj g hs' hq)) ok.srt hl (by omega) now).mono ?_
  rintro e w2 ⟨a2, m2, c2, rfl, hm2, ro2, rw2, k2⟩
  obtain rfl : m2 = m := by omega
  refine ⟨a2, c2, rfl, ro2, k2.mono (fun g _ hg => hs g (.inr hg)), ⟨S, Q, wl1.other k2 dj, rw2, dj, hs⟩, fun g hg => ⟨(h.lt g hg).1, ?_⟩⟩
  have := (h.lt g hg).2
  have := k1.size
  have := k2.size
  omega
end Go.Proofs.YtpkkgmcfificiaaDoor
