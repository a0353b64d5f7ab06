/- L4P, one text. -/
import Derived.Test.YtnflbefbgcbdfaaGreatL8F
import Derived.Test.YtnflbefbgcbdfaaGreatLTS
import Derived.Test.YtnflbefbgcbdfaaGreatSH
namespace Go.Proofs.YtnflbefbgcbdfaaGreat
open Go.RowKit
set_option linter.unusedVariables false
set_option linter.unusedSimpArgs false
set_option maxRecDepth 100000
set_option maxHeartbeats 1000000

theorem clone_row2 (v : Value) (L : List Sp) (w : World) (h : Row w v L) (hb : L.length * 16 ≤ 140737488355328) :
    Calls Tryz.prog 74 #[v] w fun e w' => ∃ v', e = .returned v' ∧ Row w' v' L ∧ Fresh w v' ∧ w.grownBy w' none := by
  rcases Row.at h with ⟨rfl, rfl⟩ | ⟨g, c, sp, rfl, hR⟩
  · go_enter Tryz.func74, Tryz.ntmps74
    go_wp2_with (simp only [eqnil, Option.isNone_none])
    all_goals go_ret
    all_goals exact ⟨_, rfl, row_nil _, fresh_nil _, grown_self _ _⟩
  · exact clone_part g 0 L.length c L w rfl (fun j u hj => by rw [Addr.add_lit, Nat.zero_add]; exact hR.cell j u hj) hb
theorem add_most {w : World} {b : Nat} {most : Int} {v : Value} {L : List Sp} (hv : SetAt w b most v L) (hL : Ok L) (lo hi : Int) (hlo : -9223372036854775808 ≤ lo) (hhi : hi ≤ 9223372036854775807) :
    Calls Tryz.prog 41 #[.pointer (some ⟨b, 0, none⟩), .int .i64 lo, .int .i64 hi] w (AddPost b most v w (addN lo hi L) (addS most lo hi L)) := by
  by_cases hlh : hi < lo
  · refine (add_gt b lo hi w hlh).mono ?_
    rintro e w' ⟨rfl, hg⟩
    unfold addN addS
    rw [if_pos hlh, if_pos hlh]
    exact ⟨rfl, ⟨v, hv.keep hg, .inl rfl⟩, Touch.of b v hg⟩
  · unfold addN addS
    rw [if_neg hlh, if_neg hlh]
    obtain ⟨A, M, D, rfl, hA, hM, hD⟩ := split3 (lo - 1) (hi + 1) hL.good (by omega)
    rw [addF_split hL.good (by omega) hA hM hD]
    exact add_walk b most lo hi v A M D w hv hL (by omega) hlo hhi hA hM hD
/-- One run more is acknowledged. -/
theorem LgAt.acks {R : Nat → Prop} {w w' : World} {b q : Nat} {kv va : Value} {l : Lg} {n : Int} {L' : List Sp} {e : Ending} (h : LgAt R w b q kv va l) (p : AddPost q 256 va w n L' e w') :
    e = .returned (.int .u64 n) ∧ ∃ va', LgAt R w' b q kv va' { l with ac := L' } ∧ Kp (fun x => x = q ∨ va.ownBlock = some x) w w' ∧ (va'.ownBlock = va.ownBlock ∨ ∀ g, va'.ownBlock = some g → w.heap.size ≤ g) := by
  obtain ⟨he, ⟨va', hs, ho⟩, ht⟩ := p
  have hd := h.diff
  have hk : Kp (fun x => x = q ∨ va.ownBlock = some x) w w' := ⟨ht.os, ht.tape, ht.output, ht.size, fun g hg hn => ht.block g hg (fun e => hn (.inl e)) (fun e => hn (.inr e.symm))⟩
  have ho2 : va'.ownBlock = va.ownBlock ∨ ∀ g, va'.ownBlock = some g → w.heap.size ≤ g := ho.imp id (fun f g e => f g e)
  refine ⟨he, va', ⟨?_, hs, ?_, fun g hg => Nat.lt_of_lt_of_le (h.low g hg) ht.size, h.nb, h.nq, h.nk, fun g e hg => ?_⟩, hk, ho2⟩
  · exact (hk.block b h.blk.lt (fun e => e.elim hd.bq (fun e => (hd.vb b e).1 rfl))).trans h.blk
  · exact h.row.kept (fun g hg => hk.block g (h.low g hg) (fun e => e.elim (fun e => h.nq (e ▸ hg)) (fun e => h.na g e hg))) (fun g e => hk.block g (h.row.lt g e) (fun e2 => e2.elim (hd.kb g e).2.1 (hd.kb g e).2.2))
  · rcases ho2 with q1 | q1
    · exact h.na g (by rw [← q1]; exact e) hg
    · have := q1 g e; have := h.low g hg; omega
/-- What Ack makes of it. -/
def Lg.ackd (l : Lg) (rs : List Sp) : Lg := { l with ac := rs.foldl (fun L x => addS 256 x.1 x.2 L) l.ac, la := rs.foldl (fun m x => max m x.2) l.la }
theorem ackd_snoc (l : Lg) (rs : List Sp) (x : Sp) : l.ackd (rs ++ [x]) = { l.ackd rs with ac := addS 256 x.1 x.2 (l.ackd rs).ac, la := max (l.ackd rs).la x.2 } := by
  simp [Lg.ackd, List.foldl_append]
theorem bd256 {L : List Sp} {lo hi : Int} (h : L.length ≤ 256) : (addS 256 lo hi L).length ≤ 256 := by
  unfold addS
  split
  · exact h
  · unfold boundF
    split
    · rw [List.length_drop]; omega
    · omega
/-- Runs that a ledger may hold. -/
structure AcOk (L : List Sp) : Prop where
  good : Good (-9223372036854775808) 9223372036854775807 L
  len : L.length ≤ 256
theorem AcOk.ok {L : List Sp} (h : AcOk L) : Ok L := ⟨h.good, by have := h.len; omega⟩
theorem AcOk.add {L : List Sp} (h : AcOk L) {lo hi : Int} (hlo : -9223372036854775808 ≤ lo) (hhi : hi ≤ 9223372036854775807) : AcOk (addS 256 lo hi L) := ⟨(addS_good h.good hlo hhi).1, bd256 h.len⟩
theorem AcOk.fold {L : List Sp} (h : AcOk L) : ∀ {rs : List Sp}, (∀ r ∈ rs, -9223372036854775808 ≤ r.1 ∧ r.2 ≤ 9223372036854775807) → AcOk (rs.foldl (fun L x => addS 256 x.1 x.2 L) L) := by
  intro rs
  induction rs generalizing L with
  | nil => exact fun _ => h
  | cons r rs ih => exact fun hr => ih (h.add (hr r (by simp)).1 (hr r (by simp)).2) (fun x hx => hr x (by simp [hx]))
theorem ackF_zero {l : Lg} : ∀ {rs : List Sp}, ackF l rs = 0 → ∀ r ∈ rs, r.1 ≤ r.2 ∧ 0 ≤ r.1 ∧ l.fi ≤ r.1 ∧ r.2 < l.ne
  | [], _, r, hr => by simp at hr
  | x :: t, h, r, hr => by
    unfold ackF at h
    split at h
    · simp at h
    · split at h
      · simp at h
      · rcases List.mem_cons.1 hr with rfl | hr
        · omega
        · exact ackF_zero h r hr
theorem mayAck_zero {l : Lg} {rs : List Sp} (h : l.mayAck rs = 0) : l.op = true ∧ ∀ r ∈ rs, r.1 ≤ r.2 ∧ 0 ≤ r.1 ∧ l.fi ≤ r.1 ∧ r.2 < l.ne := by
  unfold Lg.mayAck at h
  split at h
  · simp at h
  · rename_i h1
    exact ⟨by simpa using h1, ackF_zero h⟩
theorem rds_row {w : World} {v : Value} {L : List Sp} (h : Row w v L) : ∃ a c, v = .slice a L.length c ∧ RdS w a L := by
  rcases Row.at h with ⟨rfl, rfl⟩ | ⟨g, c, sp, rfl, hR⟩
  · exact ⟨none, 0, rfl, .inl rfl⟩
  · refine ⟨_, c, rfl, .inr ⟨g, 0, rfl, fun i r hi => ?_⟩⟩
    have hil := (List.getElem?_eq_some_iff.1 hi).1
    have e : L.getD i (0, 0) = r := by simp [List.getD, hi]
    have c0 := hR.cell (i * 2) _ (cl_lo L i hil)
    have c1 := hR.cell (i * 2 + 1) _ (cl_hi L i hil)
    rw [e] at c0 c1
    rw [Nat.zero_add]
    exact ⟨c0, c1⟩

theorem ack_bad (b q : Nat) (kv va : Value) (l : Lg) (R : Nat → Prop) (w : World) (v : Value) (rs : List Sp) (h : LgAt R w b q kv va l) (hv : Row w v rs) (hr : rs.length ≤ 1100000) (hm : l.mayAck rs ≠ 0) :
    Calls Tryz.prog 15 #[.pointer (some ⟨b, 0, none⟩), v] w fun e w' => e = .returned (.tuple #[.slice none 0 0, .int .i64 (l.mayAck rs)]) ∧ w.grownBy w' none := by
  obtain ⟨a, c, rfl, rd⟩ := rds_row hv
  have hc := mayack_any b q kv l a rs.length c rs rfl (by omega) w h.blk rd
  generalize l.mayAck rs = m at *
  clear h hv rd
  generalize rs.length = n at *
  go_enter Tryz.func15, Tryz.ntmps15
  go_wp2_with fail
  refine hc.mono ?_
  rintro e Y ⟨rfl, gY⟩
  have GY := hide gY
  clear gY hc
  go_wp2_with fail
  all_goals go_ret2
  all_goals exact ⟨rfl, unhide GY⟩

/-- What Ack leaves. -/
def AkP (R : Nat → Prop) (w : World) (b q : Nat) (kv va : Value) (l : Lg) (rs : List Sp) (e : Ending) (w' : World) : Prop :=
  ∃ (P : List Sp) (ov : Value) (Ro : Nat → Prop) (kv' va' : Value), P.Perm rs ∧ e = .returned (.tuple #[ov, .int .i64 0]) ∧ KvAt Ro w' ov (l.ks.filter (fun s => memB s.nu (putL [] P))) ∧ (∀ g, Ro g → w.heap.size ≤ g ∧ g < w'.heap.size) ∧ (∀ g, ov.ownBlock = some g → w.heap.size ≤ g ∧ ¬ Ro g) ∧ LgAt R w' b q kv' va' ((l.ackd rs).left (fun k => memB k (putL [] P))) ∧ kv'.ownBlock = kv.ownBlock ∧ (va'.ownBlock = va.ownBlock ∨ ∀ g, va'.ownBlock = some g → w.heap.size ≤ g) ∧ Kp (fun x => x = b ∨ x = q ∨ kv.ownBlock = some x ∨ va.ownBlock = some x) w w'
/-- Between two runs. -/
def AkI (R : Nat → Prop) (w : World) (b q : Nat) (kv va : Value) (l : Lg) (rs : List Sp) (wr : World) : Prop :=
  ∃ va', LgAt R wr b q kv va' (l.ackd rs) ∧ Kp (fun x => x = b ∨ x = q ∨ va.ownBlock = some x) w wr ∧ (va'.ownBlock = va.ownBlock ∨ ∀ g, va'.ownBlock = some g → w.heap.size ≤ g)

theorem AkI.drew {R : Nat → Prop} {w : World} {b q : Nat} {kv va : Value} {l : Lg} {rs : List Sp} {wr : World} (h : AkI R w b q kv va l rs wr) : AkI R w b q kv va l rs wr.drew := by
  obtain ⟨va', h1, h2, h3⟩ := h
  exact ⟨va', h1.grown (grown_drew' (grown_self _ _)), ⟨h2.os, h2.tape, h2.output, h2.size, h2.block⟩, h3⟩
theorem enters_add : Enters Tryz.prog 41 := Go.Proofs.enters_of Tryz.func41 (by kernel_rfl) rfl
theorem ack_ok (b q : Nat) (kv va : Value) (l : Lg) (R : Nat → Prop) (w : World) (v : Value) (rs : List Sp) (h : LgAt R w b q kv va l) (hv : Row w v rs) (hvb : ∀ g, v.ownBlock = some g → g ≠ b ∧ g ≠ q ∧ va.ownBlock ≠ some g) (hr : rs.length ≤ 1100000) (hm : l.mayAck rs = 0) (hac : AcOk l.ac) (hne : l.ne ≤ 4611686018427387904) (hn : l.ks.length ≤ 1100000) :
    Calls Tryz.prog 15 #[.pointer (some ⟨b, 0, none⟩), v] w fun e w' => AkP R w b q kv va l rs e w' := by
  obtain ⟨hop, hrs⟩ := mayAck_zero hm
  obtain ⟨a, c, hva, rd⟩ := rds_row hv
  subst hva
  have hrb : ∀ r ∈ rs, -9223372036854775808 ≤ r.1 ∧ r.2 ≤ 9223372036854775807 := fun r hx => by have := hrs r hx; omega
  have hc := mayack_any b q kv l a rs.length c rs rfl (by omega) w h.blk rd
  rw [hm] at hc
  obtain ⟨N, hN⟩ : ∃ N, N = rs.length := ⟨_, rfl⟩
  rw [← hN] at hc hv hvb ⊢
  have hNI : ¬ (9223372036854775807 : Int) < (N : Int) := by omega
  have INIT : Hid (∀ Y, w.grownBy Y none → AkI R w b q kv va l [] Y) := fun Y gY => ⟨va, h.grown gY, Kp.grown gY _, .inl rfl⟩
  have ROW : Hid (∀ wr, Kp (fun x => x = b ∨ x = q ∨ va.ownBlock = some x) w wr → Row wr (.slice a N c) rs) := fun wr k => row_kept hv fun g e => k.block g (row_lt hv g e) (fun e2 => by
    have := hvb g e
    rcases e2 with e2 | e2 | e2
    · exact this.1 e2
    · exact this.2.1 e2
    · exact this.2.2 e2)
  have LAST : Hid (∀ wr, AkI R w b q kv va l rs wr → ∀ (X : World) (bs : Nat) (P : List Sp), P.Perm rs → LS wr X bs 0 (putL [] P) → Calls Tryz.prog 42 #[.pointer (some ⟨b, 0, none⟩), .func (.func 44) #[.pointer (some ⟨bs, 0, none⟩)] #[]] X fun e w' => ∃ ov, e = .returned ov ∧ AkP R w b q kv va l rs (.returned (.tuple #[ov, .int .i64 0])) w') := by
    rintro wr ⟨va', L1, k1, o1⟩ X bs P hP hLS
    obtain ⟨sv, hs, hf⟩ := hLS.at_
    have gX := hLS.grown
    have hbs := hLS.new
    have s1 := k1.size
    have hokP : Ok (putL [] P) := by
      have hg := putL_good (L := []) (P := P) trivial (fun s hs => hrb s (hP.mem_iff.1 hs))
      exact ⟨hg.1, by have := hg.2; have := hP.length_eq; simp at *; omega⟩
    have hM : Mn X kv.ownBlock 44 #[.pointer (some ⟨bs, 0, none⟩)] #[] (fun k => memB k (putL [] P)) := by
      refine ⟨Go.Proofs.enters_of Tryz.func44 (by kernel_rfl) rfl, fun Z k gZ => ?_⟩
      have hne : ∀ x, wr.heap.size ≤ x → x < X.heap.size → Z.heap[x]? = X.heap[x]? := fun x hx1 hx2 => gZ.block x hx2 (fun e => by have := L1.row.lt x e.symm; omega)
      have hbX : Blk X bs _ 116 := hs.blk
      have hsZ : SetAt Z bs 0 sv (putL [] P) := hs.kept (hne bs hbs hbX.lt) (fun g e => hne g (hf g e) (row_lt hs.row g e))
      exact (has_any bs 0 k sv (putL [] P) Z hsZ hokP).mono fun e w' hp => hp
    refine (take_any b q kv va' (l.ackd rs) R X _ _ _ _ hM (L1.grown gX) hn).mono ?_
    rintro e w' ⟨ov, Ro, kv', rfl, p2, p3, p4, p5, p6, p7⟩
    have s2 := gX.size
    refine ⟨ov, rfl, P, ov, Ro, kv', va', hP, rfl, p2, fun g e => ⟨by have := (p3 g e).1; omega, (p3 g e).2⟩, fun g e => ⟨by have := (p4 g e).1; omega, (p4 g e).2⟩, p5, p6, o1, ?_⟩
    refine ⟨p7.os.trans (gX.os.trans k1.os), p7.tape.trans (gX.tape.trans k1.tape), p7.output.trans (gX.output.trans k1.output), by have := p7.size; omega, fun x hx hn => (p7.block x (by omega) (fun e => ?_)).trans ((gX.block x (by omega) (by simp)).trans (k1.block x hx (fun e => ?_)))⟩
    · rcases e with e | e
      · exact hn (.inl e)
      · exact hn (.inr (.inr (.inl e)))
    · rcases e with e | e | e
      · exact hn (.inl e)
      · exact hn (.inr (.inl e))
      · exact hn (.inr (.inr (.inr e)))
  have HRB := hide hrb
  have HAC := hide hac
  have HN := hide (And.intro hN hr)
  clear h hv hvb hm hac hrs rd hrb hN
  go_enter Tryz.func15, Tryz.ntmps15
  go_wp2_with fail
  refine hc.mono ?_
  rintro e Y ⟨rfl, gY⟩
  have I0 := hide (unhide INIT Y gY)
  clear gY hc INIT
  go_wp2_with fail
  go_loopw [17] (fun iv wr => ∃ (k : Nat), k ≤ N ∧ iv = .int .i64 k ∧ Hid (AkI R w b q kv va l (rs.take k) wr)) (fun iv _ => N - (intOf iv).toNat)
  case atStart => exact ⟨0, Nat.zero_le _, rfl, I0⟩
  case round =>
    clear I0
    obtain ⟨k, hk, rfl, I⟩ := hrel
    by_cases hlt : k < N
    · have hkI : (k : Int) < (N : Int) := by omega
      have hk0 : (0 : Int) ≤ (k : Int) := by omega
      obtain ⟨va', L1, k1, o1⟩ := unhide I
      obtain ⟨l1, hl1⟩ : ∃ l1, l1 = l.ackd (rs.take k) := ⟨_, rfl⟩
      rw [← hl1] at L1
      obtain ⟨r, hx⟩ : ∃ r, rs[k]? = some r := ⟨_, List.getElem?_eq_getElem (by rw [← (unhide HN).1]; exact hlt)⟩
      have hr1 := unhide HRB r (List.mem_of_getElem? hx)
      have rd := rds_row (unhide ROW wr k1)
      obtain ⟨a', c', e1, rd⟩ := rd
      injection e1 with e1 e2 e3
      subst e1
      subst e3
      clear e2
      have hne : rs ≠ [] := fun e => by rw [e] at hx; simp at hx
      obtain ⟨g, off, rfl, rd2⟩ := rd.resolve_left hne
      obtain ⟨y0, y1⟩ := rd2 k r hx
      obtain ⟨W2, hW2⟩ : ∃ W2, W2 = wr.alloc (.cells #[.int .i64 r.1, .int .i64 r.2] 63) := ⟨_, rfl⟩
      have g2 : wr.grownBy W2 none := by rw [hW2]; exact grown_alloc _ _
      have B2 : Blk W2 wr.heap.size #[.int .i64 r.1, .int .i64 r.2] 63 := by rw [hW2]; exact Blk.new wr _ _
      obtain ⟨bs, hbs⟩ : ∃ bs, bs = wr.heap.size := ⟨_, rfl⟩
      rw [← hbs] at B2
      have L2 := L1.grown g2
      have hok1 : AcOk l1.ac := by rw [hl1]; exact (unhide HAC).fold (rs := rs.take k) (fun x hx => unhide HRB x (List.mem_of_mem_take hx))
      have hadd := add_most (L2.grown (grown_drew' (grown_self W2 none))).set hok1.ok r.1 r.2 hr1.1 hr1.2
      have POST : Hid (∀ e Z, AddPost q 256 va' W2.drew (addN r.1 r.2 l1.ac) (addS 256 r.1 r.2 l1.ac) e Z → e = .returned (.int .u64 (addN r.1 r.2 l1.ac)) ∧ Blk Z bs #[.int .i64 r.1, .int .i64 r.2] 63 ∧ Blk Z b (l1.cs kv q) 75 ∧ Hid (∀ Z2, Z2 = Z.setCell ⟨b, 3, none⟩ (.int .i64 (max l1.la r.2)) → AkI R w b q kv va l (rs.take (k + 1)) Z2)) := by
        intro e Z hp
        obtain ⟨he, va2, LZ, kZ, oZ⟩ := (L2.grown (grown_drew' (grown_self W2 none))).acks hp
        have sW := g2.size
        have dL := L1.diff
        refine ⟨he, ?_, LZ.blk, ?_⟩
        · refine (kZ.block bs B2.lt (fun e => ?_)).trans B2
          rcases e with e | e
          · have hq : Blk wr q _ 116 := L1.set.blk
            have := hq.lt
            omega
          · have := row_lt L1.set.row bs e
            omega
        · intro Z2 hZ2
          subst hZ2
          refine ⟨va2, ?_, ?_, ?_⟩
          · rw [take_at hx, ackd_snoc, ← hl1]
            exact LZ.set1 3 _ rfl rfl rfl
          · refine Kp.set ?_ b 3 _ (fun _ => .inl rfl)
            have sz : W2.drew.heap.size ≤ Z.heap.size := kZ.size
            have sz2 : W2.heap.size ≤ Z.heap.size := sz
            have s1 := k1.size
            refine ⟨kZ.os.trans (g2.os.trans k1.os), kZ.tape.trans (g2.tape.trans k1.tape), kZ.output.trans (g2.output.trans k1.output), by omega, fun x hx hn => (kZ.block x (by show x < W2.heap.size; omega) (fun e => ?_)).trans ((g2.block x (by omega) (by simp)).trans (k1.block x hx hn))⟩
            rcases e with e | e
            · exact hn (.inr (.inl e))
            · rcases o1 with q1 | q1
              · exact hn (.inr (.inr (by rw [← q1]; exact e)))
              · have := q1 x e; omega
          · rcases oZ with q1 | q1
            · rcases o1 with q2 | q2
              · exact .inl (q1.trans q2)
              · exact .inr fun g e => q2 g (by rw [← q1]; exact e)
            · exact .inr fun g e => Nat.le_trans k1.size (Nat.le_trans sW (q1 g e))
      have LB := L2.blk
      have z7 : W2.cell? ⟨b, 7, none⟩ = some (.pointer (some ⟨q, 0, none⟩)) := LB.cell 7 _ rfl
      have z0 : W2.cell? ⟨bs, 0, none⟩ = some (.int .i64 r.1) := B2.cell 0 _ rfl
      have z1 : W2.cell? ⟨bs, 1, none⟩ = some (.int .i64 r.2) := B2.cell 1 _ rfl
      have nb : b ≠ bs := by have := L1.blk.lt; omega
      have q0 : W2.drew.cell? ⟨b, 7, none⟩ = some (.pointer (some ⟨q, 0, none⟩)) ∧ W2.drew.cell? ⟨bs, 0, none⟩ = some (.int .i64 r.1) ∧ W2.drew.cell? ⟨bs, 1, none⟩ = some (.int .i64 r.2) := ⟨z7, z0, z1⟩
      clear L1 k1 o1 rd rd2 hne hx L2 LB B2 g2 I hok1 hl1 z7 z0 z1
      go_upto_region 7 with fail
      rw [← hW2, ← hbs]
      replace hW2 := hide hW2
      replace hbs := hide hbs
      clear y0 y1
      refine wp_region_held_drew (S := fun Z => Z.cell? ⟨b, 7, none⟩ = some (.pointer (some ⟨q, 0, none⟩)) ∧ Z.cell? ⟨bs, 0, none⟩ = some (.int .i64 r.1) ∧ Z.cell? ⟨bs, 1, none⟩ = some (.int .i64 r.2)) (by kernel_rfl) q0 (fun hHeld => ?_)
      refine wpAnyH_take (i := 0) (v := ?_) rfl (by as_aux_lemma => kernel_rfl) (by as_aux_lemma => kernel_rfl) (by as_aux_lemma => kernel_rfl) (fun _ _ _ h => h) (Or.inl ⟨by rfl, ?_⟩) (by assumption) ?_
      rotate_left
      · intro wH hSw
        try dsimp only at hSw
        obtain ⟨s0q, s1q, s2q⟩ := hSw
        go_simp
        try with_reducible rfl
      try simp only [Act.put, List.setIfInBounds_toArray, List.set_cons_zero, List.set_cons_succ]
      refine wpAnyH_take (i := 1) (v := ?_) rfl (by as_aux_lemma => kernel_rfl) (by as_aux_lemma => kernel_rfl) (by as_aux_lemma => kernel_rfl) (fun _ _ _ h => h) (Or.inl ⟨by rfl, ?_⟩) (by assumption) ?_
      rotate_left
      · intro wH hSw
        try dsimp only at hSw
        obtain ⟨s0q, s1q, s2q⟩ := hSw
        go_simp
        try with_reducible rfl
      try simp only [Act.put, List.setIfInBounds_toArray, List.set_cons_zero, List.set_cons_succ]
      refine wpAnyH_take (i := 2) (v := ?_) rfl (by as_aux_lemma => kernel_rfl) (by as_aux_lemma => kernel_rfl) (by as_aux_lemma => kernel_rfl) (fun _ _ _ h => h) (Or.inl ⟨by rfl, ?_⟩) (by assumption) ?_
      rotate_left
      · intro wH hSw
        try dsimp only at hSw
        obtain ⟨s0q, s1q, s2q⟩ := hSw
        go_simp
        try with_reducible rfl
      try simp only [Act.put, List.setIfInBounds_toArray, List.set_cons_zero, List.set_cons_succ]
      refine wpAnyH_take (i := 3) (v := ?_) rfl (by as_aux_lemma => kernel_rfl) (by as_aux_lemma => kernel_rfl) (by as_aux_lemma => kernel_rfl) (fun _ _ _ h => h) (Or.inl ⟨by rfl, ?_⟩) (by assumption) ?_
      rotate_left
      · intro wH hSw
        try dsimp only at hSw
        obtain ⟨s0q, s1q, s2q⟩ := hSw
        go_simp
        try with_reducible rfl
      try simp only [Act.put, List.setIfInBounds_toArray, List.set_cons_zero, List.set_cons_succ]
      refine wpAnyH_take (i := 4) (v := ?_) rfl (by as_aux_lemma => kernel_rfl) (by as_aux_lemma => kernel_rfl) (by as_aux_lemma => kernel_rfl) (fun _ _ _ h => h) (Or.inl ⟨by rfl, ?_⟩) (by assumption) ?_
      rotate_left
      · intro wH hSw
        try dsimp only at hSw
        obtain ⟨s0q, s1q, s2q⟩ := hSw
        go_simp
        try with_reducible rfl
      try simp only [Act.put, List.setIfInBounds_toArray, List.set_cons_zero, List.set_cons_succ]
      refine wpAnyH_take (i := 5) (v := ?_) rfl (by as_aux_lemma => kernel_rfl) (by as_aux_lemma => kernel_rfl) (by as_aux_lemma => kernel_rfl) (fun _ _ _ h => h) (Or.inl ⟨by rfl, ?_⟩) (by assumption) ?_
      rotate_left
      · intro wH hSw
        try dsimp only at hSw
        obtain ⟨s0q, s1q, s2q⟩ := hSw
        go_simp
        try with_reducible rfl
      try simp only [Act.put, List.setIfInBounds_toArray, List.set_cons_zero, List.set_cons_succ]
      refine wpAnyH_take (i := 6) (v := ?_) rfl (by as_aux_lemma => kernel_rfl) (by as_aux_lemma => kernel_rfl) (by as_aux_lemma => kernel_rfl) (fun _ _ _ h => h) (Or.inl ⟨by rfl, ?_⟩) (by assumption) ?_
      rotate_left
      · intro wH hSw
        try dsimp only at hSw
        obtain ⟨s0q, s1q, s2q⟩ := hSw
        go_simp
        try with_reducible rfl
      try simp only [Act.put, List.setIfInBounds_toArray, List.set_cons_zero, List.set_cons_succ]
      refine wpAnyH_take (i := 7) (v := ?_) rfl (by as_aux_lemma => kernel_rfl) (by as_aux_lemma => kernel_rfl) (by as_aux_lemma => kernel_rfl) (fun _ _ _ h => h) (Or.inl ⟨by rfl, ?_⟩) (by assumption) ?_
      rotate_left
      · intro wH hSw
        try dsimp only at hSw
        obtain ⟨s0q, s1q, s2q⟩ := hSw
        go_simp
        try with_reducible rfl
      try simp only [Act.put, List.setIfInBounds_toArray, List.set_cons_zero, List.set_cons_succ]
      refine wpAnyH_ready (rs := [8]) (by as_aux_lemma => kernel_rfl) (by simp) ?_
      refine AllReadyH.cons rfl (fun KH hKH => ?_) AllReadyH.nil
      (refine step_call (by rfl) 41 #[.pointer (some ⟨q, 0, none⟩), .int .i64 r.1, .int .i64 r.2] enters_add #[Operand.tmp 24, Operand.tmp 26, Operand.tmp 28] #[71, 2, 2] (by rfl) (by simp [Act.eval]) hadd ?_; intro e Z hp; obtain ⟨rfl, zb, zl, ZF⟩ := unhide POST e Z hp; refine ⟨_, rfl, ?_⟩; have qZ : Z.cell? ⟨b, 7, none⟩ = some (.pointer (some ⟨q, 0, none⟩)) ∧ Z.cell? ⟨bs, 0, none⟩ = some (.int .i64 r.1) ∧ Z.cell? ⟨bs, 1, none⟩ = some (.int .i64 r.2) := ⟨zl.cell 7 _ rfl, zb.cell 0 _ rfl, zb.cell 1 _ rfl⟩; have c3 : Z.cell? ⟨b, 3, none⟩ = some (.int .i64 l1.la) := zl.cell 3 _ rfl; have t3 := zl.thaw 3; have c1 : Z.cell? ⟨bs, 1, none⟩ = some (.int .i64 r.2) := zb.cell 1 _ rfl; clear zb zl hp)
      refine hKH.out _ _ qZ (fun hHeld8 => ?_)
      clear hKH KH
      try simp only [Act.put, List.setIfInBounds_toArray, List.set_cons_zero, List.set_cons_succ]
      refine wpAnyH_done (by as_aux_lemma => kernel_rfl) ?_ _
      clear q0 qZ hadd POST
      go_upto_region 8 with fail
      go_region
      all_goals go_wp2_with fail
      all_goals go_roundw
      all_goals first | exact ⟨k + 1, hlt, by go_num, unhide ZF _ rfl⟩ | exact ⟨k + 1, hlt, by go_num, (unhide ZF _ rfl).drew⟩ | (simp [intOf]; omega)
    · obtain rfl : k = N := by omega
      have hkI : ¬ (k : Int) < (k : Int) := by omega
      have hI := unhide I
      rw [List.take_of_length_le (by rw [(unhide HN).1]; exact Nat.le_refl _)] at hI
      obtain ⟨va', L1, k1, o1⟩ := hI
      have hrow := unhide ROW wr k1
      have hof := of_any0 sort_ok (.slice a k c) rs wr (unhide HRB) (by have := (unhide HN).2; omega) (clone_row _ rs wr hrow (by have := (unhide HN).2; omega))
      have TK := hide (unhide LAST wr ⟨va', L1, k1, o1⟩)
      clear hrow L1 k1 o1 I LAST ROW
      go_wp2_with fail
      refine hof.mono ?_
      rintro e X ⟨bs, P, rfl, hP, -, hLS⟩
      have ht := unhide TK X bs P hP hLS
      clear hof TK hP hLS
      go_wp2_with fail
      refine ht.mono ?_
      rintro e w' ⟨ov, rfl, hA⟩
      have HA := hide hA
      clear ht hA
      go_wp2_with fail
      go_ret2
      exact unhide HA
end Go.Proofs.YtnflbefbgcbdfaaGreat
