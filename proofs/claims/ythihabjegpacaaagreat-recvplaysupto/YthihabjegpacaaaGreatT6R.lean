/- recv: hold. -/
import Derived.Test.YthihabjegpacaaaGreatT6Q
import Derived.Deep.RegionHeld3
import Derived.Deep.DeepCutAuto
namespace Go.Proofs.YthihabjegpacaaaGreat
open Go.RowKit
set_option linter.unusedVariables false
set_option linter.unusedSimpArgs false
set_option maxHeartbeats 4000000
set_option maxRecDepth 100000

/-- Bytes that lie outside. -/
def Out (w : World) (M : Nat → Prop) (a : Option Addr) (p : List Int) : Prop := p ≠ [] → ∀ pb off, a = some ⟨pb, off, none⟩ → ¬ M pb ∧ pb < w.heap.size
/-- What hold has gathered. -/
structure HG (W : World) (p : List Int) (off : Int) (Mi : List He) (H : List Sp) (X : World) (v : Value) (N : List He) : Prop where
  gr : W.grownBy X none
  row : Pq.Row0 X v ((Mi ++ N).map pcOf)
  fr : Fresh W v
  nw : News p off H N
  pcs : ∀ e ∈ N, Blk X e.g (by8 e.p) 5 ∧ W.heap.size ≤ e.g
/-- Blocks of another kind are kept. -/
def NoP (X Y : World) : Prop := ∀ k cs t, Blk X k cs t → t ≠ 88 → Blk Y k cs t
theorem NoP.grown {X Y : World} (g : X.grownBy Y none) : NoP X Y := fun k cs t h _ => h.grown g
theorem NoP.trans {X Y Z : World} (h : NoP X Y) (k : NoP Y Z) : NoP X Z := fun j cs t b ht => k j cs t (h j cs t b ht) ht
section
variable {W X : World} {v : Value} {Mi N : List He} {p : List Int} {off : Int} {H : List Sp}
/-- One more. -/
theorem HG.next (h : HG W p off Mi H X v N) (lo hi : Int) {X1 X9 : World} (g1 : X.grownBy X1 none) {g m : Nat} (hm : (partP p off lo hi).length = m) (bg : Blk X9 g (by8 (partP p off lo hi)) 5) (hg : X1.heap.size ≤ g) (g9 : X1.grownBy X9 none) (hlen : (Mi ++ N).length + 1 ≤ 1000000000) :
    ∃ v' w', (Builtin.append_ #[51, 51] 51 #[v, .slice (some ⟨X9.heap.size, 0, none⟩) 1 1]).run Tryz.prog (X9.alloc (.cells #[.int .i64 lo, .slice (some ⟨g, 0, none⟩) m m] 88)) = .ok v' w' ∧ (∃ a n c, v' = .slice a n c) ∧ HG W p off Mi (H ++ [(lo, hi)]) w' v' (N ++ [⟨lo, partP p off lo hi, g⟩]) ∧ (X9.alloc (.cells #[.int .i64 lo, .slice (some ⟨g, 0, none⟩) m m] 88)).grownBy w' v.ownBlock ∧ NoP X w' := by
  subst hm
  obtain ⟨Xa, hXa⟩ : ∃ Xa, Xa = X9.alloc (.cells #[.int .i64 lo, .slice (some ⟨g, 0, none⟩) (partP p off lo hi).length (partP p off lo hi).length] 88) := ⟨_, rfl⟩
  rw [← hXa]
  have ga : X9.grownBy Xa none := by rw [hXa]; exact grown_alloc _ _
  have ba : Blk Xa X9.heap.size #[.int .i64 lo, .slice (some ⟨g, 0, none⟩) (partP p off lo hi).length (partP p off lo hi).length] 88 := by rw [hXa]; exact Blk.new _ _ _
  have gXa := grown_trans g1 (grown_trans g9 ga)
  have row := h.row.grown gXa
  have hc : ∀ j u, (Pq.cl [pcOf ⟨lo, partP p off lo hi, g⟩])[j]? = some u → Xa.cell? (Addr.add ⟨X9.heap.size, 0, none⟩ j) = some u := fun j u hj => by
    rw [Addr.add_lit, Nat.zero_add]
    match j, hj with
    | 0, hj => cases hj; exact ba.cell 0 _ rfl
    | 1, hj => cases hj; exact ba.cell 1 _ rfl
  obtain ⟨v', w', hr, hrow, hmo, hnn⟩ := Pq.app0 Xa v ((Mi ++ N).map pcOf) [pcOf ⟨lo, partP p off lo hi, g⟩] 51 row ⟨X9.heap.size, 0, none⟩ 1 hc (by simp) (by rw [List.length_map]; simp only [List.length_cons, List.length_nil]; omega)
  have gw := Moved.fresh (grown_trans h.gr gXa) h.fr hmo
  have kv : Xa.grownBy w' v.ownBlock := by
    rcases hmo with ⟨_, q⟩ | ⟨_, q, _⟩
    · exact q
    · exact ⟨q.os, q.tape, q.output, q.size, fun k hk _ => q.block k hk (by simp)⟩
  have kp : ∀ {k : Nat} {cs : Array Value} {t : TypeId}, Blk Xa k cs t → t ≠ 88 → Blk w' k cs t := fun {k cs t} hk ht => (kv.block k hk.lt (fun e => row.row.ne_of (show Xa.heap[k]? = some (.cells cs t (0, 0)) from hk) ht e.symm)).trans hk
  refine ⟨v', w', hr, ?_, ⟨gw.1, ?_, gw.2, h.nw.snoc (lo, hi) _ rfl rfl, fun e he => ?_⟩, kv, fun k cs t hk ht => kp (hk.grown gXa) ht⟩
  · rcases hrow with ⟨q, _⟩ | ⟨g', c', sp', q, _⟩
    · exact absurd q hnn
    · exact ⟨_, _, _, q⟩
  · have e : (Mi ++ (N ++ [(⟨lo, partP p off lo hi, g⟩ : He)])).map pcOf = (Mi ++ N).map pcOf ++ [pcOf ⟨lo, partP p off lo hi, g⟩] := by simp
    rw [e]; exact hrow
  · rcases List.mem_append.1 he with he | he
    · exact ⟨kp ((h.pcs e he).1.grown gXa) (by decide), (h.pcs e he).2⟩
    · simp only [List.mem_singleton] at he
      subst he
      exact ⟨kp (bg.grown ga) (by decide), Nat.le_trans (Nat.le_trans h.gr.size g1.size) hg⟩
end

section
variable {w W : World} {M : Nat → Prop} {b bk : Nat} {vh : Value} {E : List He} {S : Rv}

/-- The row, with its address. -/
theorem RA.held2 (h : RA w M b bk vh E W S) : (vh = .slice none 0 0 ∧ E = []) ∨ ∃ g q c, vh = .slice (some ⟨g, q, none⟩) E.length c ∧ E.length ≤ c ∧ c ≤ 9223372036854775807 ∧ ∀ i x, E[i]? = some x → W.cell? ⟨g, q + i * 2, none⟩ = some (.int .i64 x.off) ∧ W.cell? ⟨g, q + i * 2 + 1, none⟩ = some (.slice (some ⟨x.g, 0, none⟩) x.p.length x.p.length) := by
  rcases h.row with ⟨rfl, h0⟩ | ⟨g, pr, c, sp, rfl, hR⟩
  · exact .inl ⟨rfl, List.map_eq_nil_iff.1 h0⟩
  · have e : (E.map pcOf).length = E.length := List.length_map _
    refine .inr ⟨g, pr.length, c, by rw [e], by have := hR.2.1; rw [e] at this; omega, by have := hR.2.2; unfold maxLen at this; omega, fun i x hx => ?_⟩
    have hx' : (E.map pcOf)[i]? = some (pcOf x) := by rw [List.getElem?_map, hx]; rfl
    exact ⟨hR.cell _ _ (Pq.cl_off _ i _ hx'), by rw [Nat.add_assoc]; exact hR.cell _ _ (Pq.cl_data _ i _ hx')⟩

/-- Clone of those in the midst. -/
theorem RA.clone (h : RA w M b bk vh E W S) {A Mi D : List He} (hE : E = A ++ (Mi ++ D)) (a : Option Addr) (c : Nat) (ha : Mi = [] ∨ ∃ g q, a = some ⟨g, q + A.length * 2, none⟩ ∧ ∀ i x, E[i]? = some x → W.cell? ⟨g, q + i * 2, none⟩ = some (.int .i64 x.off) ∧ W.cell? ⟨g, q + i * 2 + 1, none⟩ = some (.slice (some ⟨x.g, 0, none⟩) x.p.length x.p.length)) (hs : ∀ ad, a = some ad → ad.spot = none) {X : World} (g1 : W.grownBy X none) (hl : E.length ≤ 1000000000) :
    Calls Tryz.prog 46 #[.slice a Mi.length c] X fun e Y => ∃ v, e = .returned v ∧ Pq.Row0 Y v (Mi.map pcOf) ∧ Fresh X v ∧ X.grownBy Y none := by
  cases a with
  | none =>
    have : Mi = [] := ha.resolve_right (fun ⟨g, q, e, _⟩ => by cases e)
    subst this
    refine (Pq.clone_nil X 0 c).mono ?_
    rintro e Y ⟨rfl, rfl⟩
    exact ⟨_, rfl, .inl ⟨rfl, rfl⟩, fun k e => (by cases e), grown_self _ _⟩
  | some ad =>
    obtain ⟨g, o, sp⟩ := ad
    have e0 : sp = none := hs _ rfl
    subst e0
    have hlM : Mi.length * 32 ≤ 140737488355328 := by
      have : E.length = A.length + (Mi.length + D.length) := by rw [hE]; simp
      omega
    refine Pq.clone_part0 g o Mi.length c (Mi.map pcOf) X (List.length_map _) (fun j u hj => ?_) hlM
    have hjl : j < (Pq.cl (Mi.map pcOf)).length := (List.getElem?_eq_some_iff.1 hj).1
    rw [Pq.cl_length, List.length_map] at hjl
    have hne : Mi ≠ [] := fun e => by rw [e] at hjl; simp at hjl
    obtain ⟨g', q, e, hc⟩ := ha.resolve_left hne
    cases e
    have hd : j / 2 < Mi.length := by omega
    have hx : E[A.length + j / 2]? = some Mi[j / 2] := by
      rw [hE, List.getElem?_append_right (by omega), Nat.add_sub_cancel_left, List.getElem?_append_left hd, List.getElem?_eq_getElem hd]
    have hx' : (Mi.map pcOf)[j / 2]? = some (pcOf Mi[j / 2]) := by rw [List.getElem?_map, List.getElem?_eq_getElem hd]; rfl
    have hcc := hc _ _ hx
    rw [Addr.add_lit]
    rcases Nat.mod_two_eq_zero_or_one j with h | h
    · have e1 := Pq.cl_off _ _ _ hx'
      rw [show j / 2 * 2 = j by omega, hj] at e1
      rw [e1, show q + A.length * 2 + j = q + (A.length + j / 2) * 2 by omega]
      exact cell_grown hcc.1 g1
    · have e1 := Pq.cl_data _ _ _ hx'
      rw [show j / 2 * 2 + 1 = j by omega, hj] at e1
      rw [e1, show q + A.length * 2 + j = q + (A.length + j / 2) * 2 + 1 by omega]
      exact cell_grown hcc.2 g1

theorem RA.holes (h : RA w M b bk vh E W S) (ok : Ok S.K) (lo hi : Int) (hlo : -9223372036854775808 ≤ lo) (hhi : hi ≤ 9223372036854775807) :
    Calls Tryz.prog 47 #[ptr bk, .int .i64 lo, .int .i64 hi] W fun e W' => ∃ v', e = .returned v' ∧ Row W' v' (holesK S.K lo hi) ∧ Fresh W v' ∧ W.grownBy W' none := by
  obtain ⟨va, s, m⟩ := h.set
  unfold holesK
  by_cases hlh : hi < lo
  · rw [if_pos hlh]
    refine (holes_gt bk lo hi W hlh).mono ?_
    rintro e w' ⟨rfl, hw⟩
    subst hw
    exact ⟨_, rfl, row_nil _, fun k e => (by cases e), grown_self _ _⟩
  · rw [if_neg hlh]
    exact holes_any bk 0 lo hi va S.K W s ok (by omega) hlo hhi
theorem RA.addK (h : RA w M b bk vh E W S) (ok : Ok S.K) (lo hi : Int) (hlo : -9223372036854775808 ≤ lo) (hhi : hi ≤ 9223372036854775807) :
    Calls Tryz.prog 37 #[ptr bk, .int .i64 lo, .int .i64 hi] W fun e W' => ∃ n, e = .returned (.int .u64 n) ∧ RA w M b bk vh E W' { S with K := addS 0 lo hi S.K } := by
  obtain ⟨va, s, m⟩ := h.set
  refine (add_post s ok lo hi hlo hhi).mono ?_
  rintro e W' ⟨rfl, ⟨va', s', ho⟩, t⟩
  exact ⟨_, rfl, h.setK s m s' ho t⟩
theorem RA.last (h : RA w M b bk vh E W S) {S' : Rv} (e : rvc bk vh S' = rvc bk vh S) (eK : S'.K = S.K) : RA w M b bk vh E W S' := ⟨h.kp, by rw [e]; exact h.blk, by rw [eK]; exact h.set, h.row, h.pcs, h.mb, h.mq, h.mh⟩

/-- Nothing comes, nothing goes. -/
theorem Pq.replace_void (v : Value) (A D : List Pq.Pc) (a : Option Addr) (c : Nat) (w : World) (hrow : Pq.Row w v (A ++ D)) :
    Calls Tryz.prog 51 #[v, .int .i64 A.length, .int .i64 A.length, .slice a 0 c] w fun e w' => e = .returned v ∧ w' = w := by
  have hins := Pq.insert_none v A D a c w hrow
  rcases Pq.Row.at hrow with ⟨rfl, h0⟩ | ⟨g, pr, cp, sp, rfl, hR⟩
  · obtain ⟨rfl, rfl⟩ := List.append_eq_nil_iff.1 h0
    go_enter Tryz.func51, Tryz.ntmps51
    go_wp2_with (refine hins.mono ?_; rintro e w' ⟨rfl, h1⟩; subst h1)
    all_goals go_ret
    all_goals exact ⟨rfl, rfl⟩
  · have hcm := hR.2.2; unfold maxLen at hcm
    have hsz := hR.2.1
    simp only [List.length_append] at hsz hins ⊢
    clear hrow hR
    generalize pr.length = q at *
    generalize A.length = i at *
    generalize D.length = d at *
    have hb2 : (i : Int) ≤ (cp : Int) := by omega
    clear hsz
    go_enter Tryz.func51, Tryz.ntmps51
    go_wp2_with (refine hins.mono ?_; rintro e w' ⟨rfl, h1⟩; subst h1)
    all_goals go_ret
    all_goals exact ⟨rfl, rfl⟩

/-- Those in the midst are replaced. -/
theorem RA.replace (h : RA w M b bk vh E W S) {A Mi D P : List He} (hE : E = A ++ (Mi ++ D)) (hPM : P = [] → Mi = []) {am : Value} (hr : Pq.Row0 W am (P.map pcOf)) (hn : ∀ g, am.ownBlock = some g → vh.ownBlock ≠ some g) (hl : A.length + Mi.length + D.length + P.length ≤ 1000000000) (i j : Nat) (hi : i = A.length) (hj : j = A.length + Mi.length) :
    Calls Tryz.prog 51 #[vh, .int .i64 i, .int .i64 j, am] W fun e Z => ∃ v', e = .returned v' ∧ Pq.Row Z v' ((A ++ (P ++ D)).map pcOf) ∧ Moved W Z vh v' := by
  subst hi hj
  have hrow : Pq.Row W vh (A.map pcOf ++ (Mi.map pcOf ++ D.map pcOf)) := by have := h.row; rw [hE] at this; simpa using this
  have e2 : (A ++ (P ++ D)).map pcOf = A.map pcOf ++ (P.map pcOf ++ D.map pcOf) := by simp
  rw [e2]
  by_cases hP : P = []
  · have hM := hPM hP
    subst hP hM
    have hs : ∃ a c, am = .slice a 0 c := by
      rcases hr with ⟨q, _⟩ | ⟨g, c, sp, q, _⟩
      · exact ⟨none, 0, q⟩
      · exact ⟨_, c, q⟩
    obtain ⟨a, c, rfl⟩ := hs
    have := Pq.replace_void vh (A.map pcOf) (D.map pcOf) a c W (by simpa using hrow)
    rw [List.length_map] at this
    refine Calls.mono (show Calls Tryz.prog 51 #[vh, .int .i64 A.length, .int .i64 ((A.length + ([] : List He).length : Nat) : Int), .slice a 0 c] W _ from by simpa using this) ?_
    rintro e Z ⟨rfl, rfl⟩
    exact ⟨_, rfl, by simpa using hrow, .inl ⟨rfl, grown_self _ _⟩⟩
  · have hV : Pq.Vs W vh am (P.map pcOf) := by
      rcases hr with ⟨_, q⟩ | ⟨g, c, sp, q, hR⟩
      · exact absurd (List.map_eq_nil_iff.1 q) hP
      · refine .inr ⟨fun q => hP (List.map_eq_nil_iff.1 q), g, c, q, hR.lt, fun g' e e2 => ?_, sp, by have := hR.1; simpa using this⟩
        subst e2
        exact hn g (by rw [q]; rfl) e
    have := Pq.replace_any vh am (A.map pcOf) (Mi.map pcOf) (D.map pcOf) (P.map pcOf) W hrow hV (by simp only [List.length_map]; omega)
    rw [List.length_map, List.length_map] at this
    exact this

def holdS (S : Rv) (off : Int) (p : List Int) : Rv := { S with K := addS 0 off (off + p.length - 1) S.K, T := putT S.T off p }
/-- What hold leaves. -/
def HoldP (w : World) (M : Nat → Prop) (b bk : Nat) (E : List He) (S : Rv) (off : Int) (p : List Int) (W' : World) : Prop := ∃ vh' E', RA w M b bk vh' E' W' (holdS S off p) ∧ HeOk (holdS S off p) E' ∧ E'.length ≤ E.length + p.length

set_option maxHeartbeats 16000000 in
theorem hold_at (h : RA w M b bk vh E W S) (hok : RvK S) (hE : HeOk S E) (nE : E.length ≤ 100000000) (nK : S.K.length ≤ 100000000) (off : Int) (a : Option Addr) (n pc : Nat) (p : List Int) (hp : Rd W a p) (hout : Out w M a p) (hn : p.length = n) (hpc : n ≤ pc ∧ pc ≤ 9223372036854775807) (hnn : n ≤ 100000000) (h0 : 0 ≤ off) (hm : off + n ≤ 4611686018427387903) :
    Calls Tryz.prog 28 #[ptr b, .int .i64 off, .slice a n pc] W fun e W' => e = .returned (.tuple #[]) ∧ HoldP w M b bk E S off p W' := by
  obtain ⟨A, R, hER, hA, hR⟩ := part_off hE.offs off
  have hR2 : R.Pairwise (fun a b => a.off ≤ b.off) := by have := hE.offs; rw [hER] at this; exact (List.pairwise_append.1 this).2.1
  obtain ⟨Mi, D, hRR, hMi, hD⟩ := part_off hR2 (off + n)
  subst hRR
  have hM2 : ∀ e ∈ Mi, off ≤ e.off := fun e he => hR e (List.mem_append_left _ he)
  have lE : E.length = A.length + (Mi.length + D.length) := by rw [hER]; simp
  have hAM : ∀ e ∈ A ++ Mi, e.off < off + n := fun e he => by
    rcases List.mem_append.1 he with he | he
    · have := hA e he; omega
    · exact hMi e he
  have pl1 := place_at h A (Mi ++ D) hER off hA hR (by omega)
  obtain ⟨i, hi⟩ : ∃ i, i = A.length := ⟨_, rfl⟩
  obtain ⟨j, hj⟩ : ∃ j, j = A.length + Mi.length := ⟨_, rfl⟩
  have HIJ := hide (And.intro hi hj)
  rw [← hi] at pl1
  clear hi hj
  have w0 : IntKind.i64.wrap (off + n) = off + n := by rw [IntKind.wrap_i64]; omega
  have w1 : IntKind.i64.wrap (off + n - 1) = off + n - 1 := by rw [IntKind.wrap_i64]; omega
  have HH := hide h
  have HOK := hide hok
  have HE := hide hE
  have HP := hide hp
  have HO := hide hout
  have HN := hide hn
  have PT := hide (And.intro hER (And.intro hA (And.intro hMi (And.intro hM2 (And.intro hD hAM)))))
  have HKL := hide nK
  clear hok hE hp hout hn hER hA hR hR2 hMi hM2 hD hAM nK
  go_enter Tryz.func28, Tryz.ntmps28
  go_wp2_with fail
  refine pl1.mono ?_
  rintro e W1 ⟨rfl, g1⟩
  have pl2 := place_at ((unhide HH).grown g1) (A ++ Mi) D (by rw [(unhide PT).1, List.append_assoc]) (off + n) (unhide PT).2.2.2.2.2 (unhide PT).2.2.2.2.1 (by omega)
  rw [show (A ++ Mi).length = j by rw [(unhide HIJ).2, List.length_append]] at pl2
  have G1 := hide g1
  clear pl1 g1 h
  go_wp2_with fail
  refine pl2.mono ?_
  rintro e W2 ⟨rfl, g2⟩
  have g12 := grown_trans (unhide G1) g2
  have h2 := (unhide HH).grown g12
  have hrow := h2.held2
  obtain ⟨-, -, -, -, c4, c5, -, -⟩ := h2.cells
  have hcl := fun aa cc (ha : _) (hs : _) => RA.clone h2 (A := A) (Mi := Mi) (D := D) (unhide PT).1 aa cc ha hs (World.grownBy.refl W2 none) (by omega)
  rw [show Mi.length = j - i by have := unhide HIJ; omega] at hcl
  have G12 := hide g12
  have C4 := hide c4
  clear pl2 g2 G1 g12 h2 c4
  go_upto_region 2 with fail
  go_cut [9] (fun v wc => ∃ X, X = wc ∧ Hid (Pq.Row0 X v (Mi.map pcOf) ∧ Fresh W v ∧ W.grownBy X none))
  case first =>
    have fin : Hid (∀ X v, Pq.Row0 X v (Mi.map pcOf) → Fresh W2 v → W2.grownBy X none → Hid (Pq.Row0 X v (Mi.map pcOf) ∧ Fresh W v ∧ W.grownBy X none)) := fun X v r f g => ⟨r, fun k e => Nat.le_trans (unhide G12).size (f k e), grown_trans (unhide G12) g⟩
    have hij := unhide HIJ
    rcases hrow with ⟨ev, e0⟩ | ⟨g, q, c, ev, hc1, hc2, hcell⟩
    · have hA0 : A = [] := (List.append_eq_nil_iff.1 ((unhide PT).1 ▸ e0)).1
      have hM0 : Mi = [] := (List.append_eq_nil_iff.1 (List.append_eq_nil_iff.1 ((unhide PT).1 ▸ e0)).2).1
      have cl := fun cc => hcl none cc (.inl hM0) (fun ad e => by cases e)
      rw [ev] at c5
      have b2 : (j : Int) ≤ 0 := by rw [hA0, hM0] at hij; simp at hij; omega
      have b1 : (i : Int) ≤ (j : Int) := by omega
      clear hcl PT HH lE e0 hA0 hM0 ev hij
      go_wp2_with fail
      refine (cl _).mono ?_
      rintro e X ⟨v, rfl, r, f, g⟩
      have F := unhide fin X v r f g
      clear cl fin
      go_wp2_with fail
      go_meet
      exact ⟨_, rfl, F⟩
    · have F1 := hcl (some ⟨g, q, none⟩) 0
      have F2 := hcl (some ⟨g, q + i * 2, none⟩) (c - i) (.inr ⟨g, q, by rw [hij.1], hcell⟩) (fun ad e => by cases e; rfl)
      have HMl : Hid (j - i = 0 → Mi = []) := fun e => List.length_eq_zero_iff.1 (by omega)
      rw [ev] at c5
      have b1 : (i : Int) ≤ (j : Int) := by omega
      have b2 : (j : Int) ≤ (c : Int) := by omega
      have b3 : (i : Int) ≤ (c : Int) := by omega
      have HC : Hid (j ≤ c) := by show j ≤ c; omega
      clear hcl PT HH hcell ev lE nE hij
      by_cases hci : c = i
      · have cl := F1 (.inl (unhide HMl (by have := unhide HC; omega))) (fun ad e => by cases e; rfl)
        clear F1 F2 HMl
        go_wp2_with fail
        refine cl.mono ?_
        rintro e X ⟨v, rfl, r, f, g⟩
        have F := unhide fin X v r f g
        clear cl fin
        go_wp2_with fail
        go_meet
        exact ⟨_, rfl, F⟩
      · have cl := F2
        clear F1 F2 HMl
        go_wp2_with fail
        refine cl.mono ?_
        rintro e X ⟨v, rfl, r, f, g⟩
        have F := unhide fin X v r f g
        clear cl fin
        go_wp2_with fail
        go_meet
        exact ⟨_, rfl, F⟩
  case rest =>
    clear hcl c5 hrow
    obtain ⟨X0, rfl, F⟩ := hcut
    have gX := (unhide F).2.2
    have h3 := (unhide HH).grown gX
    have okK : Ok S.K := ⟨(unhide HOK).gx, by have := unhide HKL; omega⟩
    have hho := h3.holes okK off (off + n - 1) (by omega) (by omega)
    obtain ⟨-, -, -, -, c4, -, -, -⟩ := h3.cells
    have OKK := hide okK
    clear h3 gX okK
    go_wp2_with fail
    refine hho.mono ?_
    rintro e X1 ⟨vr, rfl, rr, fr, gr⟩
    obtain ⟨r0, f0, gX⟩ := unhide F
    have I0 : Hid (HG W p off Mi [] X1 u9 []) := ⟨grown_trans gX gr, by rw [List.append_nil]; exact r0.grown gr, f0, news_nil p off, fun e he => (by cases he)⟩
    obtain ⟨H, hH⟩ : ∃ H, H = holesK S.K off (off + n - 1) := ⟨_, rfl⟩
    rw [← hH] at rr
    have HHo := hide hH
    obtain ⟨hk1, hk2, hk3, hk4⟩ := holesK_ok ((unhide HOK).gx) off (off + n - 1)
    rw [← hH] at hk1 hk4
    have HK1 := hide hk1
    have HK4 : Hid (H.length ≤ n) := by show H.length ≤ n; omega
    have hvr := rr.at
    obtain ⟨ra, rn, rc, evr⟩ : ∃ a n c, vr = .slice a n c := by
      rcases hvr with ⟨q, _⟩ | ⟨g, c, sp, q, _⟩
      · exact ⟨none, 0, 0, q⟩
      · exact ⟨_, _, c, q⟩
    have hrn : Hid (rn = H.length ∧ rn ≤ rc ∧ (H = [] ∨ ∃ hg cs, ra = some ⟨hg, 0, none⟩ ∧ Blk X1 hg cs 69 ∧ ∀ k, k < H.length → cs[k * 2]? = some (.int .i64 (H.getD k (0, 0)).1) ∧ cs[k * 2 + 1]? = some (.int .i64 (H.getD k (0, 0)).2))) := by
      rcases hvr with ⟨q, q2⟩ | ⟨g, c, sp, q, hR⟩
      · rw [q] at evr; cases evr; exact ⟨by rw [q2]; rfl, Nat.le_refl _, .inl q2⟩
      · rw [q] at evr
        cases evr
        exact ⟨rfl, by have := hR.2.1; omega, .inr ⟨g, _, rfl, hR.1, fun k hk => ⟨by rw [List.getElem?_toArray, List.getElem?_append_left (by rw [cl_length]; omega)]; exact cl_lo H k hk, by rw [List.getElem?_toArray, List.getElem?_append_left (by rw [cl_length]; omega)]; exact cl_hi H k hk⟩⟩⟩
    subst evr
    have GR := hide gr
    clear hho hvr rr fr gr r0 f0 gX hk1 hk2 hk3 hk4 c4 F hH
    go_wp2_with fail
    go_loopw [9, 39] (fun am ix X => ∃ (k : Nat) (N : List He), k ≤ rn ∧ ix = .int .i64 k ∧ Hid (HG W p off Mi (H.take k) X am N ∧ NoP X1 X)) (fun _ ix _ => rn - (intOf ix).toNat)
    case atStart => exact ⟨0, [], Nat.zero_le _, rfl, unhide I0, NoP.grown (grown_self _ _)⟩
    case round =>
      clear I0
      obtain ⟨k, N, hk, rfl, I⟩ := hrel
      obtain ⟨X, hX⟩ : ∃ X, X = wr := ⟨_, rfl⟩
      subst hX
      obtain ⟨ama, amn, amc, eam⟩ : ∃ (a : Option Addr) (n c : Nat), u9 = .slice a n c := by
        rcases (unhide I).1.row with ⟨q, _⟩ | ⟨g, c, sp, q, _⟩
        · exact ⟨none, 0, 0, q⟩
        · exact ⟨_, _, c, q⟩
      subst eam
      by_cases hlt : k < rn
      · obtain ⟨en, hrc, hcells⟩ := unhide hrn
        have hne : H ≠ [] := fun q => by rw [q] at en; simp at en; omega
        obtain ⟨hg, hcs, era, hblk, hcell⟩ := hcells.resolve_left hne
        subst era
        obtain ⟨r, hr⟩ : ∃ r, H[k]? = some r := ⟨_, List.getElem?_eq_getElem (by omega)⟩
        obtain ⟨lo, hi⟩ := r
        have hgd : H.getD k (0, 0) = (lo, hi) := by simp [List.getD, hr]
        have hb := unhide HK1 (lo, hi) (List.mem_of_getElem? hr)
        simp only at hb
        have hck := hcell k (by omega)
        rw [hgd] at hck
        simp only at hck
        have hblk2 := (unhide I).2 hg hcs _ hblk (by decide)
        have x0 := hblk2.cell _ _ hck.1
        have x1 := hblk2.cell _ _ hck.2
        have hkn : (k : Int) < (rn : Int) := by omega
        have n0 : 0 < p.length := by rw [unhide HN]; omega
        have pne : p ≠ [] := fun q => by rw [q] at n0; simp at n0
        obtain ⟨pb, poff, ea, hpc2⟩ := (unhide HP).2 pne
        subst ea
        obtain ⟨l0, hl0⟩ : ∃ l0 : Nat, (l0 : Int) = lo - off := ⟨(lo - off).toNat, by omega⟩
        obtain ⟨l1, hl1⟩ : ∃ l1 : Nat, (l1 : Int) = hi + 1 - off := ⟨(hi + 1 - off).toNat, by omega⟩
        have e1 : IntKind.i64.wrap (lo - off) = (l0 : Int) := by rw [IntKind.wrap_i64]; omega
        have e2 : IntKind.i64.wrap (hi + 1) = hi + 1 := by rw [IntKind.wrap_i64]; omega
        have e3 : IntKind.i64.wrap (hi + 1 - off) = (l1 : Int) := by rw [IntKind.wrap_i64]; omega
        have b1 : (l0 : Int) ≤ (l1 : Int) := by omega
        have b2 : (l1 : Int) ≤ (pc : Int) := by omega
        have b3 : (l0 : Int) ≤ (pc : Int) := by omega
        have b4 : ¬ (pc = l0) := by omega
        have hk4 := unhide HK4
        have k1 : IntKind.i64.wrap ((k : Int) + 1) = ((k + 1 : Nat) : Int) := by rw [IntKind.wrap_i64]; omega
        obtain ⟨Xb, hXb⟩ : ∃ Xb, Xb = X.alloc (.cells #[.int .i64 lo, .int .i64 hi] 69) := ⟨_, rfl⟩
        have gb : X.grownBy Xb none := by rw [hXb]; exact grown_alloc _ _
        have bb : Blk Xb X.heap.size #[.int .i64 lo, .int .i64 hi] 69 := by rw [hXb]; exact Blk.new _ _ _
        have q0 : Xb.cell? ⟨X.heap.size, 0, none⟩ = some (.int .i64 lo) ∧ Xb.cell? ⟨X.heap.size, 1, none⟩ = some (.int .i64 hi) := ⟨bb.cell 0 _ rfl, bb.cell 1 _ rfl⟩
        have hpl := partP_len (p := p) (off := off) (lo := lo) (hi := hi) hb.1 hb.2.1 (by rw [unhide HN]; omega)
        have gW : W.grownBy Xb.drew none := grown_drew' (grown_trans (unhide I).1.gr gb)
        have hown := own_any Xb.drew ⟨pb, poff + l0, none⟩ (l1 - l0) (pc - l0) (partP p off lo hi) (fun jj x hj => by
          have hjl : jj < (hi + 1 - lo).toNat := by rw [← hpl]; exact (List.getElem?_eq_some_iff.1 hj).1
          rw [partP_get hb.1 hb.2.1 (by rw [unhide HN]; omega) hjl] at hj
          have hl : (lo - off).toNat + jj < p.length := (List.getElem?_eq_some_iff.1 hj).1
          have := hpc2 ((lo - off).toNat + jj) hl
          rw [show p.getD ((lo - off).toNat + jj) 0 = x by simp [List.getD, hj]] at this
          rw [Addr.add_lit]
          have e9 : poff + l0 + jj = poff + ((lo - off).toNat + jj) := by omega
          rw [e9]
          exact cell_grown this gW) (by rw [hpl]; omega) (by omega) (fun _ _ => show pb < Xb.drew.heap.size from World.block_lt_of_cell? _ _ (cell_grown (hpc2 0 n0) gW))
        have hmm : (partP p off lo hi).length = l1 - l0 := by rw [hpl]; omega
        have hlenN : (Mi ++ N).length + 1 ≤ 1000000000 := by
          have := (unhide I).1.nw.len
          rw [List.length_append, this, List.length_take]
          have := unhide HIJ
          have := unhide HK4
          omega
        have NXT : Hid (∀ X9, Blk X9 Xb.heap.size (by8 (partP p off lo hi)) 5 → Xb.drew.grownBy X9 none → ∃ v' w', (Builtin.append_ #[51, 51] 51 #[.slice ama amn amc, .slice (some ⟨X9.heap.size, 0, none⟩) 1 1]).run Tryz.prog (X9.alloc (.cells #[.int .i64 lo, .slice (some ⟨Xb.heap.size, 0, none⟩) (l1 - l0) (l1 - l0)] 88)) = .ok v' w' ∧ (∃ a n c, v' = .slice a n c) ∧ (HG W p off Mi (H.take (k + 1)) w' v' (N ++ [⟨lo, partP p off lo hi, Xb.heap.size⟩]) ∧ NoP X1 w') ∧ (w'.cell? ⟨X.heap.size, 0, none⟩ = some (.int .i64 lo) ∧ w'.cell? ⟨X.heap.size, 1, none⟩ = some (.int .i64 hi))) := fun X9 b9 g9 => by
          obtain ⟨v', w', a1, a2, a3, a4, a5⟩ := (unhide I).1.next lo hi (X1 := Xb.drew) (X9 := X9) (grown_drew' gb) hmm b9 (Nat.le_refl _) g9 hlenN
          refine ⟨v', w', a1, a2, ⟨?_, ?_⟩, ?_⟩
          · rw [show H.take (k + 1) = H.take k ++ [(lo, hi)] by rw [List.take_add_one, hr]; rfl]; exact a3
          · exact (unhide I).2.trans a5
          · have hnb : (Value.slice ama amn amc).ownBlock ≠ some X.heap.size := fun e => by have := (unhide I).1.row.row.lt _ e; omega
            have gg := grown_trans g9 (grown_alloc X9 (.cells #[.int .i64 lo, .slice (some ⟨Xb.heap.size, 0, none⟩) (l1 - l0) (l1 - l0)] 88))
            have bbx : Blk w' X.heap.size #[.int .i64 lo, .int .i64 hi] 69 := (a4.block _ (Nat.lt_of_lt_of_le bb.lt gg.size) (fun e => hnb e.symm)).trans ((gg.block _ bb.lt (by simp)).trans bb)
            exact ⟨bbx.cell 0 _ rfl, bbx.cell 1 _ rfl⟩
        have SB : Hid (Blk Xb X.heap.size #[.int .i64 lo, .int .i64 hi] 69) := bb
        have HLT := hide hlt
        clear hlenN hmm gW hpl gb bb hpc2 n0 pne hck hcell hblk hblk2 hb hgd hr hne hcells en hk4 hrc hlt hl0 hl1
        rw [hXb] at q0
        go_upto_region 6 with fail
        rw [← hXb]
        rw [← hXb] at q0
        replace hXb := hide hXb
        refine wp_region_held_drew (S := fun Z => Z.cell? ⟨X.heap.size, 0, none⟩ = some (.int .i64 lo) ∧ Z.cell? ⟨X.heap.size, 1, none⟩ = some (.int .i64 hi)) (by kernel_rfl) q0 (fun hHeld => ?_)
        refine wpAnyH_take (i := 0) (v := ?_) rfl (by as_aux_lemma => kernel_rfl) (by as_aux_lemma => kernel_rfl) (by as_aux_lemma => kernel_rfl) (fun _ _ _ h => h) (Or.inl ⟨by rfl, ?_⟩) (by assumption) ?_
        rotate_left
        · intro wH hSw
          try dsimp only at hSw
          obtain ⟨s0q, s1q⟩ := hSw
          go_simp
          try with_reducible rfl
        try simp only [Act.put, List.setIfInBounds_toArray, List.set_cons_zero, List.set_cons_succ]
        refine wpAnyH_take (i := 1) (v := ?_) rfl (by as_aux_lemma => kernel_rfl) (by as_aux_lemma => kernel_rfl) (by as_aux_lemma => kernel_rfl) (fun _ _ _ h => h) (Or.inl ⟨by rfl, ?_⟩) (by assumption) ?_
        rotate_left
        · intro wH hSw
          try dsimp only at hSw
          obtain ⟨s0q, s1q⟩ := hSw
          go_simp
          try with_reducible rfl
        try simp only [Act.put, List.setIfInBounds_toArray, List.set_cons_zero, List.set_cons_succ]
        refine wpAnyH_take (i := 2) (v := ?_) rfl (by as_aux_lemma => kernel_rfl) (by as_aux_lemma => kernel_rfl) (by as_aux_lemma => kernel_rfl) (fun _ _ _ h => h) (Or.inl ⟨by rfl, ?_⟩) (by assumption) ?_
        rotate_left
        · intro wH hSw
          try dsimp only at hSw
          obtain ⟨s0q, s1q⟩ := hSw
          go_simp
          try with_reducible rfl
        try simp only [Act.put, List.setIfInBounds_toArray, List.set_cons_zero, List.set_cons_succ]
        refine wpAnyH_take (i := 3) (v := ?_) rfl (by as_aux_lemma => kernel_rfl) (by as_aux_lemma => kernel_rfl) (by as_aux_lemma => kernel_rfl) (fun _ _ _ h => h) (Or.inl ⟨by rfl, ?_⟩) (by assumption) ?_
        rotate_left
        · intro wH hSw
          try dsimp only at hSw
          obtain ⟨s0q, s1q⟩ := hSw
          go_simp
          try with_reducible rfl
        try simp only [Act.put, List.setIfInBounds_toArray, List.set_cons_zero, List.set_cons_succ]
        refine wpAnyH_take (i := 4) (v := ?_) rfl (by as_aux_lemma => kernel_rfl) (by as_aux_lemma => kernel_rfl) (by as_aux_lemma => kernel_rfl) (fun _ _ _ h => h) (Or.inl ⟨by rfl, ?_⟩) (by assumption) ?_
        rotate_left
        · intro wH hSw
          try dsimp only at hSw
          obtain ⟨s0q, s1q⟩ := hSw
          go_simp
          try with_reducible rfl
        try simp only [Act.put, List.setIfInBounds_toArray, List.set_cons_zero, List.set_cons_succ]
        refine wpAnyH_take (i := 5) (v := ?_) rfl (by as_aux_lemma => kernel_rfl) (by as_aux_lemma => kernel_rfl) (by as_aux_lemma => kernel_rfl) (fun _ _ _ h => h) (Or.inl ⟨by rfl, ?_⟩) (by assumption) ?_
        rotate_left
        · intro wH hSw
          try dsimp only at hSw
          obtain ⟨s0q, s1q⟩ := hSw
          go_simp
          try with_reducible rfl
        try simp only [Act.put, List.setIfInBounds_toArray, List.set_cons_zero, List.set_cons_succ]
        refine wpAnyH_take (i := 6) (v := ?_) rfl (by as_aux_lemma => kernel_rfl) (by as_aux_lemma => kernel_rfl) (by as_aux_lemma => kernel_rfl) (fun _ _ _ h => h) (Or.inl ⟨by rfl, ?_⟩) (by assumption) ?_
        rotate_left
        · intro wH hSw
          try dsimp only at hSw
          obtain ⟨s0q, s1q⟩ := hSw
          go_simp
          try with_reducible rfl
        try simp only [Act.put, List.setIfInBounds_toArray, List.set_cons_zero, List.set_cons_succ]
        refine wpAnyH_take (i := 7) (v := ?_) rfl (by as_aux_lemma => kernel_rfl) (by as_aux_lemma => kernel_rfl) (by as_aux_lemma => kernel_rfl) (fun _ _ _ h => h) (Or.inl ⟨by rfl, ?_⟩) (by assumption) ?_
        rotate_left
        · intro wH hSw
          try dsimp only at hSw
          obtain ⟨s0q, s1q⟩ := hSw
          go_simp
          try with_reducible rfl
        try simp only [Act.put, List.setIfInBounds_toArray, List.set_cons_zero, List.set_cons_succ]
        refine wpAnyH_take (i := 8) (v := ?_) rfl (by as_aux_lemma => kernel_rfl) (by as_aux_lemma => kernel_rfl) (by as_aux_lemma => kernel_rfl) (fun _ _ _ h => h) (Or.inl ⟨by rfl, ?_⟩) (by assumption) ?_
        rotate_left
        · intro wH hSw
          try dsimp only at hSw
          obtain ⟨s0q, s1q⟩ := hSw
          go_simp
          try with_reducible rfl
        try simp only [Act.put, List.setIfInBounds_toArray, List.set_cons_zero, List.set_cons_succ]
        refine wpAnyH_take (i := 9) (v := ?_) rfl (by as_aux_lemma => kernel_rfl) (by as_aux_lemma => kernel_rfl) (by as_aux_lemma => kernel_rfl) (fun _ _ _ h => h) (Or.inl ⟨by rfl, ?_⟩) (by assumption) ?_
        rotate_left
        · intro wH hSw
          try dsimp only at hSw
          obtain ⟨s0q, s1q⟩ := hSw
          go_simp
          try with_reducible rfl
        try simp only [Act.put, List.setIfInBounds_toArray, List.set_cons_zero, List.set_cons_succ]
        refine wpAnyH_take (i := 10) (v := ?_) rfl (by as_aux_lemma => kernel_rfl) (by as_aux_lemma => kernel_rfl) (by as_aux_lemma => kernel_rfl) (fun _ _ _ h => h) (Or.inl ⟨by rfl, ?_⟩) (by assumption) ?_
        rotate_left
        · intro wH hSw
          try dsimp only at hSw
          obtain ⟨s0q, s1q⟩ := hSw
          go_simp
          try with_reducible rfl
        try simp only [Act.put, List.setIfInBounds_toArray, List.set_cons_zero, List.set_cons_succ]
        refine wpAnyH_take (i := 11) (v := ?_) rfl (by as_aux_lemma => kernel_rfl) (by as_aux_lemma => kernel_rfl) (by as_aux_lemma => kernel_rfl) (fun _ _ _ h => h) (Or.inl ⟨by rfl, ?_⟩) (by assumption) ?_
        rotate_left
        · intro wH hSw
          try dsimp only at hSw
          obtain ⟨s0q, s1q⟩ := hSw
          go_simp
          try with_reducible rfl
        try simp only [Act.put, List.setIfInBounds_toArray, List.set_cons_zero, List.set_cons_succ]
        refine wpAnyH_take (i := 12) (v := ?_) rfl (by as_aux_lemma => kernel_rfl) (by as_aux_lemma => kernel_rfl) (by as_aux_lemma => kernel_rfl) (fun _ _ _ h => h) (Or.inl ⟨by rfl, ?_⟩) (by assumption) ?_
        rotate_left
        · intro wH hSw
          try dsimp only at hSw
          obtain ⟨s0q, s1q⟩ := hSw
          go_simp
          try with_reducible rfl
        try simp only [Act.put, List.setIfInBounds_toArray, List.set_cons_zero, List.set_cons_succ]
        refine wpAnyH_take (i := 13) (v := ?_) rfl (by as_aux_lemma => kernel_rfl) (by as_aux_lemma => kernel_rfl) (by as_aux_lemma => kernel_rfl) (fun _ _ _ h => h) (Or.inl ⟨by rfl, ?_⟩) (by assumption) ?_
        rotate_left
        · intro wH hSw
          try dsimp only at hSw
          obtain ⟨s0q, s1q⟩ := hSw
          go_simp
          try with_reducible rfl
        try simp only [Act.put, List.setIfInBounds_toArray, List.set_cons_zero, List.set_cons_succ]
        refine wpAnyH_ready (rs := [14]) (by as_aux_lemma => kernel_rfl) (by simp) ?_
        refine AllReadyH.cons rfl (fun KH hKH => ?_) AllReadyH.nil
        go_simp
        refine hown.mono ?_
        rintro e X9 ⟨rfl, b9, g9⟩
        have q9 : X9.cell? ⟨X.heap.size, 0, none⟩ = some (.int .i64 lo) ∧ X9.cell? ⟨X.heap.size, 1, none⟩ = some (.int .i64 hi) := by
          have bz : Blk X9 X.heap.size #[.int .i64 lo, .int .i64 hi] 69 := Blk.grown (w := Xb.drew) (unhide SB) g9
          exact ⟨bz.cell 0 _ rfl, bz.cell 1 _ rfl⟩
        obtain ⟨v2, w2, hap, ⟨a2, n2, c2, ev2⟩, HGn, qW⟩ := unhide NXT X9 b9 g9
        subst ev2
        have HN2 := hide HGn
        clear NXT hown HGn b9 g9
        refine hKH.out _ _ q9 (fun hHeld14 => ?_)
        clear hKH KH
        try simp only [Act.put, List.setIfInBounds_toArray, List.set_cons_zero, List.set_cons_succ]
        refine wpAnyH_ready (rs := [15]) (by as_aux_lemma => kernel_rfl) (by simp) ?_
        refine AllReadyH.cons rfl (fun KH hKH => ?_) AllReadyH.nil
        go_simp
        refine hKH.out _ _ q9 (fun hHeld15 => ?_)
        clear hKH KH
        try simp only [Act.put, List.setIfInBounds_toArray, List.set_cons_zero, List.set_cons_succ]
        refine wpAnyH_ready (rs := [16]) (by as_aux_lemma => kernel_rfl) (by simp) ?_
        refine AllReadyH.cons rfl (fun KH hKH => ?_) AllReadyH.nil
        go_simp
        have qA : (X9.alloc (.cells #[.int .i64 lo, .slice (some ⟨Xb.heap.size, 0, none⟩) (l1 - l0) (l1 - l0)] 88)).cell? ⟨X.heap.size, 0, none⟩ = some (.int .i64 lo) ∧ (X9.alloc (.cells #[.int .i64 lo, .slice (some ⟨Xb.heap.size, 0, none⟩) (l1 - l0) (l1 - l0)] 88)).cell? ⟨X.heap.size, 1, none⟩ = some (.int .i64 hi) := ⟨cell_grown q9.1 (grown_alloc _ _), cell_grown q9.2 (grown_alloc _ _)⟩
        refine hKH.out _ _ qA (fun hHeld16 => ?_)
        clear hKH KH
        try simp only [Act.put, List.setIfInBounds_toArray, List.set_cons_zero, List.set_cons_succ]
        refine wpAnyH_ready (rs := [17]) (by as_aux_lemma => kernel_rfl) (by simp) ?_
        refine AllReadyH.cons rfl (fun KH hKH => ?_) AllReadyH.nil
        refine step_append_run rfl (Operand.tmp 43) (Operand.tmp 59) 51 51 rfl (.slice ama amn amc) (.slice (some ⟨X9.heap.size, 0, none⟩) 1 1) rfl rfl hap ?_
        refine hKH.out _ _ qW (fun hHeld17 => ?_)
        clear hKH KH
        try simp only [Act.put, List.setIfInBounds_toArray, List.set_cons_zero, List.set_cons_succ]
        refine wpAnyH_ready (rs := [18]) (by as_aux_lemma => kernel_rfl) (by simp) ?_
        refine AllReadyH.cons rfl (fun KH hKH => ?_) AllReadyH.nil
        go_simp
        refine hKH.out _ _ qW (fun hHeld18 => ?_)
        clear hKH KH
        try simp only [Act.put, List.setIfInBounds_toArray, List.set_cons_zero, List.set_cons_succ]
        refine wpAnyH_done (by as_aux_lemma => kernel_rfl) ?_ _
        clear hap q0 q9 qA qW hHeld hHeld14 hHeld15 hHeld16 hHeld17 hHeld18
        go_wp2_with fail
        exact ⟨⟨k + 1, _, unhide HLT, by go_num, HN2⟩, by simp [intOf]; have := unhide HLT; omega⟩
      · obtain rfl : k = rn := by omega
        have hno : ¬ (k : Int) < (k : Int) := by omega
        obtain ⟨en, -, -⟩ := unhide hrn
        obtain ⟨HG1, -⟩ := unhide I
        have eT : H.take k = H := by rw [en]; exact List.take_length
        rw [eT] at HG1
        have hlN := HG1.nw.len
        have hk4 := unhide HK4
        have hij := unhide HIJ
        have lMN : (Mi ++ N).length = Mi.length + N.length := List.length_append
        have hso := sort_pieces X (.slice ama amn amc) (Mi ++ N) (by
          rcases HG1.row with ⟨q1, q2⟩ | ⟨g, c, sp, q1, q2⟩
          · exact .inl ⟨q1, List.map_eq_nil_iff.1 q2⟩
          · rw [List.length_map] at q1; exact .inr ⟨g, c, sp, q1, q2⟩) (by omega)
        have HGH := hide HG1
        have LN : Hid (N.length ≤ n ∧ (Mi ++ N).length = Mi.length + N.length) := ⟨by omega, lMN⟩
        clear HG1 hlN hk4 hij lMN I eT en
        go_wp2_with fail
        refine hso.mono ?_
        rintro e Y ⟨rfl, P, hP, hPs, hPr, gY⟩
        have HG1 := unhide HGH
        have gWY : W.grownBy Y none := grown_fresh HG1.gr gY (fun k e => HG1.fr k e)
        have hY := (unhide HH).grown gWY
        have r0 : Pq.Row0 Y (.slice ama amn amc) (P.map pcOf) := by
          rcases hPr with ⟨q1, q2⟩ | ⟨g, c, sp, q1, q2⟩
          · exact .inl ⟨q1, by rw [q2]; rfl⟩
          · exact .inr ⟨g, c, sp, by rw [List.length_map]; exact q1, q2⟩
        have lP := hP.length_eq
        have ln := unhide LN
        have hij := unhide HIJ
        have hre := hY.replace (unhide PT).1 (P := P) (fun q => by
          have : (Mi ++ N).length = 0 := by rw [← lP, q]; rfl
          exact List.length_eq_zero_iff.1 (by omega)) r0 (fun g e e2 => by
            have := HG1.fr g e
            have := (unhide HH).row.lt g e2
            omega) (by omega) i j hij.1 hij.2
        obtain ⟨-, -, -, -, -, c5, -, -⟩ := hY.cells
        have t5 := hY.blk.thaw 5
        obtain ⟨vha, vhn, vhc, evh⟩ : ∃ (a : Option Addr) (n c : Nat), vh = .slice a n c := by
          rcases hY.held2 with ⟨q, _⟩ | ⟨g, q0, c, q, _⟩
          · exact ⟨none, 0, 0, q⟩
          · exact ⟨_, _, _, q⟩
        have pcsN : ∀ e ∈ N, Blk Y e.g (by8 e.p) 5 := fun e he => ((gY.block _ (HG1.pcs e he).1.lt (fun q => HG1.row.row.ne_of (HG1.pcs e he).1 (by decide) q.symm)).trans (HG1.pcs e he).1)
        have AFT : Hid (∀ Z v', Pq.Row Z v' ((A ++ (P ++ D)).map pcOf) → Moved Y Z vh v' → RA w M b bk v' (A ++ (P ++ D)) (Z.setCell ⟨b, 5, none⟩ v') S ∧ Z.frozen? ⟨b, 5, none⟩ = false ∧ Z.cell? ⟨b, 4, none⟩ = some (ptr bk) ∧ Z.cell? ⟨b, 5, none⟩ = some vh) := fun Z v' hr hmo => by
          have kv : Y.grownBy Z vh.ownBlock := by
            rcases hmo with ⟨_, q⟩ | ⟨_, q, _⟩
            · exact q
            · exact ⟨q.os, q.tape, q.output, q.size, fun k hk _ => q.block k hk (by simp)⟩
          have kb : ∀ {j : Nat} {cs : Array Value} {tt : TypeId}, Blk Y j cs tt → tt ≠ 88 → Z.heap[j]? = Y.heap[j]? := fun {j cs tt} hb ht => kv.block j hb.lt (fun e => hY.row.ne_of (show Y.heap[j]? = some (.cells cs tt (0, 0)) from hb) ht e.symm)
          have kz : Kp M w Z := hY.kp.then (S' := fun g => vh.ownBlock = some g) ⟨kv.os, kv.tape, kv.output, kv.size, fun g hg hn => kv.block g hg (fun e => hn e.symm)⟩ (fun g hg q => (hY.mh g q).resolve_right (by omega))
          refine ⟨hY.setE kz kb hr (fun e he => ?_) (fun g e => ?_), ?_⟩
          · have he' : e ∈ E ∨ e ∈ N := by
              rw [(unhide PT).1]
              rcases List.mem_append.1 he with he | he
              · exact .inl (List.mem_append_left _ he)
              · rcases List.mem_append.1 he with he | he
                · rcases List.mem_append.1 (hP.mem_iff.1 he) with he | he
                  · exact .inl (List.mem_append_right _ (List.mem_append_left _ he))
                  · exact .inr he
                · exact .inl (List.mem_append_right _ (List.mem_append_right _ he))
            rcases he' with he' | he'
            · exact ⟨(kb (hY.pcs e he').1 (by decide)).trans (hY.pcs e he').1, (hY.pcs e he').2⟩
            · exact ⟨(kb (pcsN e he') (by decide)).trans (pcsN e he'), .inr (Nat.le_trans (unhide HH).kp.size (HG1.pcs e he').2)⟩
          · rcases hmo with ⟨q, _⟩ | ⟨q, _, _⟩
            · exact hY.mh g (q ▸ e)
            · rw [q] at e; cases e; exact .inr hY.kp.size
          · have bz : Blk Z b (rvc bk vh S) 53 := (kb hY.blk (by decide)).trans hY.blk
            exact ⟨bz.thaw 5, bz.cell 4 _ rfl, bz.cell 5 _ rfl⟩
        have FINH : Hid (HeOk (holdS S off p) (A ++ (P ++ D)) ∧ (A ++ (P ++ D)).length ≤ E.length + p.length) := by
          have hn := unhide HN
          have pt := unhide PT
          refine ⟨heok_hold (unhide HOK) (by rw [← pt.1]; exact unhide HE) h0 (by omega) pt.2.1 (fun e he => ⟨pt.2.2.2.1 e he, by have := pt.2.2.1 e he; omega⟩) (fun e he => by have := pt.2.2.2.2.1 e he; omega) (by rw [hn]; rw [← unhide HHo]; exact HG1.nw) hP hPs (holdS S off p) rfl rfl, ?_⟩
          simp only [List.length_append, lE]
          omega
        subst evh
        have lE2 := hide lE
        clear hso HG1 HGH gWY hY r0 lP ln hij hP hPs hPr gY pcsN LN lE
        go_wp2_with fail
        refine hre.mono ?_
        rintro e Z ⟨v', rfl, hr, hmo⟩
        obtain ⟨RA1, t5z, c4z, c5z⟩ := unhide AFT Z v' hr hmo
        have hadd := RA1.addK (unhide OKK) off (off + n - 1) (by omega) (by omega)
        obtain ⟨v'a, v'n, v'c, ev'⟩ : ∃ (a : Option Addr) (n c : Nat), v' = .slice a n c := by
          rcases hr.shape with ⟨a, c, q, _⟩
          exact ⟨_, _, _, q⟩
        subst ev'
        clear hre AFT hr hmo c5 t5 RA1
        go_wp2_with fail
        refine hadd.mono ?_
        rintro e Z2 ⟨nn, rfl, RA2⟩
        have HR2 := hide RA2
        clear hadd RA2 t5z c4z c5z
        go_wp2_with fail
        all_goals refine bodyPost_end (results_none rfl _ _ _) rfl ?_
        all_goals exact ⟨rfl, _, _, (unhide HR2).last (by unfold holdS; rfl) (by unfold holdS; rw [unhide HN]), unhide FINH⟩
end
end Go.Proofs.YthihabjegpacaaaGreat
