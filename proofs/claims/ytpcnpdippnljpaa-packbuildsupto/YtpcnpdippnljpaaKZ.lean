/- parts. -/
import Derived.Test.YtpcnpdippnljpaaKY
namespace Go.Proofs.Ytpcnpdippnljpaa
open Go.RowKit
set_option linter.unusedVariables false
set_option maxRecDepth 100000
set_option maxHeartbeats 1000000

/-- Bytes that came in, not in the block gb. -/
def InX (gb : Nat) (w : World) (v : Value) (l : List Int) : Prop :=
  ∃ a c, v = .slice a l.length c ∧ Rd w a l ∧ l.length ≤ c ∧ c ≤ maxLen ∧ ∀ x, a = some x → 0 < c → x.block < w.heap.size ∧ x.block ≠ gb ∧ ∃ b o, x = ⟨b, o, none⟩

theorem InX.grown {gb : Nat} {w W : World} {v : Value} {l : List Int} (h : InX gb w v l) (g : w.grownBy W none) : InX gb W v l := by
  obtain ⟨a, c, e, hr, h1, h2, h3⟩ := h
  exact ⟨a, c, e, hr.farC h1 (g := w.heap.size) (grown_any g _) (fun x ex hc => ⟨Nat.ne_of_lt (h3 x ex hc).1, (h3 x ex hc).1⟩), h1, h2, fun x ex hc => ⟨Nat.lt_of_lt_of_le (h3 x ex hc).1 g.size, (h3 x ex hc).2⟩⟩
theorem InX.new {gb : Nat} (w : World) (l : List Int) (n : Nat) (hn : l.length = n) (hm : n ≤ maxLen) (hb : ∀ x ∈ l, IsB x) (hg : gb < w.heap.size) : InX gb (w.alloc (bts l)) (.slice (some ⟨w.heap.size, 0, none⟩) n n) l := by
  subst hn
  refine ⟨_, _, rfl, rd_at (heap_alloc_new w _) hb, Nat.le_refl _, hm, fun x e _ => ?_⟩
  cases e
  refine ⟨?_, by show w.heap.size ≠ gb; omega, _, _, rfl⟩
  show w.heap.size < (w.heap.push _).size
  simp
theorem InX.nil (gb : Nat) (w : World) : InX gb w nilV [] := ⟨none, 0, rfl, ⟨by simp, by simp⟩, Nat.le_refl _, Nat.zero_le _, fun x e _ => by cases e⟩

/-- Bytes that came in. -/
def InB (w : World) (v : Value) (l : List Int) : Prop := InX w.heap.size w v l
theorem InX.other {gb : Nat} {w : World} {v : Value} {l : List Int} (h : InB w v l) (hg : w.heap.size ≤ gb) : InX gb w v l := by
  obtain ⟨a, c, e, hr, h1, h2, h3⟩ := h
  exact ⟨a, c, e, hr, h1, h2, fun x ex hc => ⟨(h3 x ex hc).1, by have := (h3 x ex hc).1; omega, (h3 x ex hc).2.2⟩⟩
theorem InX.inB {gb : Nat} {w : World} {v : Value} {l : List Int} (h : InX gb w v l) : InB w v l := by
  obtain ⟨a, c, e, hr, h1, h2, h3⟩ := h
  exact ⟨a, c, e, hr, h1, h2, fun x ex hc => ⟨(h3 x ex hc).1, Nat.ne_of_lt (h3 x ex hc).1, (h3 x ex hc).2.2⟩⟩
theorem InB.grown {w W : World} {v : Value} {l : List Int} (h : InB w v l) (g : w.grownBy W none) : InB W v l := (InX.grown h g).inB

theorem small_le {n : Nat} (h : n ≤ 100) : n ≤ maxLen := by unfold maxLen; omega
theorem alloc_size (w : World) (o : Obj) : (w.alloc o).heap.size = w.heap.size + 1 := by show (w.heap.push o).size = _; simp
theorem InX.at {gb : Nat} {w : World} {l : List Int} {n k : Nat} (hk : w.heap.size = k) (hn : l.length = n) (hm : n ≤ maxLen) (hb : ∀ x ∈ l, IsB x) (hg : gb < w.heap.size) : InX gb (w.alloc (bts l)) (.slice (some ⟨k, 0, none⟩) n n) l := by
  subst hk; exact InX.new w l n hn hm hb hg
theorem heap_at {w : World} {o : Obj} {k : Nat} (hk : w.heap.size = k) : (w.alloc o).heap[k]? = some o := by subst hk; exact heap_alloc_new w o
theorem InX.al {gb : Nat} {w : World} {v : Value} {l : List Int} (h : InX gb w v l) (o : Obj) : InX gb (w.alloc o) v l := h.grown (World.grownBy_alloc w o none)
/-- The parts, each. -/
def Rows (gb : Nat) (w : World) (vs : List Value) (L : List (List Int)) : Prop := ∀ (i : Nat) (v : Value) (l : List Int), vs[i]? = some v → L[i]? = some l → InX gb w v l
theorem Rows.nil (gb : Nat) (w : World) : Rows gb w [] [] := fun i v l h => by simp at h
theorem Rows.cons {gb : Nat} {w : World} {v : Value} {l : List Int} {vs : List Value} {L : List (List Int)} (h : InX gb w v l) (t : Rows gb w vs L) : Rows gb w (v :: vs) (l :: L) := fun i u m h1 h2 => by
  cases i with
  | zero => simp at h1 h2; rw [← h1, ← h2]; exact h
  | succ i => exact t i u m (by simpa using h1) (by simpa using h2)

/-- What parts leaves. -/
def PartsPost (gb : Nat) (L : List (List Int)) (w : World) (e : Ending) (w' : World) : Prop :=
  ∃ (g : Nat) (vs : List Value), e = .returned (.slice (some ⟨g, 0, none⟩) vs.length vs.length) ∧ w'.heap[g]? = some (.cells vs.toArray 27) ∧ g ≠ gb ∧ vs.length = L.length ∧ Rows gb w' vs L ∧ w.grownBy w' none

theorem or_64 (x : Int) (h : 1 ≤ x ∧ x ≤ 4) : bits .or .u8 64 (x - 1) = 63 + x := by
  obtain rfl | rfl | rfl | rfl : x = 1 ∨ x = 2 ∨ x = 3 ∨ x = 4 := by omega
  all_goals decide +kernel
theorem or_192 (x : Int) (h : 1 ≤ x ∧ x ≤ 4) : bits .or .u8 192 (x - 1) = 191 + x := by
  obtain rfl | rfl | rfl | rfl : x = 1 ∨ x = 2 ∨ x = 3 ∨ x = 4 := by omega
  all_goals decide +kernel
theorem or_224 (x : Int) (h : 1 ≤ x ∧ x ≤ 4) : bits .or .u8 224 (x - 1) = 223 + x := by
  obtain rfl | rfl | rfl | rfl : x = 1 ∨ x = 2 ∨ x = 3 ∨ x = 4 := by omega
  all_goals decide +kernel

/-- A packet that may be. -/
structure Good (p : Pk) : Prop where
  sp : p.space = 0 ∨ p.space = 1 ∨ p.space = 2
  d : p.dst.length ≤ 20
  s : p.src.length ≤ 20
  s2 : p.space = 2 → p.src = []
  w : 1 ≤ p.width ∧ p.width ≤ 4
  n : 0 ≤ p.number ∧ p.number ≤ MAXP
  y : p.space ≠ 2 → p.width + p.payload.length ≤ 16383

theorem cut_low (p : Pk) (h : Good p) : 0 ≤ p.number % st p.width ∧ p.number % st p.width < st p.width ∧ p.number % st p.width / 256 ^ p.width.toNat = 0 := by
  have hp := st_pos p.width
  have e := st_pow p.width h.w
  have h1 := Int.emod_nonneg p.number (b := st p.width) (by omega)
  have h2 := Int.emod_lt_of_pos p.number hp.1
  refine ⟨h1, h2, ?_⟩
  rw [← e]
  exact Int.ediv_eq_zero_of_lt h1 h2

theorem parts_app (p : Pk) (h : Good p) (h2 : p.space = 2) (gb : Nat) (d s y : Value) (w : World) (hg : gb < w.heap.size) (hd : InX gb w d p.dst) (hs : InX gb w s p.src) (hy : InX gb w y p.payload) :
    Calls Try.prog 38 #[p.val d s y] w (PartsPost gb (partsP p) w) := by
  obtain ⟨a1, c1, rfl, hd1⟩ := id hd
  obtain ⟨a2, c2, rfl, hs1⟩ := id hs
  obtain ⟨a3, c3, rfl, hy1⟩ := id hy
  have hc := fun W => cut_good p.number p.width W h.n.1 h.n.2 h.w
  obtain ⟨q0, q1, q2⟩ := cut_low p h
  have hst := st_pos p.width
  obtain ⟨m, hm⟩ := Int.eq_ofNat_of_zero_le (show 0 ≤ p.width by have := h.w; omega)
  have hmn : p.width.toNat = m := by omega
  rw [hmn] at q2
  have hm4 : m ≤ 4 := by have := h.w; omega
  have hbg := fun W => big_ok (p.number % st p.width) m W q0 (by omega) (by have := h.w; omega) q2
  rw [← hm] at hbg
  have hu : IntKind.u64.wrap (p.number % st p.width) = p.number % st p.width := by rw [IntKind.wrap_u64]; omega
  have w1 : IntKind.i64.wrap (p.width - 1) = p.width - 1 := by rw [IntKind.wrap_i64]; have := h.w; omega
  have w2 : IntKind.u8.wrap (p.width - 1) = p.width - 1 := by rw [IntKind.wrap_u8]; have := h.w; omega
  have hor := or_64 p.width h.w
  have hsb : (p.space == 2) = true := by simpa using h2
  have hP : partsP p = [[63 + p.width], p.dst, dig (p.number % st p.width) m, p.payload] := by unfold partsP cutP; rw [if_pos h2, hm, Int.toNat_natCast]
  have hw := h.w
  rw [hP]
  clear hd1 hs1 hy1 hP h2 hm hmn
  generalize p.number % st p.width = low at *
  go_enter Try.func38, Try.ntmps38
  go_wp2_with fail
  refine (hc _).mono ?_
  rintro e W1 ⟨rfl, hw1⟩
  subst hw1
  go_wp2_with fail
  refine (hbg _).mono ?_
  rintro e W2 ⟨rfl, hw2⟩
  subst hw2
  go_wp2_with fail
  have s0 := alloc_size w (.cells (p.cs (.slice a1 p.dst.length c1) (.slice a2 p.src.length c2) (.slice a3 p.payload.length c3)) 29)
  have g0 := World.grownBy_alloc w (.cells (p.cs (.slice a1 p.dst.length c1) (.slice a2 p.src.length c2) (.slice a3 p.payload.length c3)) 29) none
  generalize w.alloc (.cells (p.cs (.slice a1 p.dst.length c1) (.slice a2 p.src.length c2) (.slice a3 p.payload.length c3)) 29) = W0 at *
  have s1 := alloc_size W0 (bts (dig low m))
  rw [s0] at s1
  have s2 := alloc_size (W0.alloc (bts (dig low m))) (bts [63 + p.width])
  rw [s1] at s2
  go_ret
  refine ⟨w.heap.size + 1 + 1 + 1, [_, _, _, _], rfl, heap_at s2, by omega, rfl, ?_, ?_⟩
  · refine Rows.cons (InX.al (InX.at (l := [63 + p.width]) s1 rfl (small_le (by simp)) (by simp [IsB]; omega) (by rw [s1]; omega)) _) (Rows.cons ((((hd.grown g0).al _).al _).al _) (Rows.cons (((InX.at s0 (dig_length _ _) (by unfold maxLen; omega) (dig_byte _ _) (by rw [s0]; omega)).al _).al _) (Rows.cons ((((hy.grown g0).al _).al _).al _) (Rows.nil _ _))))
  · exact ((g0.trans (World.grownBy_alloc _ _ none)).trans (World.grownBy_alloc _ _ none)).trans (World.grownBy_alloc _ _ none)

theorem parts_long (p : Pk) (h : Good p) (h2 : p.space = 0 ∨ p.space = 1) (gb : Nat) (d s y : Value) (w : World) (hg : gb < w.heap.size) (hd : InX gb w d p.dst) (hs : InX gb w s p.src) (hy : InX gb w y p.payload) :
    Calls Try.prog 38 #[p.val d s y] w (PartsPost gb (partsP p) w) := by
  obtain ⟨a1, c1, rfl, hd1⟩ := id hd
  obtain ⟨a2, c2, rfl, hs1⟩ := id hs
  obtain ⟨a3, c3, rfl, hy1⟩ := id hy
  have hc := fun W => cut_good p.number p.width W h.n.1 h.n.2 h.w
  obtain ⟨q0, q1, q2⟩ := cut_low p h
  have hst := st_pos p.width
  obtain ⟨m, hm⟩ := Int.eq_ofNat_of_zero_le (show 0 ≤ p.width by have := h.w; omega)
  have hmn : p.width.toNat = m := by omega
  rw [hmn] at q2
  have hm4 : m ≤ 4 := by have := h.w; omega
  have hbg := fun W => big_ok (p.number % st p.width) m W q0 (by omega) (by have := h.w; omega) q2
  rw [← hm] at hbg
  have hbv := fun W => big_ok 1 4 W (by decide) (by decide) (by decide) (by decide)
  have ev : dig 1 4 = [0, 0, 0, 1] := by decide
  rw [ev] at hbv
  have hyl := h.y (by rcases h2 with h2 | h2 <;> rw [h2] <;> decide)
  have hle := fun W => length_any p (.slice a1 p.dst.length c1) (.slice a2 p.src.length c2) a3 c3 W h.w (by have := h.w; omega)
  have hlu : IntKind.u64.wrap (p.width + (p.payload.length : Int)) = p.width + (p.payload.length : Int) := by rw [IntKind.wrap_u64]; have := h.w; omega
  have hpu := fun W => putAs_ok (p.width + (p.payload.length : Int)) 2 W (by have := h.w; omega) (by have := h.w; omega) (.inr (.inl rfl)) (by unfold sizeF; have := h.w; (repeat' split) <;> omega)
  have hu : IntKind.u64.wrap (p.number % st p.width) = p.number % st p.width := by rw [IntKind.wrap_u64]; omega
  have w1 : IntKind.i64.wrap (p.width - 1) = p.width - 1 := by rw [IntKind.wrap_i64]; have := h.w; omega
  have w2 : IntKind.u8.wrap (p.width - 1) = p.width - 1 := by rw [IntKind.wrap_u8]; have := h.w; omega
  have hwd : IntKind.u8.wrap (p.dst.length : Int) = (p.dst.length : Int) := by rw [IntKind.wrap_u8]; have := h.d; omega
  have hws : IntKind.u8.wrap (p.src.length : Int) = (p.src.length : Int) := by rw [IntKind.wrap_u8]; have := h.s; omega
  have hw := h.w
  have hdl := h.d
  have hsl := h.s
  have hsb2 : (p.space == 2) = false := by rcases h2 with h2 | h2 <;> rw [h2] <;> rfl
  have hbd : IsB (p.dst.length : Int) := by unfold IsB; omega
  have hbs : IsB (p.src.length : Int) := by unfold IsB; omega
  have hlb : ∀ x ∈ layF (p.width + (p.payload.length : Int)) 2, IsB x := layF_byte _ _ (by omega) (.inr (.inl ⟨rfl, hyl⟩))
  rcases h2 with h2 | h2
  · have hsb : (p.space == 0) = true := by simpa using h2
    have hor0 : bits .or .u8 192 0 = 192 := by decide +kernel
    have hor := or_192 p.width h.w
    have hP : partsP p = [[191 + p.width], [0, 0, 0, 1], [(p.dst.length : Int)], p.dst, [(p.src.length : Int)], p.src, [0], layF (p.width + p.payload.length) 2, dig (p.number % st p.width) m, p.payload] := by
      unfold partsP cutP; rw [if_neg (by rw [h2]; decide), if_pos h2, h2, hm, Int.toNat_natCast]; simp
    rw [hP]
    clear hd1 hs1 hy1 hP h2 hm hmn
    generalize p.number % st p.width = low at *
    go_enter Try.func38, Try.ntmps38
    go_wp2_with fail
    refine (hc _).mono ?_
    rintro e W1 ⟨rfl, hw1⟩
    subst hw1
    go_wp2_with fail
    refine (hbg _).mono ?_
    rintro e W2 ⟨rfl, hw2⟩
    subst hw2
    have s0 := alloc_size w (.cells (p.cs (.slice a1 p.dst.length c1) (.slice a2 p.src.length c2) (.slice a3 p.payload.length c3)) 29)
    have g0 := World.grownBy_alloc w (.cells (p.cs (.slice a1 p.dst.length c1) (.slice a2 p.src.length c2) (.slice a3 p.payload.length c3)) 29) none
    obtain ⟨W0, hW0⟩ : ∃ W0, W0 = w.alloc (.cells (p.cs (.slice a1 p.dst.length c1) (.slice a2 p.src.length c2) (.slice a3 p.payload.length c3)) 29) := ⟨_, rfl⟩
    have b0 : Blk W0 w.heap.size (p.cs (.slice a1 p.dst.length c1) (.slice a2 p.src.length c2) (.slice a3 p.payload.length c3)) 29 := by rw [hW0]; exact Blk.new _ _ _
    rw [← hW0] at s0 g0
    have HW0 := hide hW0
    clear hW0
    have iN : InX gb (W0.alloc (bts (dig low m))) (.slice (some ⟨w.heap.size + 1, 0, none⟩) m m) (dig low m) := InX.at s0 (dig_length _ _) (by unfold maxLen; omega) (dig_byte _ _) (by rw [s0]; omega)
    have s1 := alloc_size W0 (bts (dig low m))
    rw [s0] at s1
    go_wp2_with (first | (at_make; refine wpList_mk 1 (by decide) _ rfl _ _ rfl rfl rfl ?_; rw [bts_zero]) | fail)
    refine (hbv _).mono ?_
    rintro e Wv ⟨rfl, hwv⟩
    subst hwv
    go_wp2_with fail
    refine (hle _).mono ?_
    rintro e Wl ⟨rfl, gl⟩
    have hW0 := unhide HW0
    rw [← hW0] at gl
    have s2 := alloc_size (W0.alloc (bts (dig low m))) (bts [0])
    rw [s1] at s2
    have gA : W0.grownBy Wl none := (((World.grownBy_alloc _ _ none).trans (World.grownBy_alloc _ _ none)).trans (World.grownBy_alloc _ _ none)).trans gl
    have gz := gl.size
    have s3 := alloc_size ((W0.alloc (bts (dig low m))).alloc (bts [0])) (bts [0, 0, 0, 1])
    rw [s2] at s3
    rw [s3] at gz
    have hgl : gb < Wl.heap.size := by omega
    have iT : InX gb ((W0.alloc (bts (dig low m))).alloc (bts [0])) (.slice (some ⟨w.heap.size + 1 + 1, 0, none⟩) 1 1) [0] := InX.at s1 rfl (small_le (by simp)) (by simp [IsB]) (by rw [s1]; omega)
    have iV : InX gb (((W0.alloc (bts (dig low m))).alloc (bts [0])).alloc (bts [0, 0, 0, 1])) (.slice (some ⟨w.heap.size + 1 + 1 + 1, 0, none⟩) 4 4) [0, 0, 0, 1] := InX.at s2 rfl (small_le (by simp)) (by simp [IsB]) (by rw [s2]; omega)
    have J : Hid (InX gb Wl (.slice (some ⟨w.heap.size + 1 + 1 + 1, 0, none⟩) 4 4) [0, 0, 0, 1] ∧ InX gb Wl (.slice a1 p.dst.length c1) p.dst ∧ InX gb Wl (.slice a2 p.src.length c2) p.src ∧ InX gb Wl (.slice (some ⟨w.heap.size + 1 + 1, 0, none⟩) 1 1) [0] ∧ InX gb Wl (.slice (some ⟨w.heap.size + 1, 0, none⟩) m m) (dig low m) ∧ InX gb Wl (.slice a3 p.payload.length c3) p.payload ∧ w.grownBy Wl none) :=
      ⟨iV.grown gl, hd.grown (g0.trans gA), hs.grown (g0.trans gA), ((iT.al _).grown gl), (((iN.al _).al _).grown gl), hy.grown (g0.trans gA), g0.trans gA⟩
    have bW := b0.grown gA
    have x0 := bW.cell 0 _ rfl
    have x1 := bW.cell 1 _ rfl
    have x2 := bW.cell 2 _ rfl
    have x3 := bW.cell 3 _ rfl
    have x4 := bW.cell 4 _ rfl
    have x5 := bW.cell 5 _ rfl
    have xl := bW.lt
    have n0 : ¬ w.heap.size = Wl.heap.size := by omega
    have n1 : ¬ w.heap.size = Wl.heap.size + 1 := by omega
    have n2 : ¬ w.heap.size = Wl.heap.size + 1 + 1 := by omega
    have n3 : ¬ w.heap.size = Wl.heap.size + 1 + 1 + 1 := by omega
    have l1 : w.heap.size < Wl.heap.size + 1 := by omega
    have l2 : w.heap.size < Wl.heap.size + 1 + 1 := by omega
    have l3 : w.heap.size < Wl.heap.size + 1 + 1 + 1 := by omega
    clear iT iV gA s2 s3 gz s0 s1 bW b0 hW0 HW0
    clear gl g0 iN hd hs hy hle hbv hbg hc
    go_wp2_with fail
    refine (hpu _).mono ?_
    rintro e Wp ⟨rfl, hwp⟩
    subst hwp
    clear hpu
    go_wp2_with fail
    have t0 := alloc_size Wl (bts (layF (p.width + (p.payload.length : Int)) 2))
    have t1 := alloc_size (Wl.alloc (bts (layF (p.width + (p.payload.length : Int)) 2))) (bts [191 + p.width])
    rw [t0] at t1
    have t2 := alloc_size ((Wl.alloc (bts (layF (p.width + (p.payload.length : Int)) 2))).alloc (bts [191 + p.width])) (bts [(p.dst.length : Int)])
    rw [t1] at t2
    have t3 := alloc_size (((Wl.alloc (bts (layF (p.width + (p.payload.length : Int)) 2))).alloc (bts [191 + p.width])).alloc (bts [(p.dst.length : Int)])) (bts [(p.src.length : Int)])
    rw [t2] at t3
    go_ret
    refine ⟨Wl.heap.size + 1 + 1 + 1 + 1, [_, _, _, _, _, _, _, _, _, _], rfl, heap_at t3, by omega, rfl, ?_, ?_⟩
    · obtain ⟨j1, j2, j3, j4, j5, j6, gW⟩ := unhide J
      have k0 : InX gb _ _ [191 + p.width] := InX.at (l := [191 + p.width]) t0 rfl (small_le (by simp)) (by simp [IsB]; omega) (by rw [t0]; omega)
      have k1 : InX gb _ _ [(p.dst.length : Int)] := InX.at (l := [(p.dst.length : Int)]) t1 rfl (small_le (by simp)) (by simpa using hbd) (by rw [t1]; omega)
      have k2 : InX gb _ _ [(p.src.length : Int)] := InX.at (l := [(p.src.length : Int)]) t2 rfl (small_le (by simp)) (by simpa using hbs) (by rw [t2]; omega)
      have k3 : InX gb _ _ (layF (p.width + (p.payload.length : Int)) 2) := InX.new Wl _ 2 (layF_length _ _) (small_le (by simp)) hlb (by omega)
      exact Rows.cons (((k0.al _).al _).al _) (Rows.cons (((((j1.al _).al _).al _).al _).al _) (Rows.cons ((k1.al _).al _) (Rows.cons (((((j2.al _).al _).al _).al _).al _) (Rows.cons (k2.al _) (Rows.cons (((((j3.al _).al _).al _).al _).al _) (Rows.cons (((((j4.al _).al _).al _).al _).al _) (Rows.cons ((((k3.al _).al _).al _).al _) (Rows.cons (((((j5.al _).al _).al _).al _).al _) (Rows.cons (((((j6.al _).al _).al _).al _).al _) (Rows.nil _ _))))))))))
    · exact ((((((unhide J).2.2.2.2.2.2.trans (World.grownBy_alloc _ _ none)).trans (World.grownBy_alloc _ _ none)).trans (World.grownBy_alloc _ _ none)).trans (World.grownBy_alloc _ _ none)).trans (World.grownBy_alloc _ _ none))
  · have hsb : (p.space == 0) = false := by rw [h2]; rfl
    have hor0 : bits .or .u8 192 32 = 224 := by decide +kernel
    have hor := or_224 p.width h.w
    have hP : partsP p = [[223 + p.width], [0, 0, 0, 1], [(p.dst.length : Int)], p.dst, [(p.src.length : Int)], p.src, [], layF (p.width + p.payload.length) 2, dig (p.number % st p.width) m, p.payload] := by
      unfold partsP cutP; rw [if_neg (by rw [h2]; decide), if_neg (by rw [h2]; decide), h2, hm, Int.toNat_natCast]; simp
    rw [hP]
    clear hd1 hs1 hy1 hP h2 hm hmn
    generalize p.number % st p.width = low at *
    go_enter Try.func38, Try.ntmps38
    go_wp2_with fail
    refine (hc _).mono ?_
    rintro e W1 ⟨rfl, hw1⟩
    subst hw1
    go_wp2_with fail
    refine (hbg _).mono ?_
    rintro e W2 ⟨rfl, hw2⟩
    subst hw2
    have s0 := alloc_size w (.cells (p.cs (.slice a1 p.dst.length c1) (.slice a2 p.src.length c2) (.slice a3 p.payload.length c3)) 29)
    have g0 := World.grownBy_alloc w (.cells (p.cs (.slice a1 p.dst.length c1) (.slice a2 p.src.length c2) (.slice a3 p.payload.length c3)) 29) none
    obtain ⟨W0, hW0⟩ : ∃ W0, W0 = w.alloc (.cells (p.cs (.slice a1 p.dst.length c1) (.slice a2 p.src.length c2) (.slice a3 p.payload.length c3)) 29) := ⟨_, rfl⟩
    have b0 : Blk W0 w.heap.size (p.cs (.slice a1 p.dst.length c1) (.slice a2 p.src.length c2) (.slice a3 p.payload.length c3)) 29 := by rw [hW0]; exact Blk.new _ _ _
    rw [← hW0] at s0 g0
    have HW0 := hide hW0
    clear hW0
    have iN : InX gb (W0.alloc (bts (dig low m))) (.slice (some ⟨w.heap.size + 1, 0, none⟩) m m) (dig low m) := InX.at s0 (dig_length _ _) (by unfold maxLen; omega) (dig_byte _ _) (by rw [s0]; omega)
    have s1 := alloc_size W0 (bts (dig low m))
    rw [s0] at s1
    go_wp2_with fail
    refine (hbv _).mono ?_
    rintro e Wv ⟨rfl, hwv⟩
    subst hwv
    go_wp2_with fail
    refine (hle _).mono ?_
    rintro e Wl ⟨rfl, gl⟩
    have hW0 := unhide HW0
    rw [← hW0] at gl
    have gA : W0.grownBy Wl none := ((World.grownBy_alloc _ _ none).trans (World.grownBy_alloc _ _ none)).trans gl
    have gz := gl.size
    have s3 := alloc_size (W0.alloc (bts (dig low m))) (bts [0, 0, 0, 1])
    rw [s1] at s3
    rw [s3] at gz
    have hgl : gb < Wl.heap.size := by omega
    have iV : InX gb ((W0.alloc (bts (dig low m))).alloc (bts [0, 0, 0, 1])) (.slice (some ⟨w.heap.size + 1 + 1, 0, none⟩) 4 4) [0, 0, 0, 1] := InX.at s1 rfl (small_le (by simp)) (by simp [IsB]) (by rw [s1]; omega)
    have J : Hid (InX gb Wl (.slice (some ⟨w.heap.size + 1 + 1, 0, none⟩) 4 4) [0, 0, 0, 1] ∧ InX gb Wl (.slice a1 p.dst.length c1) p.dst ∧ InX gb Wl (.slice a2 p.src.length c2) p.src ∧ InX gb Wl nilV [] ∧ InX gb Wl (.slice (some ⟨w.heap.size + 1, 0, none⟩) m m) (dig low m) ∧ InX gb Wl (.slice a3 p.payload.length c3) p.payload ∧ w.grownBy Wl none) :=
      ⟨iV.grown gl, hd.grown (g0.trans gA), hs.grown (g0.trans gA), InX.nil _ _, ((iN.al _).grown gl), hy.grown (g0.trans gA), g0.trans gA⟩
    have bW := b0.grown gA
    have x0 := bW.cell 0 _ rfl
    have x1 := bW.cell 1 _ rfl
    have x2 := bW.cell 2 _ rfl
    have x3 := bW.cell 3 _ rfl
    have x4 := bW.cell 4 _ rfl
    have x5 := bW.cell 5 _ rfl
    have xl := bW.lt
    have n0 : ¬ w.heap.size = Wl.heap.size := by omega
    have n1 : ¬ w.heap.size = Wl.heap.size + 1 := by omega
    have n2 : ¬ w.heap.size = Wl.heap.size + 1 + 1 := by omega
    have n3 : ¬ w.heap.size = Wl.heap.size + 1 + 1 + 1 := by omega
    have l1 : w.heap.size < Wl.heap.size + 1 := by omega
    have l2 : w.heap.size < Wl.heap.size + 1 + 1 := by omega
    have l3 : w.heap.size < Wl.heap.size + 1 + 1 + 1 := by omega
    clear iV gA s3 gz s0 s1 bW b0 hW0 HW0
    clear gl g0 iN hd hs hy hle hbv hbg hc
    go_wp2_with fail
    refine (hpu _).mono ?_
    rintro e Wp ⟨rfl, hwp⟩
    subst hwp
    clear hpu
    go_wp2_with fail
    have t0 := alloc_size Wl (bts (layF (p.width + (p.payload.length : Int)) 2))
    have t1 := alloc_size (Wl.alloc (bts (layF (p.width + (p.payload.length : Int)) 2))) (bts [223 + p.width])
    rw [t0] at t1
    have t2 := alloc_size ((Wl.alloc (bts (layF (p.width + (p.payload.length : Int)) 2))).alloc (bts [223 + p.width])) (bts [(p.dst.length : Int)])
    rw [t1] at t2
    have t3 := alloc_size (((Wl.alloc (bts (layF (p.width + (p.payload.length : Int)) 2))).alloc (bts [223 + p.width])).alloc (bts [(p.dst.length : Int)])) (bts [(p.src.length : Int)])
    rw [t2] at t3
    go_ret
    refine ⟨Wl.heap.size + 1 + 1 + 1 + 1, [_, _, _, _, _, _, _, _, _, _], rfl, heap_at t3, by omega, rfl, ?_, ?_⟩
    · obtain ⟨j1, j2, j3, j4, j5, j6, gW⟩ := unhide J
      have k0 : InX gb _ _ [223 + p.width] := InX.at (l := [223 + p.width]) t0 rfl (small_le (by simp)) (by simp [IsB]; omega) (by rw [t0]; omega)
      have k1 : InX gb _ _ [(p.dst.length : Int)] := InX.at (l := [(p.dst.length : Int)]) t1 rfl (small_le (by simp)) (by simpa using hbd) (by rw [t1]; omega)
      have k2 : InX gb _ _ [(p.src.length : Int)] := InX.at (l := [(p.src.length : Int)]) t2 rfl (small_le (by simp)) (by simpa using hbs) (by rw [t2]; omega)
      have k3 : InX gb _ _ (layF (p.width + (p.payload.length : Int)) 2) := InX.new Wl _ 2 (layF_length _ _) (small_le (by simp)) hlb (by omega)
      exact Rows.cons (((k0.al _).al _).al _) (Rows.cons (((((j1.al _).al _).al _).al _).al _) (Rows.cons ((k1.al _).al _) (Rows.cons (((((j2.al _).al _).al _).al _).al _) (Rows.cons (k2.al _) (Rows.cons (((((j3.al _).al _).al _).al _).al _) (Rows.cons (((((j4.al _).al _).al _).al _).al _) (Rows.cons ((((k3.al _).al _).al _).al _) (Rows.cons (((((j5.al _).al _).al _).al _).al _) (Rows.cons (((((j6.al _).al _).al _).al _).al _) (Rows.nil _ _))))))))))
    · exact ((((((unhide J).2.2.2.2.2.2.trans (World.grownBy_alloc _ _ none)).trans (World.grownBy_alloc _ _ none)).trans (World.grownBy_alloc _ _ none)).trans (World.grownBy_alloc _ _ none)).trans (World.grownBy_alloc _ _ none))

end Go.Proofs.Ytpcnpdippnljpaa
