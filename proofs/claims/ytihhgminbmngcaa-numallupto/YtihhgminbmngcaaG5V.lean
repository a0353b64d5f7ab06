/- Turn, with what it leaves alone. -/
import Derived.Test.YtihhgminbmngcaaXM
namespace Go.Proofs.Ytihhgminbmngcaa.Tu
open Go.RowKit Go.Proofs.Ytihhgminbmngcaa
set_option linter.unusedVariables false
set_option maxRecDepth 100000


theorem getD_set_eq (l : List Int) (i : Nat) (x : Int) (h : i < l.length) : (l.set i x).getD i 0 = x := by simp [List.getD, h]
theorem getD_set_ne (l : List Int) (i j : Nat) (x : Int) (h : i ≠ j) : (l.set i x).getD j 0 = l.getD j 0 := by simp [List.getD, h]
theorem set_byte (l : List Int) (i : Nat) (x : Int) (hl : ∀ y ∈ l, IsB y) (hx : IsB x) : ∀ y ∈ l.set i x, IsB y := by
  intro y hy
  rcases List.mem_or_eq_of_mem_set hy with h | h
  · exact hl y h
  · rw [h]; exact hx
theorem xor1_byte (x : Int) (h : IsB x) : IsB (bits .xor .u8 x 1) := by
  obtain ⟨h0, h1⟩ := h
  obtain ⟨m, rfl⟩ := Int.eq_ofNat_of_zero_le h0
  rw [show (1 : Int) = ((1 : Nat) : Int) from rfl, u8_xor_nat m 1 (by omega) (by omega)]
  have : m ^^^ 1 < 2 ^ 8 := Nat.xor_lt_two_pow (by omega) (by omega)
  exact ⟨by omega, by omega⟩
theorem list_ext_getD (l m : List Int) (hl : l.length = m.length) (h : ∀ j, l.getD j 0 = m.getD j 0) : l = m := by
  apply List.ext_getElem hl
  intro i h1 h2
  have := h i
  simpa [List.getD, h1, h2] using this

/-- Turn's invariant. -/
def TI (n i : Nat) (F W : List Int) : Prop := (∀ x ∈ F, IsB x) ∧ ∀ j, j < i ∨ n ≤ j → W.getD j 0 = F.getD j 0
theorem TI.turn {n i : Nat} {F W : List Int} (h : TI n i F W) (hi : i < n) (hF : n ≤ F.length) (hW : n ≤ W.length) (x : Int) (hx : IsB x) : TI n (i + 1) (F.set i x) (W.set i x) := by
  refine ⟨set_byte F i x h.1 hx, fun j hj => ?_⟩
  by_cases e : i = j
  · subst e; rw [getD_set_eq _ _ _ (by omega), getD_set_eq _ _ _ (by omega)]
  · rw [getD_set_ne _ _ _ _ e, getD_set_ne _ _ _ _ e]; exact h.2 j (by omega)
theorem TI.leave {n i : Nat} {F W : List Int} (h : TI n i F W) (hi : i < n) (hW : n ≤ W.length) : TI n (i + 1) F (W.set i (F.getD i 0)) := by
  refine ⟨h.1, fun j hj => ?_⟩
  by_cases e : i = j
  · subst e; rw [getD_set_eq _ _ _ (by omega)]
  · rw [getD_set_ne _ _ _ _ e]; exact h.2 j (by omega)

theorem _root_.Go.Proofs.Ytihhgminbmngcaa.Lent.drew {w0 wr : World} {B g n gf cf gw cw : Nat} {F W : List Int} (h : Lent w0 B wr g n gf cf gw cw F W) : Lent w0 B wr.drew g n gf cf gw cw F W := ⟨h.blk, h.full, h.was, h.sep, h.bel.drew, h.low⟩

def Only (w W : World) (a b : Nat) : Prop := W.heap.size = w.heap.size ∧ ∀ i, i ≠ a → i ≠ b → W.heap[i]? = w.heap[i]?
theorem Only.refl (w : World) (a b : Nat) : Only w w a b := ⟨rfl, fun _ _ _ => rfl⟩
theorem Only.setA {w W : World} {a b : Nat} (h : Only w W a b) (j : Nat) (v : Value) : Only w (W.setCell ⟨a, j, none⟩ v) a b := by
  refine ⟨?_, fun i h1 h2 => ?_⟩
  · have : (W.setCell ⟨a, j, none⟩ v).heap.size = W.heap.size := by simp [World.setCell]
    rw [this]; exact h.1
  · rw [heap_setCell_other _ _ _ _ (by show i ≠ a; exact h1)]; exact h.2 i h1 h2
theorem Only.setB {w W : World} {a b : Nat} (h : Only w W a b) (j : Nat) (v : Value) : Only w (W.setCell ⟨b, j, none⟩ v) a b := by
  refine ⟨?_, fun i h1 h2 => ?_⟩
  · have : (W.setCell ⟨b, j, none⟩ v).heap.size = W.heap.size := by simp [World.setCell]
    rw [this]; exact h.1
  · rw [heap_setCell_other _ _ _ _ (by show i ≠ b; exact h2)]; exact h.2 i h1 h2
theorem Only.drew {w W : World} {a b : Nat} (h : Only w W a b) : Only w W.drew a b := h

set_option maxHeartbeats 3200000 in
theorem turn_only (w0 w1 : World) (B g n gf cf gw cw : Nat) (k : Int) (F : List Int) (h : Lent w0 B w1 g n gf cf gw cw F F) (hF : ∀ x ∈ F, IsB x) (hk : 0 < k) (hk2 : k < 9223372036854775807) :
    Calls Try.prog 9 #[.pointer (some ⟨g, 0, none⟩), .int .i64 k] w1 fun e w' => e = .returned (.tuple #[]) ∧ ∃ F', Lent w0 B w' g n gf cf gw cw F' F' ∧ (∀ x ∈ F', IsB x) ∧ Only w1 w' gf gw := by
  obtain ⟨hne, hg1, hg2, h1, h2, h3, h4⟩ := h.ne
  unfold maxLen at h2 h4
  have H := hide h
  have HF := hide hF
  clear h hF
  go_enter Try.func9, Try.ntmps9
  go_wp2
  go_loopw [4] (fun i wr => ∃ (j : Nat) (F W : List Int), j ≤ n ∧ i = .int .i64 j ∧ Lent w0 B wr g n gf cf gw cw F W ∧ TI n j F W ∧ Only w1 wr gf gw) (fun i _ => n - (intOf i).toNat)
  case atStart => exact ⟨0, F, F, Nat.zero_le _, rfl, unhide H, ⟨unhide HF, fun _ _ => rfl⟩, Only.refl _ _ _⟩
  case round =>
    obtain ⟨j, F, W, hj, rfl, lent, ti, only⟩ := hrel
    obtain ⟨c0, c1, c2, f0, f1⟩ := lent.cells
    by_cases hlt : j < n
    · have hfl := lent.flen
      have hwl := lent.wlen
      obtain ⟨k1, k3⟩ := lent.fcell j (by omega)
      obtain ⟨k2, k4⟩ := lent.wcell j (by omega)
      have hb := ti.1 (F.getD j 0) (by simp [List.getD, show j < F.length by omega])
      by_cases ht : (j : Int) % k = k - 1
      · have hte : ((j : Int) % k == k - 1) = true := by rw [beq_iff_eq]; exact ht
        have lf := lent.setF j (bits .xor .u8 (F.getD j 0) 1)
        obtain ⟨d0, d1, d2, d3, d4⟩ := lf.cells
        obtain ⟨e1, e3⟩ := lf.fcell j (by omega)
        rw [getD_set_eq _ _ _ (by omega)] at e1
        obtain ⟨e2, e4⟩ := lf.wcell j (by omega)
        have O := hide ((only.setA j (.int .u8 (bits .xor .u8 (F.getD j 0) 1))).setB j (.int .u8 (bits .xor .u8 (F.getD j 0) 1)))
        have L := hide (lf.setW j (bits .xor .u8 (F.getD j 0) 1))
        have T := hide (ti.turn hlt (by omega) (by omega) (bits .xor .u8 (F.getD j 0) 1) (xor1_byte _ hb))
        generalize F.getD j 0 = x at k1 e1 e2 e3 e4 d0 d1 d2 d3 d4 L T O
        generalize W.getD j 0 = y at k2 e2
        generalize F.set j (bits .xor .u8 x 1) = F1 at L T
        clear lent ti hfl hwl ht hb lf only
        go_wp2
        go_region
        go_wp2
        go_region
        go_wp2
        go_roundw
        case rel => exact ⟨j + 1, _, _, by omega, by go_num, (unhide L).drew.drew, unhide T, (unhide O).drew.drew⟩
        case measure => simp [intOf]; omega
      · have hte : ((j : Int) % k == k - 1) = false := by rw [beq_eq_false_iff_ne]; exact ht
        have O := hide (only.setB j (.int .u8 (F.getD j 0)))
        have L := hide (lent.setW j (F.getD j 0))
        have T := hide (ti.leave hlt (by omega))
        generalize F.getD j 0 = x at k1 L T O
        generalize W.getD j 0 = y at k2
        clear lent ti hfl hwl ht hb only
        go_wp2
        go_region
        go_wp2
        go_roundw
        case rel => exact ⟨j + 1, _, _, by omega, by go_num, (unhide L).drew, unhide T, (unhide O).drew⟩
        case measure => simp [intOf]; omega
    · have e : W = F := list_ext_getD W F (by rw [lent.flen, lent.wlen]) (fun i => ti.2 i (by omega))
      subst e
      have L := hide lent
      have T := hide ti
      have O := hide only
      clear lent ti only
      go_wp2
      go_end0
      exact ⟨rfl, W, unhide L, (unhide T).1, unhide O⟩
end Go.Proofs.Ytihhgminbmngcaa.Tu
