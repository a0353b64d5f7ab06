/- bytesOf, Encode. -/
import Derived.Test.YtmfbbamaleagiaaDoorXB
namespace Go.Proofs.YtmfbbamaleagiaaDoor
open Go.RowKit
set_option linter.unusedVariables false
set_option maxRecDepth 100000
set_option maxHeartbeats 1000000

theorem dig_byte (v : Int) (n : Nat) : ∀ x ∈ dig v n, IsB x := by
  induction n with
  | zero => simp [dig]
  | succ n ih =>
    intro x hx
    simp only [dig, List.mem_cons] at hx
    rcases hx with rfl | hx
    · unfold IsB; omega
    · exact ih x hx

theorem layF_byte (v : Int) (n : Nat) (h0 : 0 ≤ v) (h : Fits v n) : ∀ x ∈ layF v n, IsB x := by
  have key : ∀ (m : Nat) (c : Int), 0 ≤ v / 256 ^ m % 256 + c → v / 256 ^ m % 256 + c ≤ 255 → ∀ x ∈ (v / 256 ^ m % 256 + c) :: dig v m, IsB x := fun m c h1 h2 x hx => by
    simp only [List.mem_cons] at hx
    rcases hx with rfl | hx
    · exact ⟨h1, h2⟩
    · exact dig_byte v m x hx
  rcases h with ⟨rfl, h⟩ | ⟨rfl, h⟩ | ⟨rfl, h⟩ | ⟨rfl, h⟩
  · exact key 0 0 (by simp; omega) (by simp; omega)
  · exact key 1 64 (by simp; omega) (by simp; omega)
  · exact key 3 128 (by simp; omega) (by simp; omega)
  · exact key 7 192 (by simp; omega) (by simp; omega)
theorem rd_at {w : World} {g : Nat} {l : List Int} (h : w.heap[g]? = some (bts l)) (hb : ∀ x ∈ l, IsB x) : Rd w (some ⟨g, 0, none⟩) l := by
  refine ⟨hb, fun _ => ⟨g, 0, rfl, fun i hi => ?_⟩⟩
  unfold World.cell?
  rw [h]
  simp [bts, List.getD, hi]

/-- A sized number in its shortest form. -/
def sh (v : Int) : List Int := layF v (sizeF v)
theorem sh_length (v : Int) : (sh v).length = sizeF v := layF_length _ _
/-- A parameter's bytes. -/
def partB (n v : Int) : List Int := sh n ++ sh (sizeF v) ++ sh v

theorem sizeF_pos (v : Int) (h : v ≤ 4611686018427387903) : 0 < sizeF v ∧ sizeF v ≤ 8 := by
  unfold sizeF; (repeat' split) <;> omega
theorem lay_bytes (v : Int) (h0 : 0 ≤ v) (h : v ≤ 4611686018427387903) : ∀ x ∈ sh v, IsB x := layF_byte v _ h0 (fits_size v h)

theorem size_alloc' (W : World) (o : Obj) : (W.alloc o).heap.size = W.heap.size + 1 := by show (W.heap.push _).size = _; simp
theorem blk4 (w : World) (A B C D : Array Value) (ta tb tc td : TypeId) :
    Blk ((((w.alloc (.cells A ta)).alloc (.cells B tb)).alloc (.cells C tc)).alloc (.cells D td)) w.heap.size A ta ∧ Blk ((((w.alloc (.cells A ta)).alloc (.cells B tb)).alloc (.cells C tc)).alloc (.cells D td)) (w.heap.size + 1) B tb ∧
    Blk ((((w.alloc (.cells A ta)).alloc (.cells B tb)).alloc (.cells C tc)).alloc (.cells D td)) (w.heap.size + 1 + 1) C tc ∧ Blk ((((w.alloc (.cells A ta)).alloc (.cells B tb)).alloc (.cells C tc)).alloc (.cells D td)) (w.heap.size + 1 + 1 + 1) D td := by
  have h1 := (((Blk.new w A ta).alloc (.cells B tb)).alloc (.cells C tc)).alloc (.cells D td)
  have h2 := ((Blk.new (w.alloc (.cells A ta)) B tb).alloc (.cells C tc)).alloc (.cells D td)
  have h3 := (Blk.new ((w.alloc (.cells A ta)).alloc (.cells B tb)) C tc).alloc (.cells D td)
  have h4 := Blk.new (((w.alloc (.cells A ta)).alloc (.cells B tb)).alloc (.cells C tc)) D td
  rw [size_alloc'] at h2
  rw [size_alloc', size_alloc'] at h3
  rw [size_alloc', size_alloc', size_alloc'] at h4
  exact ⟨h1, h2, h3, h4⟩

theorem lists3 (w : World) (l0 l1 l2 : List Int) (n0 n1 n2 : Nat) (e0 : l0.length = n0) (e1 : l1.length = n1) (e2 : l2.length = n2) (b0 : ∀ x ∈ l0, IsB x) (b1 : ∀ x ∈ l1, IsB x) (b2 : ∀ x ∈ l2, IsB x) (t : TypeId) :
    Lists ((((w.alloc (bts l0)).alloc (bts l1)).alloc (bts l2)).alloc (.cells #[.slice (some ⟨w.heap.size, 0, none⟩) n0 n0, .slice (some ⟨w.heap.size + 1 + 1, 0, none⟩) n2 n2, .slice (some ⟨w.heap.size + 1, 0, none⟩) n1 n1] t))
      (w.heap.size + 1 + 1 + 1) (fun k => [some ⟨w.heap.size, 0, none⟩, some ⟨w.heap.size + 1 + 1, 0, none⟩, some ⟨w.heap.size + 1, 0, none⟩].getD k none) (fun k => [n0, n2, n1].getD k 0) (fun k => [l0, l2, l1].getD k []) := by
  subst e0 e1 e2
  obtain ⟨B0, B1, B2, B3⟩ := blk4 w (l0.map (Value.int .u8)).toArray (l1.map (Value.int .u8)).toArray (l2.map (Value.int .u8)).toArray #[.slice (some ⟨w.heap.size, 0, none⟩) l0.length l0.length, .slice (some ⟨w.heap.size + 1 + 1, 0, none⟩) l2.length l2.length, .slice (some ⟨w.heap.size + 1, 0, none⟩) l1.length l1.length] 5 5 5 t
  refine ⟨fun k hk => ?_, fun k hk => ?_⟩
  · obtain rfl | rfl | rfl : k = 0 ∨ k = 1 ∨ k = 2 := by omega
    · exact B3.cell 0 _ rfl
    · exact B3.cell 1 _ rfl
    · exact B3.cell 2 _ rfl
  · obtain rfl | rfl | rfl : k = 0 ∨ k = 1 ∨ k = 2 := by omega
    · exact rd_at B0 b0
    · exact rd_at B2 b2
    · exact rd_at B1 b1

theorem bytesOf_any (n v : Int) (w : World) (hn : 0 ≤ n ∧ n ≤ 4611686018427387903) (hv : 0 ≤ v ∧ v ≤ 4611686018427387903) :
    Calls Tryd.prog 34 #[.int .u64 n, .int .i64 v] w fun e w' => ∃ s, e = .returned s ∧ OwnB w.heap.size w' s (partB n v) ∧ w.grownBy w' none := by
  have p1 := put_ok n w hn.1 hn.2
  have p2 := fun W => put_ok v W hv.1 hv.2
  obtain ⟨s1, s2⟩ := sizeF_pos v hv.2
  have p3 := fun W => put_ok (sizeF v) W (by omega) (by omega)
  have hcv : IntKind.u64.wrap v = v := by rw [IntKind.wrap_u64]; omega
  obtain ⟨n1, n2⟩ := sizeF_pos n hn.2
  obtain ⟨z1, z2⟩ := sizeF_pos (sizeF v) (by omega)
  have b1 := lay_bytes n hn.1 hn.2
  have b2 := lay_bytes v hv.1 hv.2
  have b3 := lay_bytes (sizeF v) (by omega) (by omega)
  have LL := lists3 w (sh n) (sh v) (sh (sizeF v)) _ _ _ (sh_length n) (sh_length v) (sh_length (sizeF v)) b1 b2 b3 31
  have CC := concat3 _ _ _ _ _ LL (fun k hk => by
    obtain rfl | rfl | rfl : k = 0 ∨ k = 1 ∨ k = 2 := by omega
    · show 0 < (sh n).length ∧ (sh n).length ≤ 1000; rw [sh_length]; omega
    · show 0 < (sh (sizeF v)).length ∧ (sh (sizeF v)).length ≤ 1000; rw [sh_length]; omega
    · show 0 < (sh v).length ∧ (sh v).length ≤ 1000; rw [sh_length]; omega)
  have G4 : w.grownBy ((((w.alloc (bts (sh n))).alloc (bts (sh v))).alloc (bts (sh (sizeF v)))).alloc (.cells #[.slice (some ⟨w.heap.size, 0, none⟩) (sizeF n) (sizeF n), .slice (some ⟨w.heap.size + 1 + 1, 0, none⟩) (sizeF (sizeF v)) (sizeF (sizeF v)), .slice (some ⟨w.heap.size + 1, 0, none⟩) (sizeF v) (sizeF v)] 31)) none :=
    (((World.grownBy_alloc w _ none).trans (World.grownBy_alloc _ _ none)).trans (World.grownBy_alloc _ _ none)).trans (World.grownBy_alloc _ _ none)
  unfold sh at CC G4
  have HG := hide G4
  have HC := hide CC
  clear LL b1 b2 b3 G4 CC
  go_enter Tryd.func34, Tryd.ntmps34
  go_wp2_with (first | (go_at_call 26; refine p1.mono ?_; rintro e W1 ⟨rfl, rfl⟩; clear p1) | (go_at_call 26; refine (p2 _).mono ?_; rintro e W1 ⟨rfl, rfl⟩; clear p2) | (go_at_call 26; refine (p3 _).mono ?_; rintro e W1 ⟨rfl, rfl⟩; clear p3) | (go_at_call 45; refine (unhide HC).mono ?_; rintro e W1 ⟨s, rfl, ho, hg⟩; have F := hide (And.intro (OwnB.mono ho (unhide HG).size) ((unhide HG).trans hg)); clear ho hg))
  go_ret
  refine ⟨_, rfl, ?_, (unhide F).2⟩
  have := (unhide F).1
  simpa [catK, partB, sh] using this

/-- Encode, as the document has it: the bytes of the first k. -/
def partK (k : Nat) (v : Int) : List Int := if v = untT k then [] else partB (numT k) v
def encK (p : Ps) : Nat → List Int
  | 0 => []
  | k + 1 => encK p k ++ partK k (p.l.getD k 0)
def encF (p : Ps) : List Int := encK p 9

theorem checkFrom_ok (l : List Int) (f k : Nat) : checkFrom l f k = 0 ↔ ∀ j, k ≤ j → j < k + f → okV j (l.getD j 0) := by
  induction f generalizing k with
  | zero => simp [checkFrom]; intro j h1 h2; omega
  | succ f ih =>
    unfold checkFrom
    by_cases h : 0 ≤ l.getD k 0 ∧ l.getD k 0 ≤ mostT k
    · rw [if_pos h, ih]
      constructor
      · intro H j h1 h2
        by_cases e : j = k
        · subst e; exact h
        · exact H j (by omega) (by omega)
      · intro H j h1 h2; exact H j (by omega) (by omega)
    · rw [if_neg h]
      constructor
      · intro e; cases e
      · intro H; exact absurd (H k (by omega) (by omega)) h
theorem checkF_ok (p : Ps) : checkF p = 0 ↔ ∀ j, j < 9 → okV j (p.l.getD j 0) := by
  unfold checkF; rw [checkFrom_ok]
  constructor
  · intro H j hj; exact H j (by omega) (by omega)
  · intro H j _ hj; exact H j (by omega)
theorem checkFrom_two (l : List Int) (f k : Nat) : checkFrom l f k = 0 ∨ checkFrom l f k = 62 := by
  induction f generalizing k with
  | zero => exact .inl rfl
  | succ f ih => unfold checkFrom; split; exact ih _; exact .inr rfl
theorem most_small (k : Nat) (hk : k < 9) : mostT k ≤ 68719476736 ∧ 1 ≤ numT k ∧ numT k ≤ 11 := by
  obtain rfl | rfl | rfl | rfl | rfl | rfl | rfl | rfl | rfl : k = 0 ∨ k = 1 ∨ k = 2 ∨ k = 3 ∨ k = 4 ∨ k = 5 ∨ k = 6 ∨ k = 7 ∨ k = 8 := by omega
  all_goals decide

end Go.Proofs.YtmfbbamaleagiaaDoor
