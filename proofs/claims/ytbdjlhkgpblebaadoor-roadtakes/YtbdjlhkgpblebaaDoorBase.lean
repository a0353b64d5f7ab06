/- Plain lists of bytes and what the world says of them. No program in sight. -/
import Derived.WalkKit
import Derived.Below
import Derived.Laws.BitsAllLaws
namespace Go.Proofs.YtbdjlhkgpblebaaDoor
set_option maxRecDepth 100000
open Go.RowKit

theorem hide {p : Prop} (h : p) : Hid p := h
theorem unhide {p : Prop} (h : Hid p) : p := h

/-- A byte. -/
def IsB (x : Int) : Prop := 0 ≤ x ∧ x ≤ 255

/-- What a slice's address leads to: its elements read as these bytes. -/
def Rd (w : World) (a : Option Addr) (l : List Int) : Prop :=
  (∀ x ∈ l, IsB x) ∧ (l ≠ [] → ∃ b off, a = some ⟨b, off, none⟩ ∧ ∀ i, i < l.length → w.cell? ⟨b, off + i, none⟩ = some (.int .u8 (l.getD i 0)))

/-- How many bytes a sized number needs. -/
def sizeF (v : Int) : Nat := if v < 64 then 1 else if v < 16384 then 2 else if v < 1073741824 then 4 else if v ≤ 4611686018427387903 then 8 else 0

/-- The n lowest digits, the highest first. -/
def dig (v : Int) : Nat → List Int
  | 0 => []
  | n + 1 => (v / 256 ^ n % 256) :: dig v n

/-- Bytes set behind a number. -/
def joinF (v : Int) (l : List Int) : Int := l.foldl (fun v x => v * 256 + x) v

def markF (n : Nat) : Int := if n = 1 then 0 else if n = 2 then 64 else if n = 4 then 128 else 192

/-- A sized number of n bytes. -/
def layF (v : Int) (n : Nat) : List Int :=
  match dig v n with
  | [] => []
  | x :: r => (x + markF n) :: r

theorem dig_length (v : Int) (n : Nat) : (dig v n).length = n := by
  induction n generalizing v with
  | zero => rfl
  | succ n ih => simp [dig, ih]

theorem layF_length (v : Int) (n : Nat) : (layF v n).length = n := by
  have h := dig_length v n
  unfold layF
  split
  · rename_i e; rw [e] at h; simpa using h
  · rename_i e; rw [e] at h; simpa using h

/-- How many bytes a sized number has, by its first byte. -/
def sz (x : Int) : Nat := if x < 64 then 1 else if x < 128 then 2 else if x < 192 then 4 else 8

/-- Get, as the document has it. -/
def getF (l : List Int) (i : Int) : Int × Int × Int :=
  if i < 0 ∨ (l.length : Int) < i then (0, 0, 1)
  else if i = l.length then (0, 0, 11)
  else if (l.length : Int) - i < sz (l.getD i.toNat 0) then (0, 0, 11)
  else (joinF (l.getD i.toNat 0 % 64) ((l.drop (i.toNat + 1)).take (sz (l.getD i.toNat 0) - 1)), i + sz (l.getD i.toNat 0), 0)

/-- ReadBig, as the document has it. -/
def readF (l : List Int) (i n : Int) : Int × Int × Int :=
  if n < 0 ∨ 8 < n ∨ i < 0 ∨ (l.length : Int) < i then (0, 0, 1)
  else if (l.length : Int) - i < n then (0, 0, 11)
  else (joinF 0 ((l.drop i.toNat).take n.toNat), i + n, 0)

theorem or_mark (m x : Int) (hm : m = 0 ∨ m = 64 ∨ m = 128 ∨ m = 192) (h0 : 0 ≤ x) (h1 : x < 64) : bits .or .u8 m x = x + m := by
  obtain ⟨n, rfl⟩ := Int.eq_ofNat_of_zero_le h0
  have key : ∀ k : Nat, k < 4 → bits .or .u8 ((k * 64 : Nat) : Int) (n : Int) = (n : Int) + ((k * 64 : Nat) : Int) := fun k hk => by
    rw [u8_or_nat (k * 64) n (by omega) (by omega), nat_join 6 (k * 64) n (by omega) (by omega)]
    omega
  rcases hm with rfl | rfl | rfl | rfl
  · simpa using key 0 (by omega)
  · simpa using key 1 (by omega)
  · simpa using key 2 (by omega)
  · simpa using key 3 (by omega)

theorem or_low (v x : Int) (h0 : 0 ≤ v) (h1 : v * 256 < 18446744073709551616) (x0 : 0 ≤ x) (x1 : x ≤ 255) : bits .or .u64 (v * 256) x = v * 256 + x := by
  obtain ⟨n, rfl⟩ := Int.eq_ofNat_of_zero_le h0
  obtain ⟨m, rfl⟩ := Int.eq_ofNat_of_zero_le x0
  have e : ((n : Int) * 256) = ((n * 256 : Nat) : Int) := by omega
  rw [e, u64_or_nat (n * 256) m (by omega) (by omega), nat_join 8 (n * 256) m (by omega) (by omega)]
  omega

theorem and_63 (x : Int) (h0 : 0 ≤ x) (h1 : x ≤ 255) : bits .and .u8 x 63 = x % 64 := by
  obtain ⟨n, rfl⟩ := Int.eq_ofNat_of_zero_le h0
  rw [show (63 : Int) = ((63 : Nat) : Int) from rfl, u8_and_nat n 63 (by omega) (by omega)]
  have := Nat.and_two_pow_sub_one_eq_mod n 6
  simp only [show (2 : Nat) ^ 6 - 1 = 63 from rfl, show (2 : Nat) ^ 6 = 64 from rfl] at this
  rw [this]
  omega

theorem joinF_nil (v : Int) : joinF v [] = v := rfl
theorem joinF_cons (v x : Int) (l : List Int) : joinF v (x :: l) = joinF (v * 256 + x) l := rfl
theorem joinF_snoc (v x : Int) (l : List Int) : joinF v (l ++ [x]) = joinF v l * 256 + x := by simp [joinF]

/-- A number that bytes are set behind stays below. -/
theorem joinF_lt (l : List Int) (hl : ∀ x ∈ l, IsB x) : ∀ (v B : Int), 0 ≤ v → v < B → 0 ≤ joinF v l ∧ joinF v l < B * 256 ^ l.length := by
  induction l with
  | nil => intro v B h0 h1; simp [joinF]; exact ⟨h0, h1⟩
  | cons x r ih =>
    intro v B h0 h1
    have hx := hl x (by simp)
    unfold IsB at hx
    have := ih (fun y hy => hl y (by simp [hy])) (v * 256 + x) (B * 256) (by omega) (by omega)
    rw [joinF_cons]
    refine ⟨this.1, ?_⟩
    have e : B * 256 ^ (x :: r).length = B * 256 * 256 ^ r.length := by
      rw [List.length_cons, Int.pow_succ, Int.mul_comm (256 ^ r.length) 256, Int.mul_assoc]
    rw [e]; exact this.2

theorem take_snoc (l : List Int) (k : Nat) (h : k < l.length) : l.take (k + 1) = l.take k ++ [l.getD k 0] := by
  rw [List.take_succ_eq_append_getElem h]
  simp [List.getD, h]

end Go.Proofs.YtbdjlhkgpblebaaDoor
