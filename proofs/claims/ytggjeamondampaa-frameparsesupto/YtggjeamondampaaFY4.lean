/- Every part; the reader's frame. -/
import Derived.Test.YtggjeamondampaaFY3
namespace Go.Proofs.Ytggjeamondampaa
open Go.RowKit
set_option linter.unusedVariables false
set_option linter.unusedSimpArgs false
set_option maxRecDepth 100000
set_option maxHeartbeats 4000000
theorem results_c {P : Program} {fn : Func} {p : Tmp} {tp : TypeId} (h : fn.results = #[.cell p tp]) (tmps : Array Value) (w : World) (g1 : Nat) (c1 : Array Value) (d1 : TypeDesc)
    (hp : tmps.getD p undef = .pointer (some ⟨g1, 0, none⟩)) (b1 : Blk w g1 c1 tp)
    (hu1 : P.underlying tp = some d1) (hd1 : (match d1 with | .struct _ | .array _ _ => true | _ => false) = true) (hi1 : (P.info? tp).map (·.size) = some c1.size) :
    (results fn tmps).run P w = .ok (.agg c1) w := by
  have hp' : tmps[p]?.getD undef = .pointer (some ⟨g1, 0, none⟩) := by simpa using hp
  simp [results, h, hp', asAddr, run_loadVar_row w g1 tp tp c1 (0, 0) d1 b1 hu1 hd1 hi1]
section
variable {w0 w : World} {g b : Nat} {a : Option Addr} {l : List Int} {c k : Nat} {y : Int} {f : Fr} {d r : Value}
theorem part_any (q : Nat) (hq : q ≤ 14) (h : PI w0 w g b a l c k y f d r) (h9 : q = 9 → f.runs ≠ []) : Calls Try.prog 82 #[.pointer (some ⟨g, 0, none⟩), .pointer (some ⟨b, 0, none⟩), .int .i64 q] w (PartPost w0 g b a l c k y f q) := by
  rcases (by omega : q = 0 ∨ q = 1 ∨ q = 2 ∨ q = 3 ∨ q = 4 ∨ q = 5 ∨ q = 6 ∨ q = 7 ∨ q = 8 ∨ q = 9 ∨ q = 10 ∨ q = 11 ∨ q = 12 ∨ q = 13 ∨ q = 14) with rfl | rfl | rfl | rfl | rfl | rfl | rfl | rfl | rfl | rfl | rfl | rfl | rfl | rfl | rfl
  · exact part_0 h
  · exact part_1 h
  · exact part_2 h
  · exact part_3 h
  · exact part_4 h
  · exact part_5 h
  · exact part_6 h
  · exact part_7 h
  · exact part_8 h
  · exact part_9 h (h9 rfl)
  · exact part_10 h
  · exact part_11 h
  · exact part_12 h
  · exact part_13 h
  · exact part_14 h
end
/-- What is left of the four parts. -/
def restP (p : Parts) : Nat → Fr → List Int → (Fr × List Int) ⊕ Int
  | 0, f, L => .inl (f, L)
  | m + 1, f, L => bind' (readP (nth p (3 - m)) f L) (restP p m)
theorem restP_4 (p : Parts) (f : Fr) (L : List Int) : restP p 4 f L = readPs p f L := by
  have e : ∀ x : (Fr × List Int) ⊕ Int, bind' x (fun f l => .inl (f, l)) = x := fun x => by cases x <;> rfl
  show bind' (readP p.1 f L) (fun f L => bind' (readP p.2.1 f L) (fun f L => bind' (readP p.2.2.1 f L) (fun f L => bind' (readP p.2.2.2 f L) (fun f l => .inl (f, l))))) = _
  simp only [e]
  rfl
/-- Where runs are read, the largest was. -/
def OkP (p : Parts) : Nat → Fr → Prop
  | 0, _ => True
  | m + 1, f => (nth p (3 - m) = 9 → f.runs ≠ []) ∧ ∀ L f' l1, readP (nth p (3 - m)) f L = .inl (f', l1) → OkP p m f'
theorem okP_no {p : Parts} (h : ∀ k, nth p k ≠ 9) : ∀ m f, OkP p m f
  | 0, _ => trivial
  | m + 1, f => ⟨fun e => absurd e (h _), fun _ f' _ _ => okP_no h m f'⟩
theorem read8 {f f' : Fr} {L l1 : List Int} (h : readP 8 f L = .inl (f', l1)) : f'.runs ≠ [] := by
  have e : readP 8 f L = (match numF L with | none => .inr 40 | some (v, l1) => .inl ({ f with runs := [(0, v)] }, l1)) := rfl
  rw [e] at h
  cases hn : numF L with
  | none => rw [hn] at h; simp at h
  | some q => rw [hn] at h; simp at h; rw [← h.1]; simp
theorem read7 {f f' : Fr} {L l1 : List Int} (h : readP 7 f L = .inl (f', l1)) : f'.runs = f.runs := by
  have e : readP 7 f L = (match numF L with | none => .inr 40 | some (v, l1) => if v > mostF 7 then .inr 42 else .inl (setF f 7 v, l1)) := rfl
  rw [e] at h
  cases hn : numF L with
  | none => rw [hn] at h; simp at h
  | some q =>
    rw [hn] at h
    simp only at h
    split at h
    · simp at h
    · simp at h; rw [← h.1]; rfl
theorem okP_shape {k0 : Int} {bare : Fr} {l : Parts} (hs : shapeF k0 = some (bare, l)) : OkP l 4 bare := by
  have h9 : (l = (8, 7, 9, 0) ∨ l = (8, 7, 9, 10)) ∨ ∀ k, nth l k ≠ 9 := by
    rcases shape_parts hs with e | e | e | e | e | e | e | e | e | e | e | e | e | e | e | e | e <;> first | exact .inl (.inl e) | exact .inl (.inr e) | (right; intro k; rw [e]; unfold nth; (repeat' split) <;> decide)
  rcases h9 with (e | e) | h9
  · subst e
    exact ⟨fun e => absurd e (by decide), fun L f' l1 h8 => ⟨fun e => absurd e (by decide), fun L2 f2 l2 h7 => ⟨fun _ => by rw [read7 h7]; exact read8 h8, fun L3 f3 l3 h3 => ⟨fun e => absurd e (by decide), fun _ _ _ _ => trivial⟩⟩⟩⟩
  · subst e
    exact ⟨fun e => absurd e (by decide), fun L f' l1 h8 => ⟨fun e => absurd e (by decide), fun L2 f2 l2 h7 => ⟨fun _ => by rw [read7 h7]; exact read8 h8, fun L3 f3 l3 h3 => ⟨fun e => absurd e (by decide), fun _ _ _ _ => trivial⟩⟩⟩⟩
  · exact okP_no h9 _ _
theorem bare_plain {k0 : Int} {bare : Fr} {l : Parts} (hs : shapeF k0 = some (bare, l)) : bare.data = [] ∧ bare.runs = [] ∧ bare.offset = 0 := by
  have dom := shape_dom hs
  have h' : k0 = 0 ∨ k0 = 1 ∨ k0 = 30 ∨ k0 = 2 ∨ k0 = 3 ∨ k0 = 4 ∨ k0 = 5 ∨ k0 = 6 ∨ k0 = 8 ∨ k0 = 9 ∨ k0 = 10 ∨ k0 = 11 ∨ k0 = 12 ∨ k0 = 13 ∨ k0 = 14 ∨ k0 = 15 ∨ k0 = 16 ∨ k0 = 20 ∨ k0 = 17 ∨ k0 = 21 ∨ k0 = 19 ∨ k0 = 23 ∨ k0 = 18 ∨ k0 = 22 ∨ k0 = 26 ∨ k0 = 27 ∨ k0 = 28 ∨ k0 = 29 := by omega
  clear dom
  rcases h' with rfl | rfl | rfl | rfl | rfl | rfl | rfl | rfl | rfl | rfl | rfl | rfl | rfl | rfl | rfl | rfl | rfl | rfl | rfl | rfl | rfl | rfl | rfl | rfl | rfl | rfl | rfl | rfl
  all_goals
    have e := congrArg (fun x => x.map Prod.fst) hs
    have e2 : _ = bare := Option.some.inj e
    subst e2
    exact ⟨rfl, rfl, rfl⟩
theorem RB.far {w W : World} {g : Nat} {a : Option Addr} {l : List Int} {c : Nat} (h : RB w a l c) (hg : w.grownBy W (some g)) (hn : ∀ x, a = some x → x.block ≠ g) : RB W a l c :=
  ⟨h.rd0.far hg (fun x hx => ⟨hn x hx, h.inb x hx⟩), h.cap, h.max, fun x hx => Nat.lt_of_lt_of_le (h.inb x hx) hg.size, h.pl, h.len⟩
theorem grown_some {w W : World} (h : w.grownBy W none) (g : Nat) : w.grownBy W (some g) := ⟨h.os, h.tape, h.output, h.size, fun k hk _ => h.block k hk (by simp)⟩
/-- What frame answers. -/
def FramePost (w : World) (g : Nat) (a : Option Addr) (l : List Int) (c k : Nat) (y : Int) (e : Ending) (w' : World) : Prop :=
  (∃ f' l1 d' r', decF (l.drop k) = .inl (f', l1) ∧ e = .returned (f'.val d' r') ∧ l1 = l.drop (l.length - l1.length) ∧ Blk w' g (rdr (.slice a l.length c) (l.length - l1.length : Nat) y) 105 ∧ OwnB w.heap.size w' d' f'.data ∧ OwnR w.heap.size w' r' f'.runs ∧ w.grownBy w' (some g)) ∨
  (∃ e', decF (l.drop k) = .inr e' ∧ (∃ v : Int, e = .panicked [{ v := .iface 32 (.int .i64 v), recovered := false }]) ∧ (∃ at_ : Int, Blk w' g (rdr (.slice a l.length c) at_ e') 105) ∧ w.grownBy w' (some g))
end Go.Proofs.Ytggjeamondampaa
