/- Which errors Decode tells; what is told of a frame that was read. -/
import Derived.Test.YtggjeamondampabF1S
import Derived.Test.YtggjeamondampabF1E
namespace Go.Proofs.Ytggjeamondampab
open Go.RowKit
set_option linter.unusedVariables false
set_option maxRecDepth 100000
set_option maxHeartbeats 1000000

def Er (e : Int) : Prop := e = 40 ∨ e = 42
theorem runF_err {hi : Int} {l : List Int} {e : Int} (h : runF hi l = .inr e) : Er e := by
  unfold runF at h
  split at h
  · cases h; exact .inr rfl
  · split at h
    · cases h; exact .inl rfl
    · split at h
      · cases h; exact .inr rfl
      · cases h
theorem moreF_err : ∀ (n : Nat) {lo : Int} {l : List Int} {e : Int}, moreF n lo l = .inr e → Er e := by
  intro n
  induction n with
  | zero => intro lo l e h; cases h
  | succ n ih =>
    intro lo l e h
    simp only [moreF] at h
    split at h
    · cases h; exact .inl rfl
    · split at h
      · rename_i hr; cases h; exact runF_err hr
      · split at h
        · rename_i hr; cases h; exact ih hr
        · cases h
theorem runsF_err {hi : Int} {l : List Int} {e : Int} (h : runsF hi l = .inr e) : Er e := by
  unfold runsF at h
  split at h
  · cases h; exact .inl rfl
  · split at h
    · rename_i hr; cases h; exact runF_err hr
    · split at h
      · rename_i hr; cases h; exact moreF_err _ hr
      · cases h
theorem bytesF_err {off n : Int} {l : List Int} {e : Int} (h : bytesF off n l = .inr e) : Er e := by
  unfold bytesF at h
  split at h
  · cases h; exact .inr rfl
  · split at h
    · cases h; exact .inl rfl
    · cases h
theorem readP_err {p : Nat} {g : Fr} {l : List Int} {e : Int} (h : readP p g l = .inr e) : Er e := by
  unfold readP at h
  split at h
  · cases h
  split at h
  · cases h
  split at h
  · split at h
    · cases h; exact .inl rfl
    · cases h
  split at h
  · split at h
    · rename_i hr; cases h; exact runsF_err hr
    · cases h
  split at h
  · split at h
    · cases h; exact .inl rfl
    · split at h
      · cases h; exact .inl rfl
      · split at h
        · cases h; exact .inl rfl
        · cases h
  split at h
  · split at h
    · cases h; exact .inl rfl
    · split at h
      · rename_i hr; cases h; exact bytesF_err hr
      · cases h
  split at h
  · split at h
    · rename_i hr; cases h; exact bytesF_err hr
    · cases h
  split at h
  · split at h
    · rename_i hr; cases h; exact bytesF_err hr
    · cases h
  · split at h
    · cases h; exact .inl rfl
    · split at h
      · cases h; exact .inr rfl
      · cases h
theorem bind_err {x : (Fr × List Int) ⊕ Int} {k : Fr → List Int → (Fr × List Int) ⊕ Int} {e : Int} (hx : ∀ e, x = .inr e → Er e) (hk : ∀ f l e, k f l = .inr e → Er e) (h : bind' x k = .inr e) : Er e := by
  unfold bind' at h
  split at h
  · cases h; exact hx _ rfl
  · exact hk _ _ _ h
theorem decF_err {l : List Int} {e : Int} (h : decF l = .inr e) : e = 40 ∨ e = 41 ∨ e = 42 := by
  unfold decF at h
  split at h
  · cases h; exact .inl rfl
  · split at h
    · cases h; exact .inr (.inl rfl)
    · split at h
      · cases h; exact .inr (.inl rfl)
      · have : Er e := by
          unfold readPs at h
          exact bind_err (fun e he => readP_err he) (fun f l e he => bind_err (fun e he => readP_err he) (fun f l e he => bind_err (fun e he => readP_err he) (fun f l e he => readP_err he) he) he) h
        unfold Er at this
        omega

theorem tell_runs {f : Fr} {n rs : List Int} (h : tellF f = .inl (n, rs)) : (∀ s ∈ f.runs, -9223372036854775808 ≤ s.1 ∧ s.1 ≤ 9223372036854775807) ∧ (-9223372036854775808 ≤ f.kind ∧ f.kind ≤ 9223372036854775807) := by
  unfold tellF at h
  by_cases hk : isKindF f.kind = true
  · obtain ⟨bare, l, hs⟩ := type_some hk
    rw [if_pos hk, hs] at h
    simp only at h
    by_cases hm : mayF f bare l = true
    · refine ⟨fun s hs' => ?_, by have := kind_dom hk; omega⟩
      by_cases h9 : l.1 ≠ 9 ∧ l.2.1 ≠ 9 ∧ l.2.2.1 ≠ 9 ∧ l.2.2.2 ≠ 9
      · rw [may_runs hm h9] at hs'; cases hs'
      · have e9 : l.2.2.1 = 9 := by
          rcases shape_parts hs with e | e | e | e | e | e | e | e | e | e | e | e | e | e | e | e | e <;> (rw [e] at h9 ⊢ <;> (revert h9; decide))
        obtain ⟨⟨-, -, q3, -⟩, -⟩ := may_fields hm
        rw [e9] at q3
        have := (are_mem q3).2 s hs'
        unfold MAXN at this
        omega
    · rw [if_neg hm] at h; cases h
  · rw [if_neg hk] at h; cases h

/-- A frame that Decode made, as Encode takes it. -/
theorem own_in {base : Nat} {W : World} {f : Fr} {d r : Value} (h : OwnB base W d f.data) (hr : OwnR base W r f.runs) (hb : ∀ x ∈ f.data, IsB x) (h64 : ∀ s ∈ f.runs, -9223372036854775808 ≤ s.1 ∧ s.1 ≤ 9223372036854775807) : FrIn W f d r ∧ TS W d f.data := by
  obtain ⟨a, c, e, h1, h2, h3⟩ := h.rd hb
  exact ⟨⟨⟨a, c, e, h2, h3⟩, hr.rd, h64⟩, ⟨a, c, e, h1, h2, h3⟩⟩
theorem OwnR.keepN {base : Nat} {w w' : World} {v : Value} {T : List (Int × Int)} (h : OwnR base w v T) (g : w.grownBy w' none) : OwnR base w' v T := World.ownsRow.kept h g (by cases v.ownBlock <;> simp)

/-- Decode, its frame folded. -/
def DecFold (w : World) (l : List Int) (k : Nat) (e : Ending) (w' : World) : Prop :=
  (∃ (C : Array Value) (m : Nat), e = .returned (.tuple #[.agg C, .int .i64 (m : Int), .int .i64 0]) ∧ C.size = 17 ∧ C.all (·.oneCell') = true ∧ w.grownBy w' none ∧ Hid (∃ f' l1 d' r', decF (l.drop k) = .inl (f', l1) ∧ m = l.length - l1.length ∧ C = f'.cs d' r' ∧ OwnB w.heap.size w' d' f'.data ∧ OwnR w.heap.size w' r' f'.runs)) ∨
  (∃ e', decF (l.drop k) = .inr e' ∧ e = .returned (.tuple #[Fr.zero.val nilS nilS, .int .i64 0, .int .i64 e']) ∧ w.grownBy w' none)
theorem decode_folded {w : World} {v : Value} {l : List Int} {k : Nat} (h : InS w v l) (hk : k ≤ l.length) (hl : l.length ≤ 4000000000000) :
    Calls Try.prog 11 #[v, .int .i64 (k : Int)] w (DecFold w l k) := by
  refine (decode_in h hk hl).mono ?_
  rintro e w' (⟨f', l1, d', r', h1, rfl, o1, o2, g⟩ | ⟨e', h1, rfl, g⟩)
  · refine .inl ⟨_, _, rfl, rfl, ?_, g, f', l1, d', r', h1, rfl, rfl, o1, o2⟩
    apply one17
    · obtain ⟨a, c, e⟩ := o1.shape; rw [e]; rfl
    · obtain ⟨a, c, e, -⟩ := o2.rd; rw [e]; rfl
  · exact .inr ⟨e', h1, rfl, g⟩
end Go.Proofs.Ytggjeamondampab
