/- How long a script that came in can be. -/
import Derived.Test.YtielpjdjlmkejaaZV
namespace Go.Proofs.Ytielpjdjlmkejaa
open Go.ChangeShapes Go.WideShapes Go.ChangeAt Go.RowKit
set_option linter.unusedVariables false
set_option maxRecDepth 100000

section
variable {H : Type} {enc : TypeId × Value → H} {w : World} {base : Nat} {spare : Nat → Bool} {held : Bool}
theorem ops_size {a : Option Addr} {len cap fuel : Nat} {x : DataW H × List MemPlace} (hf : DataW.trod enc Try.prog w base spare held fuel 22 [.slice a len cap] = some x) {ts : List TypeId} {ds : List (DataW H)} {j : Nat} (hs : (DataW.weightsEach Try.prog ts ds).all (· ≤ reachBytes) = true) (ht : ts[j]? = some 22) (hd : ds[j]? = some x.1) : len * 8 ≤ 140737488355328 := by
  rcases Go.Deep.open_slice Try.underlying22 hf with ⟨hcs, _⟩ | ⟨ad, l, c, m, n, D, Pl, hcs, _, hl, hm, hmm, rfl, hx⟩
  · simp at hcs
    omega
  · simp at hcs
    obtain ⟨rfl, rfl, rfl⟩ := hcs
    have h := sized_slice hs ht hd Try.underlying22
    have hb : Try.prog.bytesOf 37 = 48 := by kernel_rfl
    rw [hb] at h
    simp only [List.length_map, List.length_range] at h
    unfold reachBytes at h
    omega
end
end Go.Proofs.Ytielpjdjlmkejaa
