/- ParamsOrder: the whole, and what came in. -/
import Derived.Test.YtmfbbamaleagiaaDoorYN
import Derived.Test.YtmfbbamaleagiaaDoorYO
namespace Go.Proofs.YtmfbbamaleagiaaDoor
open Go.ChangeShapes Go.WideShapes Go.ChangeAt Go.RowKit
set_option linter.unusedVariables false
set_option maxRecDepth 100000
set_option maxHeartbeats 1000000

section
variable {H : Type} {enc : TypeId × Value → H} {w : World} {base : Nat} {held : Bool}
theorem open_ints_row {a : Option Addr} {len cap : Nat} {d : DataW H} {ps : List MemPlace} (hd : DataW.Trod enc Tryd.prog w base (fun _ => true) held 48 (.slice a len cap) d ps) : ∃ zs, IsRow .i64 w a len cap zs := by
  obtain ⟨fuel, hf⟩ := hd
  rcases open_ints Tryd.underlying48 Tryd.underlying3 (by kernel_rfl) hf with ⟨hcs, hx⟩ | ⟨x, l, c, zs, hcs, _, hl, hm, hz, hx, hcell, hwz⟩
  · simp [Value.cells] at hcs
    obtain ⟨rfl, rfl, rfl⟩ := hcs
    exact ⟨[], .inl ⟨rfl, rfl, rfl, rfl⟩⟩
  · simp [Value.cells] at hcs
    obtain ⟨rfl, rfl, rfl⟩ := hcs
    exact ⟨zs, .inr ⟨_, rfl, hl, hm, by simpa using hz, hcell, hwz⟩⟩
end
theorem isRow_ord {w : World} {a : Option Addr} {len cap : Nat} {zs : List Int} (h : IsRow .i64 w a len cap zs) : OrdR w a len zs ∧ len ≤ cap ∧ cap ≤ maxLen := by
  rcases h with ⟨rfl, rfl, rfl, rfl⟩ | ⟨x, rfl, hl, hm, hz, hc, hw⟩
  · exact ⟨fun i hi => by omega, Nat.le_refl _, Nat.zero_le _⟩
  · refine ⟨fun i hi => ?_, hl, hm⟩
    obtain ⟨b, off, spot⟩ := x
    have h0 := hc 0 (by omega)
    have hs : spot = none := by simpa [Addr.add] using World.cell?_spot h0
    subst hs
    have h1 := hc i (by omega)
    rw [show (⟨b, off, none⟩ : Addr).add i = ⟨b, off + i, none⟩ by simp [Addr.add]] at h1
    have hmem : zs.getD i 0 ∈ zs := by simp [List.getD, show i < zs.length by omega]
    have hwf := hw _ hmem
    have hb := bounds_i64 hwf
    exact ⟨b, off, rfl, h1, hb⟩

theorem order_walk (p : Ps) (a1 : Option Addr) (n1 c1 : Nat) (zs : List Int) (a2 : Option Addr) (ob : List Int) (n2 c2 : Nat) (t : Int) (w : World) (h : Tb w) (h1 : IsRow .i64 w a1 n1 c1 zs) (hr : Rd w a2 ob) (hn : ob.length = n2) (hc : n2 ≤ c2) (hm : c2 ≤ maxLen) (hs : ob.length ≤ 140737488351232) :
    Calls Tryd.prog 8 #[.agg p.cs, .slice a1 n1 c1, .slice a2 n2 c2, .int .i64 t] w fun e w' => e = .returned (.bool true) ∧ w.grownBy w' none := by
  by_cases hp : checkF p = 0
  · obtain ⟨q1, q2, q3⟩ := isRow_ord h1
    exact order_yes p a1 n1 c1 zs a2 ob n2 c2 t w h hp q2 q3 q1 hr hn hc hm hs
  · exact order_no p _ _ t w h hp
end Go.Proofs.YtmfbbamaleagiaaDoor
