/- RunsApart, whole. -/
import Derived.Test.YtebpcgljmcdllaaLA
import Derived.Test.YtebpcgljmcdllaaSG
namespace Go.Proofs.Ytebpcgljmcdllaa
open Go.RowKit
set_option linter.unusedVariables false
set_option maxRecDepth 100000

theorem OpsF.ok {w : World} {a : Option Addr} {len cap : Nat} {K LO HI : Nat → Int} (h : OpsF w a len cap K LO HI) : Ok (runL K LO HI (min len 2000)) := by
  have hgl := runL_good (K := K) (LO := LO) (HI := HI) (min len 2000) fun i hi => by
    rcases h.2.2 with h0 | ⟨b, off, _, hc⟩
    · omega
    · exact ⟨(hc i (by omega)).2.2.2.1, (hc i (by omega)).2.2.2.2.2.2⟩
  exact ⟨hgl.1, by omega⟩

theorem apart_whole (a : Option Addr) (len cap : Nat) (lo hi : Int) (w : World) (hops : IsOps w a len cap) (rlo : -9223372036854775808 ≤ lo ∧ lo ≤ 9223372036854775807) (rhi : -9223372036854775808 ≤ hi ∧ hi ≤ 9223372036854775807) :
    Calls Try.prog 5 #[.slice a len cap, .int .i64 lo, .int .i64 hi] w fun e w' => e = .returned (.bool true) ∧ w.grownBy w' none := by
  obtain ⟨K, LO, HI, hf⟩ := hops.fn
  exact apart_walk a len cap lo hi w rlo rhi (shown_ok w) fun W hW => (set_ok a len cap K LO HI w W hW hf).mono fun e w' ⟨he, hl⟩ => ⟨_, _, he, hl, hf.ok⟩
end Go.Proofs.Ytebpcgljmcdllaa
