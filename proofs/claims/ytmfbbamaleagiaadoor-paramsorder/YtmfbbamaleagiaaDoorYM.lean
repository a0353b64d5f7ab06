/- ParamsOrder: rows of ints. -/
import Derived.Test.YtmfbbamaleagiaaDoorYJ
import Derived.Deep.RegionHeld3
namespace Go.Proofs.YtmfbbamaleagiaaDoor
open Go.RowKit
set_option linter.unusedVariables false
set_option maxRecDepth 100000
set_option maxHeartbeats 2000000

/-- A row of the first n numbers of f. -/
def rowF (f : Nat → Nat) (n : Nat) : List Value := (List.range n).map fun i => Value.int .i64 ((f i : Nat) : Int)
def OwnF (base : Nat) (w : World) (v : Value) (f : Nat → Nat) (n : Nat) : Prop := w.ownsRow base 3 1 v n (rowF f n)
theorem Tryd.infoI : (Tryd.prog.info? 3).map (fun i => (i.zero, i.size, i.bytes)) = some (some (.int .i64 0), 1, 8) := by kernel_rfl
theorem rowF_snoc (f : Nat → Nat) (n : Nat) : rowF f n ++ [.int .i64 ((f n : Nat) : Int)] = rowF f (n + 1) := by simp [rowF, List.range_succ]
theorem rowF_get (f : Nat → Nat) (n i : Nat) (h : i < n) : (rowF f n)[i]? = some (.int .i64 ((f i : Nat) : Int)) := by simp [rowF, h]
theorem rowF_swap (f : Nat → Nat) (i k : Nat) (hi : i < 9) (hk : k < 9) : ((rowF f 9).set i (.int .i64 ((f k : Nat) : Int))).set k (.int .i64 ((f i : Nat) : Int)) = rowF (swapF f i k) 9 := by
  apply List.ext_getElem?
  intro x
  by_cases hx : x < 9
  · rw [rowF_get _ _ _ hx]
    unfold swapF
    by_cases e1 : x = k
    · subst e1; rw [List.getElem?_set_self (by simp [rowF]; omega)]; simp
    · rw [List.getElem?_set_ne (by omega)]
      by_cases e2 : x = i
      · subst e2; rw [List.getElem?_set_self (by simp [rowF]; omega)]; simp [e1]
      · rw [List.getElem?_set_ne (by omega), rowF_get _ _ _ hx]; simp [e1, e2]
  · rw [List.getElem?_eq_none (by simp [rowF]; omega), List.getElem?_eq_none (by simp [rowF]; omega)]

theorem app_int (w0 w : World) (v : Value) (n : Nat) (ho : OwnF w0.heap.size w v (fun x => x) n) (hg : w0.grownBy w none) (hm : n + 1 ≤ 1000) :
    ∃ v' w', (∀ ty, (Builtin.append_ #[48, 48] ty #[v, .slice (some ⟨w.heap.size, 0, none⟩) 1 1]).run Tryd.prog (w.alloc (.cells #[.int .i64 n] 3)) = .ok v' w') ∧ OwnF w0.heap.size w' v' (fun x => x) (n + 1) ∧ w0.grownBy w' none := by
  obtain ⟨inf, hi0, hz0, hz1, hz2⟩ := info_parts Tryd.infoI
  have ga := World.grownBy_alloc w (.cells #[.int .i64 n] 3) none
  have ho1 : (w.alloc (.cells #[.int .i64 n] 3)).ownsRow w0.heap.size 3 1 v n (rowF (fun x => x) n) := World.ownsRow.kept ho ga (by cases v.ownBlock <;> simp)
  have key := fun ty => app_keep (P := Tryd.prog) (w.alloc (.cells #[.int .i64 n] 3)) w0.heap.size 48 ty 3 inf (.int .i64 0) 8 Tryd.underlying48 hi0 hz0 hz1 hz2 rfl v n (rowF (fun x => x) n) ho1 ⟨w.heap.size, 0, none⟩ 1 1 [.int .i64 n] rfl
    (fun j u hu => by
      have hj : j = 0 := by
        rcases j with _ | j
        · rfl
        · simp at hu
      subst hj
      simp at hu
      subst hu
      exact (Blk.new w #[.int .i64 n] 3).cell 0 _ rfl)
    (fun u hu => by simp at hu; subst hu; rfl) (by omega) (by unfold maxLen; omega) (by omega) (Nat.le_trans hg.size ga.size)
  obtain ⟨v', w', hr', ho', hmv, -⟩ := key 0
  refine ⟨v', w', fun ty => ?_, ?_, ?_⟩
  · have : (Builtin.append_ #[48, 48] ty #[v, .slice (some ⟨w.heap.size, 0, none⟩) 1 1]).run Tryd.prog (w.alloc (.cells #[.int .i64 n] 3)) = (Builtin.append_ #[48, 48] 0 #[v, .slice (some ⟨w.heap.size, 0, none⟩) 1 1]).run Tryd.prog (w.alloc (.cells #[.int .i64 n] 3)) := rfl
    rw [this]; exact hr'
  · unfold OwnF; rw [← rowF_snoc]; exact ho'
  · refine bel_grown (hmv.below (grown_bel (hg.trans ga)) (hg.trans ga).size (fun k hk => ?_))
    rcases ho.2 with ⟨h1, -⟩ | ⟨g, cap, cur, e1, hb, -⟩
    · subst h1; cases hk
    · subst e1; simp [Value.ownBlock] at hk; omega

/-- A row of nine, by its block. -/
theorem OwnF.open9 {base : Nat} {w : World} {v : Value} {f : Nat → Nat} (h : OwnF base w v f 9) : ∃ g c, v = .slice (some ⟨g, 0, none⟩) 9 c ∧ base ≤ g ∧ g < w.heap.size ∧ 9 ≤ c ∧ c ≤ maxLen := ownsRow_open h (by decide)
theorem OwnF.cell {base : Nat} {w : World} {g c : Nat} {f : Nat → Nat} (h : OwnF base w (.slice (some ⟨g, 0, none⟩) 9 c) f 9) (i : Nat) (hi : i < 9) : w.cell? ⟨g, i, none⟩ = some (.int .i64 ((f i : Nat) : Int)) := by
  have := World.ownsRow.cells h (g := g) rfl i _ (rowF_get f 9 i hi)
  have hadd : (⟨g, 0, none⟩ : Addr).add i = ⟨g, i, none⟩ := by unfold Addr.add; split <;> simp_all
  rw [hadd] at this
  exact this
theorem OwnF.thaw {base : Nat} {w : World} {g c : Nat} {f : Nat → Nat} (h : OwnF base w (.slice (some ⟨g, 0, none⟩) 9 c) f 9) (i : Nat) : w.frozen? ⟨g, i, none⟩ = false := by
  rcases h.2 with ⟨h1, -⟩ | ⟨g', cap, cur, e1, -, hgg, -⟩
  · cases h1
  · cases e1
    exact (show Blk w g cur 3 from hgg).thaw i

/-- Numbers that came in. -/
def OrdR (w : World) (a : Option Addr) (n : Nat) (zs : List Int) : Prop := ∀ i, i < n → ∃ b o, a = some ⟨b, o, none⟩ ∧ w.cell? ⟨b, o + i, none⟩ = some (.int .i64 (zs.getD i 0)) ∧ -9223372036854775808 ≤ zs.getD i 0 ∧ zs.getD i 0 ≤ 9223372036854775807
theorem OrdR.grown {w W : World} {a : Option Addr} {n : Nat} {zs : List Int} (h : OrdR w a n zs) (g : w.grownBy W none) : OrdR W a n zs := fun i hi => by
  obtain ⟨b, o, h1, h2, h3⟩ := h i hi
  exact ⟨b, o, h1, g.cell h2 (by simp), h3⟩

theorem order_no (p : Ps) (v1 v2 : Value) (t : Int) (w : World) (h : Tb w) (hc : checkF p ≠ 0) :
    Calls Tryd.prog 8 #[.agg p.cs, v1, v2, .int .i64 t] w fun e w' => e = .returned (.bool true) ∧ w.grownBy w' none := by
  have G0 := World.grownBy_alloc w (.cells p.cs 23) none
  have B0 := Blk.new w p.cs 23
  have T0 := h.grown G0
  have aw := fun W (hW : Tb W) => awake_any W hW
  have ck := fun W (hW : Tb W) => check_any p W hW
  have hd : (checkF p != 0) = true := by simpa using hc
  go_enter Tryd.func8, Tryd.ntmps8
  go_wp2_with (first
    | (go_at_call 9; refine (aw _ T0).mono ?_; rintro e W1 ⟨rfl, g1⟩; have B1 := B0.grown g1; have G1 := G0.trans g1; have T1 := T0.grown g1; clear g1 B0 G0 T0 aw)
    | (refine wpList_load_row rfl _ _ rfl w.heap.size rfl 23 p.cs (0, 0) _ B1 Tryd.underlying23 rfl Tryd.sizePs ?_)
    | (go_at_call 11; refine (ck _ T1).mono ?_; rintro e W2 ⟨rfl, g2⟩; have G2 := hide (G1.trans g2); clear g2 B1 G1 T1 ck))
  go_ret
  exact ⟨rfl, unhide G2⟩
end Go.Proofs.YtmfbbamaleagiaaDoor
