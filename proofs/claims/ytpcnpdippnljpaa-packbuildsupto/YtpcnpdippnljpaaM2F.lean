/- NPf, FKf, FLf, FWf, FX1f, FX2f, FX3f, FMf, FX4f, FX5f, FX6f, one text. -/
import Derived.Test.YtpcnpdippnljpaaNAf
import Derived.Test.YtpcnpdippnljpaaFJf
import Derived.Deep.QuietTactic
import Derived.Deep.RegionHeldLaw
import Derived.Test.YtpcnpdippnljpaaFNf
import Derived.Laws.AppendOwn
import Derived.OwnWalk
import Derived.Test.YtpcnpdippnljpaaFSf
import Derived.Deep.RegionHeld3
import Derived.BigQuiet
import Derived.Test.YtpcnpdippnljpaaFTf
import Derived.Test.YtpcnpdippnljpaaFGf
namespace Go.Proofs.Ytpcnpdippnljpaa.Kf
open Go.RowKit
set_option linter.unusedVariables false
set_option maxRecDepth 100000

/-- Where the value lies now: in the row that it had; or in a new one. -/
def Moved (w w' : World) (v v' : Value) : Prop := (v'.ownBlock = v.ownBlock ∧ w.grownBy w' v.ownBlock) ∨ (v'.ownBlock = some w.heap.size ∧ w.grownBy w' none ∧ w.heap.size < w'.heap.size)

section
variable {P : Program}
theorem grown_drew_alloc (w : World) (o : Obj) : w.grownBy (w.drew.alloc o) none ∧ w.heap.size < (w.drew.alloc o).heap.size :=
  ⟨⟨rfl, rfl, rfl, by simp, fun k hk _ => by have := World.grownBy_alloc w.drew o none; exact this.block k hk (by simp)⟩, by simp⟩

theorem app_keep (w : World) (base : Nat) (t ty e : TypeId) (i : TypeInfo) (z : Value) (bytes : Nat) (ht : P.underlying t = some (.slice e)) (hi : P.info? e = some i) (hz : i.zero = some z)
    (hsize : i.size = 1) (hby : i.bytes = bytes) (hzs : z.cells.size = 1)
    (v : Value) (n : Nat) (xs : List Value) (hown : w.ownsRow base e 1 v n xs)
    (a : Addr) (m c : Nat) (news : List Value) (hl : news.length = m) (hnews : ∀ j u, news[j]? = some u → w.cell? (a.add j) = some u) (h1 : ∀ u ∈ news, u.oneCell' = true)
    (hm : 0 < m) (h63 : n + m ≤ maxLen) (hbytes : (n + m) * bytes ≤ 140737488355328) (hbase : base ≤ w.heap.size) :
    ∃ v' w', (Builtin.append_ #[t, t] ty #[v, .slice (some a) m c]).run P w = .ok v' w' ∧ w'.ownsRow base e 1 v' (n + m) (xs ++ news) ∧ Moved w w' v v' ∧ v' ≠ .slice none 0 0 := by
  obtain ⟨v', w', hr, ho, hg, hnil⟩ := run_append_own (P := P) w base t ty e i z 1 bytes ht hi hz hsize hby hzs (by decide) v n xs hown a m c news (by omega) hnews h1 h63 hbytes hbase
  refine ⟨v', w', hr, ho, ?_, fun h => by have := (hnil.1 h).2; omega⟩
  have h63' : n + m ≤ 9223372036854775807 := by simp only [maxLen] at h63; omega
  rcases hown.2 with ⟨rfl, rfl⟩ | ⟨g, cap, cur, rfl, hbg, hgg, hnc, hcm, hcs, htake⟩
  · have := run_append_nil (P := P) w t ty e i z ht hi hz a m c news (by rw [hsize]; omega) hnews hm (by omega) (by rw [hby]; simp only [Nat.zero_add] at hbytes; omega)
    rw [this] at hr
    injection hr with e1 e2
    subst e1 e2
    exact .inr ⟨rfl, grown_drew_alloc w _⟩
  · by_cases hroom : n + m ≤ cap
    · have := run_append_room (P := P) w t ty e i ht hi g n cap cur hgg a m c news (by rw [hsize]; omega) hnews h1 hroom (by rw [hsize, hcs]; omega)
      rw [this] at hr
      injection hr with e1 e2
      subst e1
      exact .inl ⟨rfl, hg⟩
    · have := run_append_grow (P := P) w t ty e i z ht hi hz ⟨g, 0, none⟩ n cap xs (by rw [hsize]; exact hown.1) (hown.cells (g := g) rfl) a m c news (by rw [hsize]; omega) hnews (by omega) (by omega) (growslice_fits (by omega) (by rw [hby]; exact hbytes))
      rw [this] at hr
      injection hr with e1 e2
      subst e1 e2
      exact .inr ⟨rfl, grown_drew_alloc w _⟩

theorem wpList_app {ops : Array Oper} {rest : List Oper} {o : Oper} {a : Act} {Q : Exit → Act → World → Prop} (w : World) (hgd : o.guard = none) (s x : Operand) (t : TypeId)
    (ho : o.op = .call { callee := .builtin .append, args := #[s, x], argTypes := #[t, t] })
    (base : Nat) (e : TypeId) (i : TypeInfo) (z : Value) (bytes : Nat) (ht : P.underlying t = some (.slice e)) (hi : P.info? e = some i) (hz : i.zero = some z)
    (hsize : i.size = 1) (hby : i.bytes = bytes) (hzs : z.cells.size = 1)
    (v : Value) (n : Nat) (xs : List Value) (hs : a.eval s = v) (hown : w.ownsRow base e 1 v n xs)
    (ad : Addr) (m c : Nat) (news : List Value) (hx : a.eval x = .slice (some ad) m c) (hl : news.length = m) (hnews : ∀ j u, news[j]? = some u → w.cell? (ad.add j) = some u) (h1 : ∀ u ∈ news, u.oneCell' = true)
    (hm : 0 < m) (h63 : n + m ≤ maxLen) (hbytes : (n + m) * bytes ≤ 140737488355328) (hbase : base ≤ w.heap.size)
    (h : ∀ v' w', w'.ownsRow base e 1 v' (n + m) (xs ++ news) → Moved w w' v v' → v' ≠ .slice none 0 0 → wpList P ops Q rest (a.put o.dst v') w') : wpList P ops Q (o :: rest) a w := by
  refine wpList_plain hgd fun K hK => ?_
  obtain ⟨v', w', hr, h2, h3, h4⟩ := app_keep (P := P) w base t o.type e i z bytes ht hi hz hsize hby hzs v n xs hown ad m c news hl hnews h1 hm h63 hbytes hbase
  unfold Oper.wp execOp
  simp only [ho, resolve, invoke, builtin, Sem.run_bind, Sem.run_pure, Result.andThen_ok, List.map_toArray, List.map_cons, List.map_nil, hs, hx, hr]
  exact hK _ _ (h v' w' h2 h3 h4)
end

/-- One byte more: it lies in a block of its own, the last one. -/
theorem wpList_app1 {ops : Array Oper} {rest : List Oper} {o : Oper} {a : Act} {Q : Exit → Act → World → Prop} (w : World) (hgd : o.guard = none) (s x : Operand)
    (ho : o.op = .call { callee := .builtin .append, args := #[s, x], argTypes := #[27, 27] }) (base : Nat) (v : Value) (n : Nat) (xs : List Value) (hown : w.ownsRow base 5 1 v n xs) (hs : a.eval s = v) (b : Value) (hb : b.oneCell' = true)
    (hx : a.eval x = .slice (some ⟨w.heap.size, 0, none⟩) 1 1) (hn : n + 1 ≤ 140737488355328) (hbase : base ≤ w.heap.size)
    (h : ∀ v' w', w'.ownsRow base 5 1 v' (n + 1) (xs ++ [b]) → Moved (w.alloc (.cells #[b] 5)) w' v v' → v' ≠ .slice none 0 0 → wpList Try.prog ops Q rest (a.put o.dst v') w') : wpList Try.prog ops Q (o :: rest) a (w.alloc (.cells #[b] 5)) := by
  obtain ⟨i, hi, hz0, hz1, hz2⟩ := info_parts Try.info5
  refine wpList_app _ hgd s x 27 ho base 5 i (.int .u8 0) 1 Try.underlying27 hi hz0 hz1 hz2 rfl v n xs hs (hown.alloc _) ⟨w.heap.size, 0, none⟩ 1 1 [b] hx rfl ?_ ?_ (by decide) (by unfold maxLen; omega) (by omega) (by simp; omega) h
  · intro j u hj
    match j, hj with
    | 0, hj =>
      simp at hj; subst hj
      rw [show (⟨w.heap.size, 0, none⟩ : Addr).add 0 = ⟨w.heap.size, 0, none⟩ by simp [Addr.add]]
      unfold World.cell?
      simp only [heap_alloc_new]
      rfl
  · intro u hu
    simp at hu; subst hu; exact hb

/-- The same, the block's number spelt otherwise. -/
theorem wpList_app1g {ops : Array Oper} {rest : List Oper} {o : Oper} {a : Act} {Q : Exit → Act → World → Prop} (w : World) (hgd : o.guard = none) (s x : Operand)
    (ho : o.op = .call { callee := .builtin .append, args := #[s, x], argTypes := #[27, 27] }) (base : Nat) (v : Value) (n : Nat) (xs : List Value) (hown : w.ownsRow base 5 1 v n xs) (hs : a.eval s = v) (b : Value) (hb : b.oneCell' = true)
    (gs : Nat) (hx : a.eval x = .slice (some ⟨gs, 0, none⟩) 1 1) (hgs : w.heap.size = gs) (hn : n + 1 ≤ 140737488355328) (hbase : base ≤ w.heap.size)
    (h : ∀ v' w', w'.ownsRow base 5 1 v' (n + 1) (xs ++ [b]) → Moved (w.alloc (.cells #[b] 5)) w' v v' → v' ≠ .slice none 0 0 → wpList Try.prog ops Q rest (a.put o.dst v') w') : wpList Try.prog ops Q (o :: rest) a (w.alloc (.cells #[b] 5)) := by
  subst hgs
  exact wpList_app1 w hgd s x ho base v n xs hown hs b hb hx hn hbase h

theorem Moved.below {B : Nat} {w w' a : World} {v v' : Value} (h : Moved w w' v v') (hb : Below B a w) (hB : B ≤ w.heap.size) (hv : ∀ k, v.ownBlock = some k → B ≤ k) : Below B a w' := by
  rcases h with ⟨_, h⟩ | ⟨_, h, _⟩
  · exact hb.grown h hB hv
  · exact hb.grown h hB (fun k hk => by cases hk)
end Go.Proofs.Ytpcnpdippnljpaa.Kf

namespace Go.Proofs.Ytpcnpdippnljpaa.Kf
open Go.RowKit
set_option linter.unusedVariables false
set_option maxRecDepth 100000
set_option maxHeartbeats 1000000

theorem zrs_spec (m : Nat) (l : List Int) : zrs m l ≤ m ∧ zrs m l ≤ l.length ∧ (∀ i, i < zrs m l → l.getD i 0 = 0) ∧ (zrs m l = m ∨ zrs m l = l.length ∨ ¬ l.getD (zrs m l) 0 = 0) := by
  induction m generalizing l with
  | zero => exact ⟨Nat.le_refl _, Nat.zero_le _, fun i hi => by simp [zrs] at hi, .inl rfl⟩
  | succ m ih =>
    cases l with
    | nil => exact ⟨by simp [zrs], by simp [zrs], fun i hi => by simp [zrs] at hi, .inr (.inl (by simp [zrs]))⟩
    | cons x l =>
      obtain ⟨a1, a2, a3, a4⟩ := ih l
      by_cases hx : x = 0
      · have e : zrs (m + 1) (x :: l) = zrs m l + 1 := by simp only [zrs]; rw [if_pos hx]
        rw [e]
        refine ⟨by omega, by simp; omega, fun i hi => ?_, ?_⟩
        · cases i with
          | zero => simpa using hx
          | succ i => simpa using a3 i (by omega)
        · rcases a4 with h | h | h
          · exact .inl (by omega)
          · exact .inr (.inl (by simp; omega))
          · exact .inr (.inr (by simpa using h))
      · have e : zrs (m + 1) (x :: l) = 0 := by simp only [zrs]; rw [if_neg hx]
        rw [e]
        exact ⟨Nat.zero_le _, Nat.zero_le _, fun i hi => by omega, .inr (.inr (by simpa using hx))⟩

theorem grown_drewS {w W : World} {r : Option Nat} (g : w.grownBy W r) (q : Nat) : w.grownBy (W.drewN q) r := ⟨g.os, g.tape, g.output, g.size, g.block⟩

end Go.Proofs.Ytpcnpdippnljpaa.Kf

namespace Go.Proofs.Ytpcnpdippnljpaa.Kf
open Go.RowKit
set_option linter.unusedVariables false
set_option maxRecDepth 100000
set_option maxHeartbeats 1000000

theorem step_append_run {P : Program} {ops : Array Oper} {o : Oper} {a : Act} {w : World} {K : Act → World → Prop} {Q : Exit → Act → World → Prop} {E : Prop}
    (hg : o.guard = none) (d x : Operand) (dT sT : TypeId) (hop : o.op = Op.call { callee := Callee.builtin Builtin.append, args := #[d, x], argTypes := #[dT, sT] })
    (v u : Value) (hd : a.eval d = v) (hx : a.eval x = u) {v' : Value} {w' : World} (hr : (Builtin.append_ #[dT, sT] o.type #[v, u]).run P w = .ok v' w') (hK : K (a.put o.dst v') w') :
    if Region.wanted o (yielded ops a.tmps) = true then Oper.wp P o a w K Q else E := by
  have hw : Region.wanted o (yielded ops a.tmps) = true := by simp [Region.wanted, hg]
  rw [if_pos hw]
  unfold Oper.wp
  simp [execOp, hop, resolve, invoke, builtin, hd, hx, hr, Result.andThen]
  exact hK

/-- New bytes in memory, made since so many blocks were there. -/
def OwnB (base : Nat) (w : World) (v : Value) (d : List Int) : Prop := w.ownsRow base 5 1 v d.length (d.map (Value.int .u8))

theorem OwnB.mono {base base' : Nat} {w : World} {v : Value} {d : List Int} (h : OwnB base w v d) (hb : base' ≤ base) : OwnB base' w v d := by
  obtain ⟨h1, h2⟩ := h
  refine ⟨h1, ?_⟩
  rcases h2 with h2 | ⟨g, cap, cur, e1, e2, e3⟩
  · exact .inl h2
  · exact .inr ⟨g, cap, cur, e1, Nat.le_trans hb e2, e3⟩

theorem OwnB.shape {base : Nat} {w : World} {v : Value} {d : List Int} (h : OwnB base w v d) : ∃ a c, v = .slice a d.length c := by
  rcases h.2 with ⟨h1, h2⟩ | ⟨g, cap, cur, e1, -⟩
  · exact ⟨none, 0, by rw [h1, h2]⟩
  · exact ⟨_, _, e1⟩

theorem app_none (w : World) (a : Option Addr) (c : Nat) (ty : TypeId) : (Builtin.append_ #[27, 27] ty #[.slice none 0 0, .slice a 0 c]).run Try.prog w = .ok (.slice none 0 0) w := by
  obtain ⟨inf, hi0, hz0, hz1, hz2⟩ := info_parts Try.info5
  cases a <;> simp [Builtin.append_, run_underlying Try.underlying27, sizeOf, typeInfo, hi0, Builtin.lenOf, Builtin.firstCells, loadCells, loadCellsFrom]

theorem app_bytes (w : World) (b off m c : Nat) (d : List Int) (hd : d.length = m) (hm : 0 < m) (hb : m ≤ 140737488355328) (hc : ∀ i, i < m → w.cell? ⟨b, off + i, none⟩ = some (.int .u8 (d.getD i 0))) :
    ∃ v' w', (∀ ty, (Builtin.append_ #[27, 27] ty #[.slice none 0 0, .slice (some ⟨b, off, none⟩) m c]).run Try.prog w = .ok v' w') ∧ OwnB w.heap.size w' v' d ∧ w.grownBy w' none := by
  obtain ⟨inf, hi0, hz0, hz1, hz2⟩ := info_parts Try.info5
  have key := fun ty => app_keep (P := Try.prog) w w.heap.size 27 ty 5 inf (.int .u8 0) 1 Try.underlying27 hi0 hz0 hz1 hz2 rfl (.slice none 0 0) 0 [] (World.ownsRow_nil _ _ _ _) ⟨b, off, none⟩ m c (d.map (Value.int .u8)) (by simp [hd])
    (fun j u hu => by
      have hj : j < d.length := by
        by_cases c : j < d.length
        · exact c
        · simp [c] at hu
      have := hc j (by omega)
      simp [hj] at hu
      have hadd : (⟨b, off, none⟩ : Addr).add j = ⟨b, off + j, none⟩ := by simp [Addr.add]
      rw [hadd, this, ← hu]
      simp [List.getD, hj])
    (fun u hu => by simp at hu; obtain ⟨x, -, rfl⟩ := hu; rfl) hm (by unfold maxLen; omega) (by omega) (Nat.le_refl _)
  obtain ⟨v', w', hr, ho, hmv, -⟩ := key 0
  refine ⟨v', w', fun ty => ?_, ?_, ?_⟩
  · obtain ⟨v2, w2, hr2, -, -, -⟩ := key ty
    have : (Builtin.append_ #[27, 27] ty #[.slice none 0 0, .slice (some ⟨b, off, none⟩) m c]).run Try.prog w = (Builtin.append_ #[27, 27] 0 #[.slice none 0 0, .slice (some ⟨b, off, none⟩) m c]).run Try.prog w := rfl
    rw [this]; exact hr
  · unfold OwnB; simpa [hd] using ho
  · rcases hmv with ⟨-, h⟩ | ⟨-, h, -⟩
    · exact h
    · exact h

end Go.Proofs.Ytpcnpdippnljpaa.Kf

namespace Go.Proofs.Ytpcnpdippnljpaa.Kf
open Go.RowKit
set_option linter.unusedVariables false
set_option maxRecDepth 100000
set_option maxHeartbeats 2000000

def clR (L : List (Int × Int)) : List Value := L.flatMap fun s => [.int .i64 s.1, .int .i64 s.2]
/-- New runs in memory. -/
def OwnR (base : Nat) (w : World) (v : Value) (L : List (Int × Int)) : Prop := w.ownsRow base 118 2 v L.length (clR L)

def glueM (T : List (Int × Int)) : (List (Int × Int) × List Int) ⊕ Int → (List (Int × Int) × List Int) ⊕ Int
  | .inr e => .inr e
  | .inl (rs, l) => .inl (T ++ rs, l)

theorem glue_glue (A B : List (Int × Int)) (x : (List (Int × Int) × List Int) ⊕ Int) : glueM A (glueM B x) = glueM (A ++ B) x := by
  rcases x with ⟨rs, l⟩ | e
  · simp [glueM]
  · rfl
theorem more_none {n : Nat} {lo : Int} {l : List Int} (h : numF l = none) : moreF (n + 1) lo l = .inr 40 := by
  simp only [moreF]; rw [h]
theorem more_bad {n : Nat} {lo gap e : Int} {l l1 : List Int} (h : numF l = some (gap, l1)) (h2 : runF (lo - gap - 2) l1 = .inr e) : moreF (n + 1) lo l = .inr e := by
  simp only [moreF]; rw [h]; simp only; rw [h2]
theorem more_ok {n : Nat} {lo gap : Int} {l l1 l2 : List Int} {r : Int × Int} (h : numF l = some (gap, l1)) (h2 : runF (lo - gap - 2) l1 = .inl (r, l2)) : moreF (n + 1) lo l = glueM [r] (moreF n r.1 l2) := by
  simp only [moreF]; rw [h]; simp only; rw [h2]; simp only
  cases moreF n r.1 l2 with
  | inl q => obtain ⟨rs, l3⟩ := q; rfl
  | inr e => rfl
theorem runs_ok {hi n : Int} {l l1 l2 : List Int} {r : Int × Int} (h : numF l = some (n, l1)) (h2 : runF hi l1 = .inl (r, l2)) : runsF hi l = glueM [r] (moreF n.toNat r.1 l2) := by
  unfold runsF; rw [h]; simp only; rw [h2]; simp only
  cases moreF n.toNat r.1 l2 with
  | inl q => obtain ⟨rs, l3⟩ := q; rfl
  | inr e => rfl
theorem runs_none {hi : Int} {l : List Int} (h : numF l = none) : runsF hi l = .inr 40 := by unfold runsF; rw [h]
theorem runs_bad {hi n e : Int} {l l1 : List Int} (h : numF l = some (n, l1)) (h2 : runF hi l1 = .inr e) : runsF hi l = .inr e := by
  unfold runsF; rw [h]; simp only; rw [h2]

theorem wpList_append_run {P : Program} (w : World) {ops : Array Oper} {rest : List Oper} {o : Oper} {a : Act} {Q : Exit → Act → World → Prop} (hgd : o.guard = none) (d s : Operand) (t t' : TypeId)
    (ho : o.op = .call { callee := .builtin .append, args := #[d, s], argTypes := #[t, t'] }) (v u : Value) (hd : a.eval d = v) (hs : a.eval s = u) {v' : Value} {w' : World}
    (hr : (Builtin.append_ #[t, t'] o.type #[v, u]).run P w = .ok v' w') (h : wpList P ops Q rest (a.put o.dst v') w') : wpList P ops Q (o :: rest) a w :=
  wpList_plain hgd fun K hK => by
    unfold Oper.wp execOp
    simp only [ho, resolve, invoke, builtin, Sem.run_bind, Sem.run_pure, Result.andThen_ok, List.map_toArray, List.map_cons, List.map_nil, hd, hs, hr]
    exact hK _ _ h

theorem grown_new {w W W' : World} {g h : Nat} (a : w.grownBy W (some g)) (b : W.grownBy W' (some h)) (hh : w.heap.size ≤ h) : w.grownBy W' (some g) :=
  ⟨b.os.trans a.os, b.tape.trans a.tape, b.output.trans a.output, Nat.le_trans a.size b.size, fun i hi hn => (b.block i (Nat.lt_of_lt_of_le hi a.size) (by simp; omega)).trans (a.block i hi hn)⟩

theorem numF_len {l l1 : List Int} {v : Int} (h : numF l = some (v, l1)) : l1.length < l.length := by
  cases l with
  | nil => simp [numF] at h
  | cons x r =>
    rw [numF_cons] at h
    split at h
    · simp at h
    · simp only [Option.some.injEq, Prod.mk.injEq] at h
      rw [← h.2]; simp; omega

theorem OwnR.first (w : World) (base : Nat) (lo hi : Int) (hb : base ≤ w.heap.size) : OwnR base (w.alloc (.cells #[.int .i64 lo, .int .i64 hi] 118)) (.slice (some ⟨w.heap.size, 0, none⟩) 1 1) [(lo, hi)] :=
  ⟨rfl, .inr ⟨w.heap.size, 1, _, rfl, hb, heap_alloc_last w _, Nat.le_refl _, by unfold maxLen; omega, rfl, rfl⟩⟩

theorem clR_length (L : List (Int × Int)) : (clR L).length = L.length * 2 := by
  induction L with
  | nil => rfl
  | cons s L ih => simp [clR] at ih ⊢; omega

theorem OwnR.last {w : World} {base h cp m : Nat} {T : List (Int × Int)} {x z : Int} (o : OwnR base w (.slice (some ⟨h, 0, none⟩) (m + 1) cp) (T ++ [(x, z)])) (hm : T.length = m) : w.cell? ⟨h, m * 2, none⟩ = some (.int .i64 x) ∧ base ≤ h ∧ h < w.heap.size := by
  rcases o.2 with ⟨e, -⟩ | ⟨g, cap, cur, e, hb, hg, hn, hc, hs, ht⟩
  · simp at e
  · simp only [Value.slice.injEq, Option.some.injEq, Addr.mk.injEq, and_true] at e
    obtain ⟨rfl, -, rfl⟩ := e
    have hlt : h < w.heap.size := by
      by_cases c : h < w.heap.size
      · exact c
      · have : w.heap[h]? = none := by simp; omega
        rw [this] at hg; simp at hg
    refine ⟨?_, hb, hlt⟩
    rw [cell_of_row _ _ _ cur _ (0, 0) hg]
    have e1 : (clR (T ++ [(x, z)]))[m * 2]? = some (.int .i64 x) := by
      have : clR (T ++ [(x, z)]) = clR T ++ [.int .i64 x, .int .i64 z] := by simp [clR]
      rw [this, List.getElem?_append_right (by rw [clR_length]; omega), clR_length, hm, Nat.sub_self]; rfl
    rw [← ht] at e1
    rw [List.getElem?_take] at e1
    split at e1
    · simpa using e1
    · simp at e1

theorem addr_add (b i : Nat) : (⟨b, 0, none⟩ : Addr).add i = ⟨b, i, none⟩ := by unfold Addr.add; split <;> simp_all

theorem Try.info57 : (Try.prog.info? 118).map (fun i => (i.zero, i.size, i.bytes)) = some (some (.agg #[.int .i64 0, .int .i64 0]), 2, 16) := by kernel_rfl

end Go.Proofs.Ytpcnpdippnljpaa.Kf

namespace Go.Proofs.Ytpcnpdippnljpaa.Kf
open Go.RowKit
set_option linter.unusedVariables false
set_option maxRecDepth 100000
set_option maxHeartbeats 4000000

def OwnI (base : Nat) (w : World) (v : Value) (T : List Int) : Prop := w.ownsRow base 2 1 v T.length (T.map (Value.int .i64))
theorem OwnI.at {base : Nat} {w : World} {v : Value} {T : List Int} (h : OwnI base w v T) : ∃ a c, v = .slice a T.length c ∧ T.length ≤ c ∧ c ≤ 9223372036854775807 ∧ RdI w a T := by
  rcases h.2 with ⟨e1, e2⟩ | ⟨g, c', cur, e1, q1, q2, q3, q4, q5, q6⟩
  · exact ⟨none, 0, by rw [e1, e2], by omega, by omega, fun hne => absurd (List.length_eq_zero_iff.1 e2) hne⟩
  · unfold maxLen at q4
    refine ⟨_, c', e1, q3, by omega, fun _ => ⟨g, 0, rfl, fun j hj => ?_⟩⟩
    rw [Nat.zero_add]
    unfold World.cell?
    rw [q2]
    have h1 : (cur.toList.take (T.length * 1))[j]? = (T.map (Value.int .i64))[j]? := by rw [q6]
    rw [List.getElem?_take, if_pos (by omega), Array.getElem?_toList] at h1
    simp only
    rw [h1]
    simp [List.getD, hj]
theorem OwnI.keep {base : Nat} {w w' : World} {v : Value} {T : List Int} (h : OwnI base w v T) (g : w.grownBy w' none) : OwnI base w' v T := by
  refine ⟨h.1, ?_⟩
  rcases h.2 with h2 | ⟨b, c, cur, e1, q1, q2, q3⟩
  · exact .inl h2
  · exact .inr ⟨b, c, cur, e1, q1, (g.block b (Array.getElem?_eq_some_iff.1 q2).1 (by simp)).trans q2, q3⟩
theorem OwnI.own {base : Nat} {w : World} {v : Value} {T : List Int} (h : OwnI base w v T) : ∀ k, v.ownBlock = some k → base ≤ k := fun k hk => by
  rcases h.2 with ⟨rfl, -⟩ | ⟨b, c, cur, rfl, q1, -⟩
  · cases hk
  · injection hk with hk; exact hk ▸ q1
theorem Try.infoE2 : (Try.prog.info? 2).map (fun i => (i.zero, i.size, i.bytes)) = some (some (.int .i64 0), 1, 8) := by kernel_rfl
theorem grown_own {w w1 w' : World} {r : Option Nat} (hg : w.grownBy w1 none) (h : w1.grownBy w' r) (hr : ∀ k, r = some k → w.heap.size ≤ k) : w.grownBy w' none :=
  ⟨h.os.trans hg.os, h.tape.trans hg.tape, h.output.trans hg.output, Nat.le_trans hg.size h.size, fun k hk _ => by
    rw [h.block k (Nat.lt_of_lt_of_le hk hg.size) (fun e => by have := hr k e.symm; omega)]
    exact hg.block k hk (by simp)⟩

/-- Blocks that hold no plain numbers are kept. -/
def KO (W W' : World) : Prop := ∀ (g : Nat) (cs : Array Value) (t : TypeId), t ≠ 2 → W.heap[g]? = some (Obj.cells cs t (0, 0)) → W'.heap[g]? = some (Obj.cells cs t (0, 0))
theorem KO.refl (W : World) : KO W W := fun _ _ _ _ h => h
theorem KO.trans {A B C : World} (h : KO A B) (k : KO B C) : KO A C := fun g cs t ht hg => k g cs t ht (h g cs t ht hg)
theorem KO.grown {A B : World} (h : A.grownBy B none) : KO A B := fun g cs t _ hg => (h.block g (Array.getElem?_eq_some_iff.1 hg).1 (by simp)).trans hg
theorem OwnI.ko {base : Nat} {W W' : World} {v : Value} {T : List Int} (h : OwnI base W v T) (g : W.grownBy W' v.ownBlock) : KO W W' := fun k cs t ht hk => by
  refine (g.block k (Array.getElem?_eq_some_iff.1 hk).1 (fun e => ?_)).trans hk
  rcases h.2 with ⟨rfl, -⟩ | ⟨b, c, cur, rfl, q1, q2, -⟩
  · cases e
  · injection e with e
    rw [e, q2] at hk
    injection hk with hk
    injection hk with _ h2
    exact ht h2.symm

/-- More numbers, from wherever they lie. -/
theorem app_ints {w0 W : World} {v : Value} {T xs : List Int} (ad : Addr) (n c : Nat) (h : OwnI w0.heap.size W v T) (hg : w0.grownBy W none) (hn : xs.length = n) (hpos : 0 < n) (hsrc : ∀ j x, xs[j]? = some x → W.cell? (ad.add j) = some (.int .i64 x)) (hb : (T.length + n) * 8 ≤ 140737488355328) :
    ∃ a' c' W', (∀ ty, (Builtin.append_ #[95, 95] ty #[v, .slice (some ad) n c]).run Try.prog W = .ok (.slice a' (T.length + n) c') W') ∧ OwnI w0.heap.size W' (.slice a' (T.length + n) c') (T ++ xs) ∧ w0.grownBy W' none ∧ W.grownBy W' v.ownBlock := by
  subst hn
  obtain ⟨i, hi, hz0, hz1, hz2⟩ := info_parts Try.infoE2
  obtain ⟨v', W', hr, ho, hgr, hnil⟩ := run_append_own (P := Try.prog) W w0.heap.size 95 95 2 i _ 1 8 Try.underlying95 hi hz0 hz1 hz2 rfl (by decide) v T.length (T.map (Value.int .i64)) h ad xs.length c (xs.map (Value.int .i64)) (by simp) (fun j u hj => by
    rw [List.getElem?_map] at hj
    cases hx : xs[j]? with
    | none => rw [hx] at hj; simp at hj
    | some x => rw [hx] at hj; simp at hj; rw [← hj]; exact hsrc j x hx) (by simp [Value.oneCell']) (by unfold maxLen; omega) hb hg.size
  have e : T.map (Value.int .i64) ++ xs.map (Value.int .i64) = (T ++ xs).map (Value.int .i64) := by simp
  have e2 : (T ++ xs).length = T.length + xs.length := by simp
  rw [e] at ho
  have ho' : OwnI w0.heap.size W' v' (T ++ xs) := by unfold OwnI; rw [e2]; exact ho
  obtain ⟨a', c', rfl⟩ : ∃ a' c', v' = .slice a' (T.length + xs.length) c' := by
    rcases ho.2 with ⟨e1, e2⟩ | ⟨g', c', cur, e1, -⟩
    · omega
    · exact ⟨_, _, e1⟩
  exact ⟨a', c', W', fun _ => hr, ho', grown_own hg hgr h.own, hgr⟩

/-- One number, in a block of its own. -/
theorem app_int1 {w0 W : World} {v : Value} {T : List Int} (x : Int) (h : OwnI w0.heap.size W v T) (hg : w0.grownBy W none) (hb : (T.length + 1) * 8 ≤ 140737488355328) :
    ∃ a' c' W', (∀ ty, (Builtin.append_ #[95, 95] ty #[v, .slice (some ⟨W.heap.size, 0, none⟩) 1 1]).run Try.prog (W.alloc (.cells #[.int .i64 x] 2)) = .ok (.slice a' (T.length + 1) c') W') ∧ OwnI w0.heap.size W' (.slice a' (T.length + 1) c') (T ++ [x]) ∧ w0.grownBy W' none ∧ (W.alloc (.cells #[.int .i64 x] 2)).grownBy W' v.ownBlock := by
  have gA := World.grownBy_alloc W (.cells #[.int .i64 x] 2) none
  refine app_ints (xs := [x]) ⟨W.heap.size, 0, none⟩ 1 1 (h.keep gA) (hg.trans gA) rfl (by omega) (fun j y hj => ?_) hb
  match j, hj with
  | 0, hj =>
    cases hj
    have := heap_alloc_new W (.cells #[.int .i64 x] 2)
    rw [addr_add]
    unfold World.cell?
    rw [this]
    rfl

/-- Lengths and gaps of the first runs. -/
def gapK : List (Int × Int) → List Int
  | [] => []
  | r :: l => (r.2 - r.1) :: gapsF r.1 l

theorem gaps_snoc (lo : Int) (l : List (Int × Int)) (r : Int × Int) : gapsF lo (l ++ [r]) = gapsF lo l ++ [(l.getLastD (lo, 0)).1 - r.2 - 2, r.2 - r.1] := by
  induction l generalizing lo with
  | nil => simp [gapsF]
  | cons s l ih =>
    have e : ((s :: l).getLastD (lo, 0)).1 = (l.getLastD (s.1, 0)).1 := by
      cases l with
      | nil => rfl
      | cons t l => rfl
    rw [e]
    simp only [List.cons_append, gapsF, ih]

theorem gapK_step (L : List (Int × Int)) (k : Nat) (h : k < L.length) : gapK (L.take (k + 1)) = gapK (L.take k) ++ ((if 0 < k then [(L.getD (k - 1) (0, 0)).1 - (L.getD k (0, 0)).2 - 2] else []) ++ [(L.getD k (0, 0)).2 - (L.getD k (0, 0)).1]) := by
  have e : L.take (k + 1) = L.take k ++ [L.getD k (0, 0)] := by rw [List.take_add_one]; simp [List.getD, h]
  rw [e]
  cases k with
  | zero => simp [gapK, gapsF]
  | succ k =>
    rw [if_pos (by omega)]
    cases L with
    | nil => simp at h
    | cons s L =>
      simp only [List.take_succ_cons, List.cons_append, gapK]
      rw [gaps_snoc]
      have e2 : ((L.take k).getLastD (s.1, 0)).1 = ((s :: L).getD (k + 1 - 1) (0, 0)).1 := by
        rw [Nat.add_sub_cancel]
        have hl : k ≤ L.length := by simp at h; omega
        cases k with
        | zero => simp
        | succ k =>
          have hk : k < L.length := by omega
          have : L.take (k + 1) = L.take k ++ [L.getD k (0, 0)] := by rw [List.take_add_one]; simp [List.getD, hk]
          rw [this]
          simp [List.getLastD_eq_getLast?, List.getD]
      rw [e2]
      simp

theorem runsN_gapK (L : List (Int × Int)) (h : L ≠ []) : runsN L = ((L.length : Int) - 1) :: gapK L := by
  cases L with
  | nil => exact absurd rfl h
  | cons r l => simp [runsN, gapK]

theorem gapK_len (L : List (Int × Int)) (k : Nat) (h : k ≤ L.length) : (gapK (L.take k)).length ≤ 2 * k := by
  have hg : ∀ (l : List (Int × Int)) (lo : Int), (gapsF lo l).length = 2 * l.length := fun l => by
    induction l with
    | nil => intro lo; rfl
    | cons s l ih => intro lo; simp only [gapsF, List.length_cons, ih]; omega
  cases hq : L.take k with
  | nil => simp [gapK]
  | cons r l =>
    have : (L.take k).length = k := by simp; omega
    rw [hq] at this
    simp only [gapK, List.length_cons, hg] at this ⊢
    omega
end Go.Proofs.Ytpcnpdippnljpaa.Kf

namespace Go.Proofs.Ytpcnpdippnljpaa.Kf
open Go.RowKit
set_option linter.unusedVariables false
set_option maxRecDepth 100000
set_option maxHeartbeats 4000000

theorem fall_mem {b : Int} {L : List (Int × Int)} (h : fallF b L = true) (hb : b ≤ MAXN) : ∀ s ∈ L, 0 ≤ s.1 ∧ s.1 ≤ s.2 ∧ s.2 ≤ MAXN := by
  induction L generalizing b with
  | nil => intro s hs; cases hs
  | cons r l ih =>
    simp only [fallF, Bool.and_eq_true, decide_eq_true_eq] at h
    obtain ⟨⟨⟨h1, h2⟩, h3⟩, h4⟩ := h
    intro s hs
    rcases List.mem_cons.1 hs with rfl | hs
    · exact ⟨h1, h2, by omega⟩
    · exact ih h4 (by omega) s hs
theorem are_mem {L : List (Int × Int)} (h : areF L = true) : L ≠ [] ∧ ∀ s ∈ L, 0 ≤ s.1 ∧ s.1 ≤ s.2 ∧ s.2 ≤ MAXN := by
  unfold areF at h
  simp only [Bool.and_eq_true] at h
  exact ⟨fun e => by rw [e] at h; simp at h, fall_mem h.1 (Int.le_refl _)⟩

theorem OwnI.lt {base : Nat} {w : World} {v : Value} {T : List Int} (h : OwnI base w v T) : ∀ k, v.ownBlock = some k → k < w.heap.size := fun k hk => by
  rcases h.2 with ⟨rfl, -⟩ | ⟨b, c, cur, rfl, q1, q2, -⟩
  · cases hk
  · injection hk with hk; exact hk ▸ (Array.getElem?_eq_some_iff.1 q2).1

theorem appendRuns_any {w0 w : World} {v : Value} {T : List Int} {L : List (Int × Int)} {a : Option Addr} {c : Nat} (h : OwnI w0.heap.size w v T) (hg : w0.grownBy w none) (hr : RdR w0 a L) (hL : areF L = true) (hc : L.length ≤ c ∧ c ≤ 9223372036854775807) (hb : (T.length + 1 + 2 * L.length) * 8 ≤ 140737488355328) :
    Calls Try.prog 70 #[v, .slice a L.length c] w fun e w' => ∃ v', e = .returned v' ∧ OwnI w0.heap.size w' v' (T ++ runsN L) ∧ w0.grownBy w' none ∧ KO w w' := by
  obtain ⟨hne, hmem⟩ := are_mem hL
  unfold MAXN at hmem
  obtain ⟨b, off, rfl, hcs⟩ := hr hne
  rw [runsN_gapK L hne]
  obtain ⟨n, hn⟩ : ∃ n, n = L.length := ⟨_, rfl⟩
  have hw1 : IntKind.i64.wrap ((n : Int) - 1) = (n : Int) - 1 := by rw [IntKind.wrap_i64]; omega
  obtain ⟨a1, c1, W1, hr1, o1, g1, gr1⟩ := app_int1 ((n : Int) - 1) h hg (by omega)
  have ko1 : KO w W1 := (KO.grown (World.grownBy_alloc w (.cells #[.int .i64 ((n : Int) - 1)] 2) none)).trans ((h.keep (World.grownBy_alloc w _ none)).ko gr1)
  obtain ⟨va, vc, rfl, -, -, -⟩ := h.at
  rw [← hn] at hc hb ⊢
  have HN := hide hn
  have HC := hide hcs
  have HM := hide hmem
  have S1 : Hid (OwnI w0.heap.size W1 (.slice a1 (T.length + 1) c1) (T ++ [(n : Int) - 1]) ∧ w0.grownBy W1 none ∧ KO w W1) := ⟨o1, g1, ko1⟩
  obtain ⟨m1, hm1⟩ : ∃ m, m = T.length + 1 := ⟨_, rfl⟩
  rw [← hm1] at hr1 S1 hb
  have HM1 := hide hm1
  clear hm1
  clear hn hcs hmem o1 g1 h hL hr hne gr1 ko1
  go_enter Try.func70, Try.ntmps70
  go_wp2_with (at_builtin; refine wpList_append_run _ rfl _ _ 95 95 rfl _ _ rfl rfl (hr1 _) ?_)
  go_loopw [0, 15] (fun vs i wr => ∃ k : Nat, k ≤ n ∧ i = .int .i64 k ∧ Hid (OwnI w0.heap.size wr vs (T ++ [(n : Int) - 1] ++ gapK (L.take k)) ∧ w0.grownBy wr none ∧ KO w wr)) (fun _ i _ => n - (intOf i).toNat)
  case atStart => exact ⟨0, Nat.zero_le _, rfl, by simpa [gapK] using (unhide S1).1, (unhide S1).2.1, (unhide S1).2.2⟩
  case round =>
    obtain ⟨k, hk, rfl, H⟩ := hrel
    clear S1 hr1
    by_cases hlt : k < n
    · have hkL : k < L.length := by rw [← unhide HN]; exact hlt
      have st := gapK_step L k hkL
      have tl := gapK_len L k (by omega)
      obtain ⟨o, g, ko⟩ := unhide H
      have c0 := cell_grown (unhide HC k hkL).1 g
      have c1 := cell_grown (unhide HC k hkL).2 g
      have hm := unhide HM (L.getD k (0, 0)) (by simp [List.getD, hkL])
      have kI : (k : Int) < (n : Int) := by omega
      generalize L.getD k (0, 0) = r at *
      obtain ⟨r1, r2⟩ := r
      dsimp only at c0 c1 hm st
      have w2 : IntKind.i64.wrap (r2 - r1) = r2 - r1 := by rw [IntKind.wrap_i64]; omega
      have gA := World.grownBy_alloc wr (.cells #[.int .i64 r1, .int .i64 r2] 118) none
      have bx := heap_alloc_new wr (.cells #[.int .i64 r1, .int .i64 r2] 118)
      have HL := hide hlt
      have ol := o.lt
      have tlen : (T ++ [(n : Int) - 1] ++ gapK (L.take k)).length ≤ m1 + 2 * k := by rw [List.length_append]; have := unhide HM1; simp only [List.length_append, List.length_cons, List.length_nil]; omega
      obtain ⟨T2, hT2⟩ : ∃ T2, T2 = T ++ [(n : Int) - 1] ++ gapK (L.take k) := ⟨_, rfl⟩
      rw [← hT2] at o tlen
      have ST := hide (show T ++ [(n : Int) - 1] ++ gapK (L.take (k + 1)) = T2 ++ ((if 0 < k then [(L.getD (k - 1) (0, 0)).1 - r2 - 2] else []) ++ [r2 - r1]) by rw [st, hT2]; simp only [List.append_assoc])
      obtain ⟨ua, uc, rfl, -, -, -⟩ := o.at
      obtain ⟨m2, hm2⟩ : ∃ m, m = T2.length := ⟨_, rfl⟩
      rw [← hm2] at o tlen ol ⊢
      clear hT2 tl
      by_cases h0 : 0 < k
      · obtain ⟨j, hj⟩ : ∃ j, k = j + 1 := ⟨k - 1, by omega⟩
        have jL : j < L.length := by omega
        have hq2 := unhide HM (L.getD j (0, 0)) (by simp [List.getD, jL])
        have d0 := cell_grown (unhide HC j jL).1 g
        have HQ := hide (unhide HC j jL).1
        rw [if_pos h0, show k - 1 = j by omega] at ST
        have jw : IntKind.i64.wrap ((k : Int) - 1) = (j : Int) := by rw [IntKind.wrap_i64]; omega
        have jI : (j : Int) < (n : Int) := by omega
        have k0 : (0 : Int) < (k : Int) := by omega
        generalize (L.getD j (0, 0)).1 = q at *
        have wa : IntKind.i64.wrap (q - r2) = q - r2 := by rw [IntKind.wrap_i64]; omega
        have wb : IntKind.i64.wrap (q - r2 - 2) = q - r2 - 2 := by rw [IntKind.wrap_i64]; omega
        have gB : wr.grownBy (wr.alloc (.cells #[.int .i64 r1, .int .i64 r2] 118)).drew none := gA.trans (grown_drew' (World.grownBy.refl _ _))
        obtain ⟨a2, c2, W2, hap1, o2, g2, gr2⟩ := app_int1 (W := (wr.alloc (.cells #[.int .i64 r1, .int .i64 r2] 118)).drew) (q - r2 - 2) (o.keep gB) (g.trans gB) (by rw [← hm2]; omega)
        obtain ⟨a3, c3, W3, hap2, o3, g3, gr3⟩ := app_int1 (r2 - r1) o2 g2 (by simp only [List.length_append, List.length_cons, List.length_nil]; omega)
        have e2 : (T2 ++ [q - r2 - 2]).length = m2 + 1 := by simp [hm2]
        rw [e2, ← hm2] at hap2
        rw [e2] at o3
        rw [← hm2, show (wr.alloc (.cells #[.int .i64 r1, .int .i64 r2] 118)).drew.heap.size = wr.heap.size + 1 by simp [World.drew]] at hap1
        rw [← hm2] at o2 gr3
        have bxD : ((wr.alloc (.cells #[.int .i64 r1, .int .i64 r2] 118)).drew.alloc (.cells #[.int .i64 (q - r2 - 2)] 2)).heap[wr.heap.size]? = some (.cells #[.int .i64 r1, .int .i64 r2] 118) := ((World.grownBy_alloc _ (.cells #[.int .i64 (q - r2 - 2)] 2) none).block _ (by simp) (by simp)).trans bx
        have bx2 : W2.heap[wr.heap.size]? = some (.cells #[.int .i64 r1, .int .i64 r2] 118) := (gr2.block _ (Array.getElem?_eq_some_iff.1 bxD).1 (fun e => by have := ol _ e.symm; omega)).trans bxD
        have y1 : (wr.alloc (.cells #[.int .i64 r1, .int .i64 r2] 118)).cell? ⟨wr.heap.size, 1, none⟩ = some (.int .i64 r2) := by simp only [World.cell?]; rw [bx]; rfl
        have z0 : W2.cell? ⟨wr.heap.size, 0, none⟩ = some (.int .i64 r1) := by simp only [World.cell?]; rw [bx2]; rfl
        have z1 : W2.cell? ⟨wr.heap.size, 1, none⟩ = some (.int .i64 r2) := by simp only [World.cell?]; rw [bx2]; rfl
        have d1 : (wr.alloc (.cells #[.int .i64 r1, .int .i64 r2] 118)).cell? ⟨b, off + j * 2, none⟩ = some (.int .i64 q) := cell_grown d0 gA
        have d2 : W2.cell? ⟨b, off + j * 2, none⟩ = some (.int .i64 q) := cell_grown (unhide HQ) g2
        have koE : KO w W3 := ((ko.trans (KO.grown gB)).trans ((KO.grown (World.grownBy_alloc _ _ none)).trans (((o.keep gB).keep (World.grownBy_alloc _ _ none)).ko gr2))).trans ((KO.grown (World.grownBy_alloc W2 _ none)).trans ((o2.keep (World.grownBy_alloc W2 _ none)).ko gr3))
        have E : Hid (OwnI w0.heap.size W3 (.slice a3 (m2 + 1 + 1) c3) (T ++ [(n : Int) - 1] ++ gapK (L.take (k + 1))) ∧ w0.grownBy W3 none ∧ KO w W3) := ⟨by rw [unhide ST]; have := o3; rw [List.append_assoc] at this; exact this, g3, koE⟩
        clear ko koE gr3 o o2 o3 g g2 g3 gr2 bx bxD bx2 hm hq2 ST H gA gB hlt hkL ol hm2 e2 tlen jL hj h0 hk HM HC st d0
        go_wp2_with fail
        go_region_held3 (fun W => W.cell? ⟨b, off + j * 2, none⟩ = some (.int .i64 q) ∧ W.cell? ⟨wr.heap.size, 1, none⟩ = some (.int .i64 r2)) (go_keep) (refine step_append_run rfl (Operand.tmp 22) (Operand.tmp 33) 95 95 rfl (.slice ua m2 uc) (.slice (some ⟨wr.heap.size + 1, 0, none⟩) 1 1) rfl rfl (hap1 95) ?_)
        go_wp2_with (at_builtin; refine wpList_append_run _ rfl (Operand.tmp 35) (Operand.tmp 41) 95 95 rfl (.slice a2 (m2 + 1) c2) (.slice (some ⟨W2.heap.size, 0, none⟩) 1 1) rfl rfl (hap2 95) ?_)
        exact ⟨⟨k + 1, unhide HL, by go_num, unhide E⟩, by simp [intOf]; have := unhide HL; omega⟩
      · rw [if_neg h0] at ST
        have k0 : ¬ (0 : Int) < (k : Int) := by omega
        obtain ⟨a3, c3, W3, hap2, o3, g3, gr3⟩ := app_int1 (r2 - r1) (o.keep gA) (g.trans gA) (by rw [← hm2]; omega)
        rw [← hm2, show (wr.alloc (.cells #[.int .i64 r1, .int .i64 r2] 118)).heap.size = wr.heap.size + 1 by simp] at hap2
        rw [← hm2] at o3
        have y0 : (wr.alloc (.cells #[.int .i64 r1, .int .i64 r2] 118)).cell? ⟨wr.heap.size, 0, none⟩ = some (.int .i64 r1) := by simp only [World.cell?]; rw [bx]; rfl
        have y1 : (wr.alloc (.cells #[.int .i64 r1, .int .i64 r2] 118)).cell? ⟨wr.heap.size, 1, none⟩ = some (.int .i64 r2) := by simp only [World.cell?]; rw [bx]; rfl
        have koE : KO w W3 := (ko.trans (KO.grown gA)).trans ((KO.grown (World.grownBy_alloc _ _ none)).trans (((o.keep gA).keep (World.grownBy_alloc _ _ none)).ko gr3))
        have E : Hid (OwnI w0.heap.size W3 (.slice a3 (m2 + 1) c3) (T ++ [(n : Int) - 1] ++ gapK (L.take (k + 1))) ∧ w0.grownBy W3 none ∧ KO w W3) := ⟨by rw [unhide ST]; exact o3, g3, koE⟩
        clear ko koE gr3 o o3 g g3 bx hm ST H gA hlt hkL ol hm2 tlen h0 hk HM HC st
        go_wp2_with (at_builtin; refine wpList_append_run _ rfl (Operand.tmp 35) (Operand.tmp 41) 95 95 rfl (.slice ua m2 uc) (.slice (some ⟨wr.heap.size + 1, 0, none⟩) 1 1) rfl rfl (hap2 95) ?_)
        exact ⟨⟨k + 1, unhide HL, by go_num, unhide E⟩, by simp [intOf]; have := unhide HL; omega⟩
    · obtain rfl : k = n := by omega
      have hno : ¬ (k : Int) < (k : Int) := by omega
      have e : L.take k = L := by rw [unhide HN]; simp
      rw [e] at H
      go_wp2_with fail
      go_ret
      exact ⟨_, rfl, by have := (unhide H).1; rw [List.append_assoc] at this; exact this, (unhide H).2.1, (unhide H).2.2⟩
end Go.Proofs.Ytpcnpdippnljpaa.Kf

namespace Go.Proofs.Ytpcnpdippnljpaa.Kf
open Go.RowKit
set_option linter.unusedVariables false
set_option maxRecDepth 100000
set_option maxHeartbeats 4000000

theorem fitsW_in (f : Fr) (q : Nat) (h : 0 ≤ f.offset ∧ f.offset ≤ MAXN) : fitsW f q = fitsF f q := by
  unfold fitsW
  by_cases hq : q = 11 ∨ q = 12
  · rw [if_pos hq]
    have e : IntKind.i64.wrap (MAXN - f.offset) = MAXN - f.offset := by rw [IntKind.wrap_i64]; unfold MAXN at *; omega
    rw [e]
    unfold fitsF
    rw [if_neg (by omega), if_neg (by omega), if_neg (by omega), if_neg (by omega), if_pos hq]
  · rw [if_neg hq]
theorem setF_off (f : Fr) (q : Nat) (v : Int) (h : q ≠ 2) : (setF f q v).offset = f.offset := by
  unfold setF
  by_cases h1 : q = 1
  · rw [if_pos h1]
  · rw [if_neg h1, if_neg h]
    (repeat' split) <;> rfl
theorem takeF_off (f : Fr) (q : Nat) (h : q ≠ 2) : (takeF f q).offset = f.offset := by
  unfold takeF
  by_cases h0 : q = 0 ∨ q = 8
  · rw [if_pos h0]
  by_cases h1 : q = 9
  · rw [if_neg h0, if_pos h1]
  by_cases h2 : q = 10
  · rw [if_neg h0, if_neg h1, if_pos h2]
  by_cases h3 : q = 11 ∨ q = 12 ∨ q = 13
  · rw [if_neg h0, if_neg h1, if_neg h2, if_pos h3]
  · rw [if_neg h0, if_neg h1, if_neg h2, if_neg h3]; exact setF_off f q 0 h
theorem fits_off (f : Fr) (h : ¬ (0 ≤ f.offset ∧ f.offset ≤ MAXN)) : fitsF f 2 = false ∧ fitsW f 2 = false := by
  have e : fitsF f 2 = numb f.offset MAXN := rfl
  have e2 : fitsW f 2 = fitsF f 2 := rfl
  rw [e2, e]
  have : numb f.offset MAXN = false := by
    unfold numb
    rw [Bool.and_eq_false_iff, decide_eq_false_iff_not, decide_eq_false_iff_not]
    omega
  exact ⟨this, this⟩
theorem bare_off (L bare : Fr) (h : L.offset ≠ 0) : bareF L bare = false := by
  rw [bareF_chain]
  have : (L.offset == 0) = false := by simpa using h
  rw [this]
  simp

theorem mayW_mayF (f bare : Fr) (l : Parts) : mayW f bare l = mayF f bare l := by
  have e4 : fitsTo f l 4 = (fitsW f l.1 && fitsW f l.2.1 && fitsW f l.2.2.1 && fitsW f l.2.2.2) := by simp [fitsTo, nth]
  have el : leftF f l 4 = takeF (takeF (takeF (takeF f l.1) l.2.1) l.2.2.1) l.2.2.2 := rfl
  unfold mayW mayF
  rw [e4, el]
  by_cases h : 0 ≤ f.offset ∧ f.offset ≤ MAXN
  · rw [fitsW_in f _ h, fitsW_in f _ h, fitsW_in f _ h, fitsW_in f _ h]
  · obtain ⟨f1, f2⟩ := fits_off f h
    by_cases h1 : l.1 = 2
    · rw [h1, f1, f2]; simp
    by_cases h2 : l.2.1 = 2
    · rw [h2, f1, f2]; simp
    by_cases h3 : l.2.2.1 = 2
    · rw [h3, f1, f2]; simp
    by_cases h4 : l.2.2.2 = 2
    · rw [h4, f1, f2]; simp
    have ho : (takeF (takeF (takeF (takeF f l.1) l.2.1) l.2.2.1) l.2.2.2).offset ≠ 0 := by
      rw [takeF_off _ _ h4, takeF_off _ _ h3, takeF_off _ _ h2, takeF_off _ _ h1]
      intro e; rw [e] at h; unfold MAXN at h; omega
    rw [bare_off _ _ ho]; simp

/-- Every type of the table has parts. -/
theorem shape_some {k : Int} (h : (k = 0 ∨ k = 1 ∨ k = 30 ∨ k = 2 ∨ k = 3 ∨ k = 4 ∨ k = 5 ∨ k = 6) ∨ (8 ≤ k ∧ k ≤ 15) ∨ (k = 16 ∨ k = 20 ∨ k = 17 ∨ k = 21 ∨ k = 19 ∨ k = 23 ∨ k = 18 ∨ k = 22 ∨ k = 26 ∨ k = 27 ∨ k = 28 ∨ k = 29)) : ∃ bare l, shapeF k = some (bare, l) := by
  have h' : k = 0 ∨ k = 1 ∨ k = 30 ∨ k = 2 ∨ k = 3 ∨ k = 4 ∨ k = 5 ∨ k = 6 ∨ k = 8 ∨ k = 9 ∨ k = 10 ∨ k = 11 ∨ k = 12 ∨ k = 13 ∨ k = 14 ∨ k = 15 ∨ k = 16 ∨ k = 20 ∨ k = 17 ∨ k = 21 ∨ k = 19 ∨ k = 23 ∨ k = 18 ∨ k = 22 ∨ k = 26 ∨ k = 27 ∨ k = 28 ∨ k = 29 := by omega
  rcases h' with rfl | rfl | rfl | rfl | rfl | rfl | rfl | rfl | rfl | rfl | rfl | rfl | rfl | rfl | rfl | rfl | rfl | rfl | rfl | rfl | rfl | rfl | rfl | rfl | rfl | rfl | rfl | rfl
  all_goals exact ⟨_, _, rfl⟩

theorem kind_dom {k : Int} (h : isKindF k = true) : k = 0 ∨ k = 1 ∨ k = 2 ∨ k = 4 ∨ k = 5 ∨ k = 6 ∨ k = 8 ∨ k = 16 ∨ k = 17 ∨ k = 18 ∨ k = 20 ∨ k = 21 ∨ k = 22 ∨ k = 26 ∨ k = 27 ∨ k = 28 ∨ k = 30 := by
  have hd : ∃ g p, shapeF k = some (g, p) := by
    unfold isKindF at h
    cases hs : shapeF k with
    | none => rw [hs] at h; simp at h
    | some x => exact ⟨x.1, x.2, rfl⟩
  obtain ⟨g, p, hs⟩ := hd
  have dom := shape_dom hs
  by_cases hb : k = 3 ∨ k = 9 ∨ k = 10 ∨ k = 11 ∨ k = 12 ∨ k = 13 ∨ k = 14 ∨ k = 15 ∨ k = 19 ∨ k = 23 ∨ k = 29
  · exfalso
    rcases hb with rfl | rfl | rfl | rfl | rfl | rfl | rfl | rfl | rfl | rfl | rfl
    all_goals exact absurd h (by decide)
  · omega

theorem type_some {f : Fr} (h : isKindF f.kind = true) : ∃ bare l, shapeF (typeF f) = some (bare, l) := by
  have hk := kind_dom h
  refine shape_some ?_
  have b1 := one_bounds (decide (f.offset > 0)); have b2 := one_bounds (!f.tail); have b3 := one_bounds f.fin
  have b4 := one_bounds f.marks; have b5 := one_bounds f.uni; have b6 := one_bounds f.own
  unfold typeF
  (repeat' split) <;> omega

/-- The numbers of the first parts. -/
def numsTo (f : Fr) (p : Parts) : Nat → List Int
  | 0 => []
  | k + 1 => numsTo f p k ++ numsP f (nth p k)
/-- What stands behind all numbers, behind the first parts. -/
def restTo (f : Fr) (p : Parts) : Nat → List Int
  | 0 => f.data
  | k + 1 => if nth p k = 14 then List.replicate (f.size - 1).toNat 0 else restTo f p k

theorem numsTo_mono (f : Fr) (p : Parts) (k n : Nat) (h : k ≤ n) : (numsTo f p k).length ≤ (numsTo f p n).length := by
  induction n with
  | zero => obtain rfl : k = 0 := by omega
            exact Nat.le_refl _
  | succ n ih =>
    by_cases e : k = n + 1
    · rw [e]; exact Nat.le_refl _
    · have := ih (by omega)
      simp only [numsTo, List.length_append]; omega
theorem runsN_len (L : List (Int × Int)) : (runsN L).length ≤ 2 * L.length := by
  have hg : ∀ (l : List (Int × Int)) (lo : Int), (gapsF lo l).length = 2 * l.length := fun l => by
    induction l with
    | nil => intro lo; rfl
    | cons s l ih => intro lo; simp only [gapsF, List.length_cons, ih]; omega
  cases L with
  | nil => simp [runsN]
  | cons r l => simp only [runsN, List.length_cons, hg]; omega
theorem numsP_len (f : Fr) (q : Nat) : (numsP f q).length ≤ (if q = 9 then 2 * f.runs.length else 3) := by
  have := runsN_len f.runs
  unfold numsP
  (repeat' split) <;> simp <;> omega
end Go.Proofs.Ytpcnpdippnljpaa.Kf

namespace Go.Proofs.Ytpcnpdippnljpaa.Kf
open Go.RowKit
set_option linter.unusedVariables false
set_option maxRecDepth 100000
set_option maxHeartbeats 2000000

def elicF (k : Int) : Bool := if k = 0 ∨ k = 2 ∨ k = 28 then false else isKindF k
def allowF (s k : Int) (own : Bool) : Bool := if s = 2 then isKindF k else if s = 0 ∨ s = 1 then (if k = 0 ∨ k = 1 ∨ k = 2 ∨ k = 6 then true else if k = 28 then !own else false) else false

theorem beq_no {k c : Int} (h : ¬ k = c) : (k == c) = false := by simpa using h
theorem beq_yes {k c : Int} (h : k = c) : (k == c) = true := by simpa using h

end Go.Proofs.Ytpcnpdippnljpaa.Kf

namespace Go.Proofs.Ytpcnpdippnljpaa.Kf
open Go.RowKit
set_option linter.unusedVariables false
set_option maxRecDepth 100000
set_option maxHeartbeats 40000000

theorem wpList_make_run {ops : Array Oper} {rest : List Oper} {o : Oper} {a : Act} {Q : Exit → Act → World → Prop} (w : World) (hg : o.guard = none) (t : TypeId) (l c : Operand) (hop : o.op = Op.makeSlice t l c) (lv cv : Value)
    (hl : a.eval l = lv) (hc : a.eval c = cv) {v' : Value} {w' : World} (hr : (Instr.makeSlice t lv cv).run Try.prog w = .ok v' w') (hK : wpList Try.prog ops Q rest (a.put o.dst v') w') : wpList Try.prog ops Q (o :: rest) a w := by
  refine wpList_plain hg fun K hK' => ?_
  unfold Oper.wp
  simp [execOp, hop, hl, hc, hr, Result.andThen]
  exact hK' _ _ hK

theorem mk_ints (cap : Nat) (h : cap * 8 ≤ 281474976710656) (W : World) : ∃ cur : Array Value, (Instr.makeSlice 95 (.int .i64 0) (.int .i64 (cap : Int))).run Try.prog W = .ok (.slice (some ⟨W.heap.size, 0, none⟩) 0 cap) (W.alloc (.cells cur 2)) ∧ cur.size = cap := by
  obtain ⟨i, hi, hz, hs, hb⟩ := info_parts Try.infoE2
  have := run_make (P := Try.prog) W 95 2 i (.int .i64 0) Try.underlying95 hi hz .i64 .i64 0 cap (by omega) (by omega) (by rw [hb]; omega) (by omega)
  refine ⟨_, this, ?_⟩
  simp [madeCells, hs]
theorem ownI_make (W : World) (cap : Nat) (cur : Array Value) (hc : cur.size = cap) (hm : cap ≤ 9223372036854775807) : OwnI W.heap.size (W.alloc (.cells cur 2)) (.slice (some ⟨W.heap.size, 0, none⟩) 0 cap) [] :=
  ⟨rfl, .inr ⟨W.heap.size, cap, cur, rfl, Nat.le_refl _, heap_alloc_new W _, Nat.zero_le _, by unfold maxLen; omega, by omega, by simp⟩⟩
theorem OwnI.mono {base base' : Nat} {w : World} {v : Value} {T : List Int} (h : OwnI base w v T) (hb : base' ≤ base) : OwnI base' w v T := by
  refine ⟨h.1, h.2.imp id ?_⟩
  rintro ⟨g, c, cur, e1, q1, q2⟩
  exact ⟨g, c, cur, e1, Nat.le_trans hb q1, q2⟩
theorem runsN_pos {L : List (Int × Int)} (h : areF L = true) : (runsN L).length = 2 * L.length ∧ 0 < L.length := by
  have hg : ∀ (l : List (Int × Int)) (lo : Int), (gapsF lo l).length = 2 * l.length := fun l => by
    induction l with
    | nil => intro lo; rfl
    | cons s l ih => intro lo; simp only [gapsF, List.length_cons, ih]; omega
  cases L with
  | nil => simp [areF] at h
  | cons r l => simp only [runsN, List.length_cons, hg]; omega
theorem numsP_len2 (f : Fr) (q : Nat) : (numsP f q).length ≤ (if q = 9 then 2 * f.runs.length else if q = 10 then 3 else 1) := by
  have := runsN_len f.runs
  unfold numsP
  (repeat' split) <;> simp <;> omega
theorem Try.infoB : (Try.prog.info? 5).map (fun i => (i.zero, i.size, i.bytes)) = some (some (.int .u8 0), 1, 1) := by kernel_rfl
theorem mk_zeros (n : Nat) (h : n ≤ 281474976710656) (W : World) : ∃ cur : Array Value, (Instr.makeSlice 27 (.int .i64 (n : Int)) (.int .i64 (n : Int))).run Try.prog W = .ok (.slice (some ⟨W.heap.size, 0, none⟩) n n) (W.alloc (.cells cur 5)) ∧ Rd (W.alloc (.cells cur 5)) (some ⟨W.heap.size, 0, none⟩) (List.replicate n 0) := by
  obtain ⟨i, hi, hz, hs, hb⟩ := info_parts Try.infoB
  have := run_make (P := Try.prog) W 27 5 i (.int .u8 0) Try.underlying27 hi hz .i64 .i64 n n (by omega) (by omega) (by rw [hb]; omega) (by omega)
  rw [hs] at this
  refine ⟨_, this, fun x hx => ?_, fun _ => ⟨W.heap.size, 0, rfl, fun j hj => ?_⟩⟩
  · obtain ⟨-, rfl⟩ := List.mem_replicate.1 hx
    unfold IsB; omega
  · rw [Nat.zero_add]
    unfold World.cell?
    rw [heap_alloc_new]
    simp at hj
    have e : (Value.int IntKind.u8 0).cells = #[Value.int .u8 0] := rfl
    rw [e]
    simp [madeCells, hj, Nat.mod_one]

/-- What a part's bytes are. -/
structure TS (w : World) (s : Value) (rs : List Int) : Prop where
  ex : ∃ a c, s = .slice a rs.length c ∧ Rd w a rs ∧ rs.length ≤ c ∧ c ≤ 9223372036854775807
theorem _root_.Go.Proofs.Ytpcnpdippnljpaa.Rd.grow {w W : World} {a : Option Addr} {l : List Int} (h : Rd w a l) (g : w.grownBy W none) : Rd W a l := ⟨h.1, fun hne => by
  obtain ⟨b, off, e, hc⟩ := h.2 hne
  exact ⟨b, off, e, fun i hi => cell_grown (hc i hi) g⟩⟩
theorem TS.keep {w W : World} {s : Value} {rs : List Int} (h : TS w s rs) (g : w.grownBy W none) : TS W s rs := by
  obtain ⟨a, c, e, hr, h1, h2⟩ := h.ex
  exact ⟨a, c, e, hr.grow g, h1, h2⟩

/-- What tell answers. -/
def TellPost (f : Fr) (w : World) (e : Ending) (w' : World) : Prop :=
  match tellF f with
  | .inr x => e = .returned (.tuple #[nilS, nilS, .int .i64 x]) ∧ w.grownBy w' none
  | .inl (n, rs) => ∃ v s, e = .returned (.tuple #[v, s, .int .i64 0]) ∧ OwnI w.heap.size w' v n ∧ TS w' s rs ∧ w.grownBy w' none

/-- What the loop of tell holds. -/
structure TI (w : World) (C : Array Value) (T rs : List Int) (v s : Value) (W : World) : Prop where
  own : OwnI w.heap.size W v T
  rest : TS W s rs
  blk : Blk W w.heap.size C 80
  gr : w.grownBy W none
theorem TI.keep {w W W' : World} {C : Array Value} {T rs : List Int} {v s : Value} (h : TI w C T rs v s W) (g : W.grownBy W' none) : TI w C T rs v s W' := ⟨h.own.keep g, h.rest.keep g, h.blk.grown g, h.gr.trans g⟩

/-- The parts that a type may have. -/
theorem shape_parts {k0 : Int} {bare : Fr} {l : Parts} (hs : shapeF k0 = some (bare, l)) : l = (14, 0, 0, 0) ∨ l = (0, 0, 0, 0) ∨ l = (8, 7, 9, 0) ∨ l = (8, 7, 9, 10) ∨ l = (1, 5, 6, 0) ∨ l = (1, 5, 0, 0) ∨ l = (2, 11, 0, 0) ∨ l = (1, 0, 11, 0) ∨ l = (1, 0, 12, 0) ∨ l = (1, 2, 11, 0) ∨ l = (1, 2, 12, 0) ∨ l = (3, 0, 0, 0) ∨ l = (1, 3, 0, 0) ∨ l = (4, 0, 0, 0) ∨ l = (13, 0, 0, 0) ∨ l = (5, 6, 11, 0) ∨ l = (5, 11, 0, 0) := by
  have dom := shape_dom hs
  have h' : k0 = 0 ∨ k0 = 1 ∨ k0 = 30 ∨ k0 = 2 ∨ k0 = 3 ∨ k0 = 4 ∨ k0 = 5 ∨ k0 = 6 ∨ k0 = 8 ∨ k0 = 9 ∨ k0 = 10 ∨ k0 = 11 ∨ k0 = 12 ∨ k0 = 13 ∨ k0 = 14 ∨ k0 = 15 ∨ k0 = 16 ∨ k0 = 20 ∨ k0 = 17 ∨ k0 = 21 ∨ k0 = 19 ∨ k0 = 23 ∨ k0 = 18 ∨ k0 = 22 ∨ k0 = 26 ∨ k0 = 27 ∨ k0 = 28 ∨ k0 = 29 := by omega
  clear dom
  rcases h' with rfl | rfl | rfl | rfl | rfl | rfl | rfl | rfl | rfl | rfl | rfl | rfl | rfl | rfl | rfl | rfl | rfl | rfl | rfl | rfl | rfl | rfl | rfl | rfl | rfl | rfl | rfl | rfl
  all_goals
    have e := congrArg (fun x => x.map Prod.snd) hs
    have e2 : _ = l := Option.some.inj e
    subst e2
    repeat (first | exact Or.inl rfl | exact rfl | apply Or.inr)
theorem nth_le {k0 : Int} {bare : Fr} {l : Parts} (hs : shapeF k0 = some (bare, l)) : ∀ k, nth l k ≤ 14 := by
  have h : l.1 ≤ 14 ∧ l.2.1 ≤ 14 ∧ l.2.2.1 ≤ 14 ∧ l.2.2.2 ≤ 14 := by
    rcases shape_parts hs with rfl | rfl | rfl | rfl | rfl | rfl | rfl | rfl | rfl | rfl | rfl | rfl | rfl | rfl | rfl | rfl | rfl <;> decide
  intro k
  unfold nth
  (repeat' split) <;> omega

theorem tell_any (f : Fr) (d r : Value) (w : World) (hF : FrIn w f d r) (hD : TS w d f.data) (hk : -9223372036854775808 ≤ f.kind ∧ f.kind ≤ 9223372036854775807) (hrl : f.runs.length * 16 ≤ 140737488351232) :
    Calls Try.prog 50 #[f.val d r] w (TellPost f w) := by
  have hkd := hide (fun W => isKind_any f.kind W)
  have hty := hide (fun W => typeOf_any f d r W hk)
  obtain ⟨C, hC⟩ : ∃ C, C = f.cs d r := ⟨_, rfl⟩
  have od : d.oneCell' = true := by obtain ⟨a, c, rfl, -⟩ := hF.data; rfl
  have or : r.oneCell' = true := by obtain ⟨a, c, rfl, -⟩ := hF.runs; rfl
  have C17 : C.size = 17 := by rw [hC]; rfl
  have C1 : C.all (·.oneCell') = true := by rw [hC]; exact one17 f d r od or
  have iC : (Try.prog.info? 80).map (·.size) = some C.size := by rw [C17]; exact Try.size26
  have e1 : f.val d r = .agg C := by rw [hC]
  rw [e1] at hty ⊢
  have c0 : C[0]? = some (.int .i64 f.kind) := by rw [hC]; rfl
  have B0 := Blk.new w C 80
  have g0 := World.grownBy_alloc w (.cells C 80) none
  have k0 := B0.cell 0 _ c0
  have HB := hide B0
  by_cases hkind : isKindF f.kind = true
  · obtain ⟨bare, l, hs⟩ := type_some hkind
    have hsh := hide (fun W => shape_yes (typeF f) bare l hs W)
    have hmay := hide (fun W (g : w.grownBy W none) => mayBe_any f bare d r l W (hF.keep g) (by intro k hk; exact nth_le hs k))
    have et : tellF f = if mayF f bare l then .inl (typeF f :: (numsP f l.1 ++ numsP f l.2.1 ++ numsP f l.2.2.1 ++ numsP f l.2.2.2), restF f l.1 f.data) else .inr 42 := by unfold tellF; rw [if_pos hkind, hs]
    rw [hkind] at hkd
    obtain ⟨Cb, hCb⟩ : ∃ Cb, Cb = bare.cs nilS nilS := ⟨_, rfl⟩
    have Cb17 : Cb.size = 17 := by rw [hCb]; rfl
    have Cb1 : Cb.all (·.oneCell') = true := by rw [hCb]; exact one17 bare nilS nilS rfl rfl
    have iCb : (Try.prog.info? 80).map (·.size) = some Cb.size := by rw [Cb17]; exact Try.size26
    have e2 : bare.val nilS nilS = .agg Cb := by rw [hCb]
    rw [e2] at hsh
    rw [e1, e2] at hmay
    obtain ⟨Cp, hCp⟩ : ∃ Cp, Cp = c4 l := ⟨_, rfl⟩
    have Cp4 : Cp.size = 4 := by rw [hCp]; rfl
    have Cp1 : Cp.all (·.oneCell') = true := by rw [hCp]; simp [Value.oneCell']
    have iCp : (Try.prog.info? 113).map (·.size) = some Cp.size := by rw [Cp4]; exact Try.size73
    have e3 : p4 l = .agg Cp := by rw [hCp]
    have hix := hide (fun k (hk : k < 4) W => ix4 l k hk W)
    rw [e3] at hsh hmay hix
    have H4 := hide Cp4
    clear Cp4 e3 hCp
    have HC := hide (And.intro C17 (And.intro Cb17 hC))
    have HE := hide et
    have HS := hide hs
    have HF := hide hF
    have HD := hide hD
    have ZB : Hid (∀ (X : World) (o p4' : Array Value), Blk ((X.alloc (.cells o 80)).alloc (.cells p4' 113)) X.heap.size o 80 ∧ Blk (((X.alloc (.cells o 80)).alloc (.cells p4' 113)).setRow X.heap.size Cb) (X.heap.size + 1) p4' 113 ∧ Blk ((((X.alloc (.cells o 80)).alloc (.cells p4' 113)).setRow X.heap.size Cb).setRow (X.heap.size + 1) Cp) X.heap.size Cb 80 ∧ Blk ((((X.alloc (.cells o 80)).alloc (.cells p4' 113)).setRow X.heap.size Cb).setRow (X.heap.size + 1) Cp) (X.heap.size + 1) Cp 113 ∧ X.grownBy ((((X.alloc (.cells o 80)).alloc (.cells p4' 113)).setRow X.heap.size Cb).setRow (X.heap.size + 1) Cp) none) := fun X o p4' => by
      obtain ⟨q1, q2, q3⟩ := Blk.two X o p4' 80 113
      refine ⟨q1, q2.rowO _ _ (by omega), (q1.row Cb).rowO _ _ (by omega), (q2.rowO _ Cb (by omega)).row _, grown_row (grown_row q3 _ _ (by omega)) _ _ (by omega)⟩
    clear hF hD et hkind C17 C1 e1 e2 hC hCb B0 hs Cb17
    go_enter Try.func50, Try.ntmps50
    go_upto_region 4 with (first | (go_at_call 66; refine (unhide hkd _).mono ?_; rintro e W1 ⟨rfl, g1⟩; have HB1 := hide ((unhide HB).grown g1)) | (refine wpList_load_row rfl _ _ rfl w.heap.size rfl 80 C (0, 0) _ (unhide HB1) Try.underlying80 rfl iC ?_) | (go_at_call 67; refine (unhide hty _).mono ?_; rintro e W2 ⟨rfl, g2⟩))
    have HB2 := hide (And.intro ((unhide HB1).grown g2) ((g0.trans g1).trans g2))
    clear HB HB1 hkd hty g0 g1 g2 k0
    go_upto_region 5 with (first | (go_at_call 68; refine (unhide hsh _).mono ?_; rintro e W3 ⟨rfl, g3⟩) | (refine wpList_store_row rfl _ _ _ rfl W3.heap.size Cb rfl rfl 80 _ (unhide ZB W3 _ _).1 iCb (by rw [(unhide HC).2.1]; rfl) Cb1 ?_) | (refine wpList_store_row rfl _ _ _ rfl (W3.heap.size + 1) Cp rfl rfl 113 _ (unhide ZB W3 _ _).2.1 iCp (by rw [unhide H4]; rfl) Cp1 ?_))
    have z := unhide ZB W3 #[.int .i64 0, .int .i64 0, .int .i64 0, .slice none 0 0, .int .i64 0, .bool false, .bool false, .int .i64 0, .bool false, .int .i64 0, .bool false, .int .i64 0, .slice none 0 0, .bool false, .int .i64 0, .int .i64 0, .int .i64 0] #[.int .i64 0, .int .i64 0, .int .i64 0, .int .i64 0]
    replace z := z.2.2
    have hb4 : w.heap.size < W3.heap.size := Nat.lt_of_lt_of_le (unhide HB2).1.lt g3.size
    generalize (((W3.alloc (.cells #[.int .i64 0, .int .i64 0, .int .i64 0, .slice none 0 0, .int .i64 0, .bool false, .bool false, .int .i64 0, .bool false, .int .i64 0, .bool false, .int .i64 0, .slice none 0 0, .bool false, .int .i64 0, .int .i64 0, .int .i64 0] 80)).alloc (.cells #[.int .i64 0, .int .i64 0, .int .i64 0, .int .i64 0] 113)).setRow W3.heap.size Cb).setRow (W3.heap.size + 1) Cp = W4 at z ⊢
    have HB4 := hide (And.intro (((unhide HB2).1.grown g3).grown z.2.2) (And.intro z.1 (And.intro z.2.1 (((unhide HB2).2.trans g3).trans z.2.2))))
    clear z ZB hsh
    generalize W3.heap.size = b3 at *
    clear HB2 g3 W3
    rw [mayW_mayF] at hmay
    by_cases hm : mayF f bare l = true
    · rw [if_pos hm] at HE
      rw [hm] at hmay
      go_upto_region 7 with (first | (refine wpList_load_row rfl _ _ rfl w.heap.size rfl 80 C (0, 0) _ (unhide HB4).1 Try.underlying80 rfl iC ?_) | (refine wpList_load_row rfl _ _ rfl b3 rfl 80 Cb (0, 0) _ (unhide HB4).2.1 Try.underlying80 rfl iCb ?_) | (refine wpList_load_row rfl _ _ rfl (b3 + 1) rfl 113 Cp (0, 0) _ (unhide HB4).2.2.1 Try.underlying113 rfl iCp ?_) | (go_at_call 69; refine (unhide hmay W4 (unhide HB4).2.2.2).mono ?_; rintro e W5 ⟨rfl, g5⟩))
      have hC := (unhide HC).2.2
      obtain ⟨a2, c2, er, hrr, lr1, lr2⟩ := (unhide HF).runs
      obtain ⟨a1, c1, ed, hrd, ld1, ld2⟩ := (unhide HD).ex
      obtain ⟨nr, hnr⟩ : ∃ n, n = f.runs.length := ⟨_, rfl⟩
      obtain ⟨nd, hnd⟩ : ∃ n, n = f.data.length := ⟨_, rfl⟩
      have HCL : Hid (∀ W, Blk W w.heap.size C 80 → (W.cell? ⟨w.heap.size, 3, none⟩ = some (.slice a1 nd c1) ∧ W.cell? ⟨w.heap.size, 12, none⟩ = some (.slice a2 nr c2)) ∧ (W.cell? ⟨w.heap.size, 1, none⟩ = some (.int .i64 f.stream) ∧ W.cell? ⟨w.heap.size, 2, none⟩ = some (.int .i64 f.offset) ∧ W.cell? ⟨w.heap.size, 4, none⟩ = some (.int .i64 f.size) ∧ W.cell? ⟨w.heap.size, 7, none⟩ = some (.int .i64 f.limit) ∧ W.cell? ⟨w.heap.size, 9, none⟩ = some (.int .i64 f.code) ∧ W.cell? ⟨w.heap.size, 11, none⟩ = some (.int .i64 f.delay)) ∧ (W.cell? ⟨w.heap.size, 14, none⟩ = some (.int .i64 f.c0) ∧ W.cell? ⟨w.heap.size, 15, none⟩ = some (.int .i64 f.c1) ∧ W.cell? ⟨w.heap.size, 16, none⟩ = some (.int .i64 f.c2))) := fun W h => by
        rw [hC, ed, er, ← hnr, ← hnd] at h
        obtain ⟨e0, e1, e2, e3, e4, e5, e6, e7, e8, e9, e10, e11, e12, e13, e14, e15, e16⟩ := h.cells
        exact ⟨⟨e3, e12⟩, ⟨e1, e2, e4, e7, e9, e11⟩, e14, e15, e16⟩
      have HB5 := hide (And.intro ((unhide HB4).1.grown g5) (And.intro ((unhide HB4).2.2.1.grown g5) ((unhide HB4).2.2.2.trans g5)))
      have cr := ((unhide HCL) W5 (unhide HB5).1).1.2
      have cd := ((unhide HCL) W5 (unhide HB5).1).1.1
      rw [← hnr] at hrl lr1
      have k1 : IntKind.i64.wrap (2 * (nr : Int)) = 2 * (nr : Int) := by rw [IntKind.wrap_i64]; omega
      have k2 : IntKind.i64.wrap (8 + 2 * (nr : Int)) = 8 + 2 * (nr : Int) := by rw [IntKind.wrap_i64]; omega
      obtain ⟨cur, hmk, hcur⟩ := mk_ints (8 + 2 * nr) (by omega) W5
      rw [show ((8 + 2 * nr : Nat) : Int) = 8 + 2 * (nr : Int) by omega] at hmk
      have gM := World.grownBy_alloc W5 (.cells cur 2) none
      obtain ⟨a3, c3, W7, hap, o7, g7, gr7⟩ := app_int1 (T := []) (typeF f) ((ownI_make W5 _ cur hcur (by omega)).mono (unhide HB5).2.2.size) ((unhide HB5).2.2.trans gM) (by simp)
      rw [show (W5.alloc (.cells cur 2)).heap.size = W5.heap.size + 1 by simp] at hap
      have hap' : ∀ ty, (Builtin.append_ #[95, 95] ty #[.slice (some ⟨W5.heap.size, 0, none⟩) 0 (8 + 2 * nr), .slice (some ⟨W5.heap.size + 1, 0, none⟩) 1 1]).run Try.prog ((W5.alloc (.cells cur 2)).alloc (.cells #[.int .i64 (typeF f)] 2)) = .ok (.slice a3 1 c3) W7 := hap
      have own7 : ∀ (k : Nat) (cs : Array Value) (t : TypeId), W5.heap[k]? = some (Obj.cells cs t (0, 0)) → W7.heap[k]? = some (Obj.cells cs t (0, 0)) := fun k cs t hk => by
        have lt := (Array.getElem?_eq_some_iff.1 hk).1
        refine (gr7.block k (by simp; omega) (fun e => by simp [Value.ownBlock] at e; omega)).trans ?_
        exact ((gM.trans (World.grownBy_alloc _ _ none)).block k lt (by simp)).trans hk
      have HB7 := hide (And.intro (show Blk W7 w.heap.size C 80 from own7 _ _ _ (unhide HB5).1) (show Blk W7 (b3 + 1) Cp 113 from own7 _ _ _ (unhide HB5).2.1))
      have cd7 := ((unhide HCL) W7 (unhide HB7).1).1.1
      have T0 : Hid (TI w C (typeF f :: numsTo f l 0) (restTo f l 0) (.slice a3 1 c3) (.slice a1 nd c1) W7) := ⟨o7, by have := (unhide HD).keep g7; rw [ed, ← hnd] at this; exact this, (unhide HB7).1, g7⟩
      have HTOT : Hid ((numsTo f l 4).length ≤ 8 + 2 * nr) := by
        rw [hnr]
        show (((([] ++ numsP f l.1) ++ numsP f l.2.1) ++ numsP f l.2.2.1) ++ numsP f l.2.2.2).length ≤ _
        have q1 := numsP_len2 f l.1; have q2 := numsP_len2 f l.2.1; have q3 := numsP_len2 f l.2.2.1; have q4 := numsP_len2 f l.2.2.2
        simp only [List.length_append, List.length_nil]
        rcases shape_parts (unhide HS) with e | e | e | e | e | e | e | e | e | e | e | e | e | e | e | e | e <;> (rw [e] at q1 q2 q3 q4 ⊢; simp at q1 q2 q3 q4 ⊢; omega)
      have HRR := hide hrr
      have HNR := hide hnr
      have HND := hide hnd
      have HD0 : Hid (TS w (.slice a1 nd c1) f.data) := by have := unhide HD; rw [ed, ← hnd] at this; exact this
      have HM := hide hm
      clear hrr hrd hcur hap own7 gr7 o7 g7 hm gM HB4 hmay g5 HB5 hnr hnd ed er hC HF HD
      go_wp2_with (first | (refine wpList_make_run _ rfl 95 (Operand.const (.int .i64 0)) (Operand.tmp 34) rfl (.int .i64 0) (.int .i64 (8 + 2 * (nr : Int))) rfl rfl hmk ?_) | (at_builtin; refine wpList_append_run _ rfl (Operand.tmp 35) (Operand.tmp 37) 95 95 rfl (.slice (some ⟨W5.heap.size, 0, none⟩) 0 (8 + 2 * nr)) (.slice (some ⟨W5.heap.size + 1, 0, none⟩) 1 1) rfl rfl (hap' 95) ?_) | (refine wpList_load_row rfl _ _ rfl (b3 + 1) rfl 113 Cp (0, 0) _ (unhide HB7).2 Try.underlying113 rfl iCp ?_))
      have P14 : Hid (∀ k, k < 4 → nth l k = 14 → l.1 = 14) := fun k hk h => by
        rcases shape_parts (unhide HS) with e | e | e | e | e | e | e | e | e | e | e | e | e | e | e | e | e <;> (rw [e] at h ⊢ <;> (revert h; rcases (by omega : k = 0 ∨ k = 1 ∨ k = 2 ∨ k = 3) with rfl | rfl | rfl | rfl <;> decide))
      have N14 : Hid (l.1 = 14 → ∀ k, k < 4 → nth l k = 14 ∨ nth l k = 0) := fun h k hk => by
        rcases shape_parts (unhide HS) with e | e | e | e | e | e | e | e | e | e | e | e | e | e | e | e | e <;> (rw [e] at h ⊢ <;> (revert h; rcases (by omega : k = 0 ∨ k = 1 ∨ k = 2 ∨ k = 3) with rfl | rfl | rfl | rfl <;> decide))
      have R14 : Hid (l.1 ≠ 14 → ∀ k, k ≤ 4 → restTo f l k = f.data) := fun h k hk => by
        induction k with
        | zero => rfl
        | succ k ih =>
          show (if nth l k = 14 then _ else _) = _
          rw [if_neg (fun e => h (unhide P14 k (by omega) e))]
          exact ih (by omega)
      have FF : Hid (∀ k, k < 4 → fitsF f (nth l k) = true) := fun k hk => by
        have := unhide HM
        unfold mayF at this
        simp only [Bool.and_eq_true] at this
        obtain ⟨⟨⟨⟨q1, q2⟩, q3⟩, q4⟩, -⟩ := this
        rcases (by omega : k = 0 ∨ k = 1 ∨ k = 2 ∨ k = 3) with rfl | rfl | rfl | rfl
        · exact q1
        · exact q2
        · exact q3
        · exact q4
      have F14 : Hid (∀ k, k < 4 → nth l k = 14 → 1 ≤ f.size ∧ f.size ≤ 65535) := fun k hk h => by
        have := unhide FF k hk
        rw [h] at this
        have e : fitsF f 14 = numb (f.size - 1) 65534 := rfl
        rw [e] at this
        unfold numb at this
        simp only [Bool.and_eq_true, decide_eq_true_eq] at this
        omega
      have F9 : Hid (∀ k, k < 4 → nth l k = 9 → areF f.runs = true) := fun k hk h => by
        have := unhide FF k hk
        rw [h] at this
        exact this
      have F8 : Hid (∀ k, k < 4 → nth l k = 8 → f.runs ≠ []) := fun k hk h => by
        have h2 : nth l 2 = 9 := by
          rcases shape_parts (unhide HS) with e | e | e | e | e | e | e | e | e | e | e | e | e | e | e | e | e <;> (rw [e] at h ⊢ <;> (revert h; rcases (by omega : k = 0 ∨ k = 1 ∨ k = 2 ∨ k = 3) with rfl | rfl | rfl | rfl <;> decide))
        exact (are_mem (unhide F9 2 (by omega) h2)).1
      have lr1' : f.runs.length ≤ c2 := by rw [← unhide HNR]; exact lr1
      clear FF
      go_loopw [9, 10, 42] (fun v s i wr => ∃ k : Nat, k ≤ 4 ∧ i = .int .i64 k ∧ Hid (TI w C (typeF f :: numsTo f l k) (restTo f l k) v s wr ∧ (l.1 ≠ 14 → s = .slice a1 nd c1))) (fun _ _ i _ => 4 - (intOf i).toNat)
      case atStart => exact ⟨0, by omega, rfl, unhide T0, fun _ => rfl⟩
      case round =>
      obtain ⟨k, hk4, rfl, H⟩ := hrel
      clear T0 HB7 cd7 hap' hmk cr cd
      by_cases hlt : k < 4
      · have kI : (k : Int) < 4 := by omega
        have CL := unhide HCL wr (unhide H).1.blk
        obtain ⟨va, vc, rfl, -, -, -⟩ := (unhide H).1.own.at
        obtain ⟨m, hmm⟩ : ∃ m, m = (typeF f :: numsTo f l k).length := ⟨_, rfl⟩
        rw [← hmm] at H ⊢
        have hmm2 : m = (numsTo f l k).length + 1 := by rw [hmm]; rfl
        have hq14 := nth_le (unhide HS) k
        obtain ⟨q, hq⟩ : ∃ q, q = nth l k := ⟨_, rfl⟩
        rw [← hq] at hq14
        rcases (by omega : q = 0 ∨ q = 1 ∨ q = 2 ∨ q = 3 ∨ q = 4 ∨ q = 5 ∨ q = 6 ∨ q = 7 ∨ q = 8 ∨ q = 9 ∨ q = 10 ∨ q = 11 ∨ q = 12 ∨ q = 13 ∨ q = 14) with rfl | rfl | rfl | rfl | rfl | rfl | rfl | rfl | rfl | rfl | rfl | rfl | rfl | rfl | rfl
        · -- part 0
          have ik : ∀ W, (Instr.index 113 (.agg Cp) (.int .i64 (k : Int))).run Try.prog W = .ok (.int .i64 0) W := fun W => by have := unhide hix k hlt W; rw [← hq] at this; exact this
          have eN : numsTo f l (k + 1) = numsTo f l k ++ numsP f 0 := by show numsTo f l k ++ numsP f (nth l k) = _; rw [← hq]
          have eR : restTo f l (k + 1) = restTo f l k := by show (if nth l k = 14 then _ else _) = _; rw [← hq]; rfl
          have E : Hid (TI w C (typeF f :: numsTo f l (k + 1)) (restTo f l (k + 1)) (.slice va m vc) u10 wr ∧ (l.1 ≠ 14 → u10 = .slice a1 nd c1)) := by rw [eN, eR, show numsP f 0 = [] from rfl, List.append_nil]; exact unhide H
          clear H eN eR hix hq CL hmm hmm2
          go_wp2_with fail
          exact ⟨⟨k + 1, by omega, by go_num, unhide E⟩, by simp [intOf]; omega⟩
        · -- part 1
          have ik : ∀ W, (Instr.index 113 (.agg Cp) (.int .i64 (k : Int))).run Try.prog W = .ok (.int .i64 1) W := fun W => by have := unhide hix k hlt W; rw [← hq] at this; exact this
          have eN : numsTo f l (k + 1) = numsTo f l k ++ numsP f 1 := by show numsTo f l k ++ numsP f (nth l k) = _; rw [← hq]
          have eR : restTo f l (k + 1) = restTo f l k := by show (if nth l k = 14 then _ else _) = _; rw [← hq]; rfl
          have hn14 : l.1 ≠ 14 := fun e => by have := unhide N14 e k hlt; rw [← hq] at this; omega
          have hu := (unhide H).2 hn14
          have eD : restTo f l k = f.data := unhide R14 hn14 k (by omega)
          have hlen : m ≤ 9 + 2 * nr - (numsP f 1).length := by
            have h1 := numsTo_mono f l (k + 1) 4 (by omega)
            rw [eN, List.length_append] at h1
            have := unhide HTOT
            omega
          obtain ⟨a4, c4', W', hap, o', g', gr'⟩ := app_int1 (f.stream) (unhide H).1.own (unhide H).1.gr (by rw [← hmm]; have e9 : (numsP f 1).length = 1 := rfl; omega)
          rw [← hmm] at hap o'
          have ko' := (KO.grown (World.grownBy_alloc wr (.cells #[.int .i64 (f.stream)] 2) none)).trans (((unhide H).1.own.keep (World.grownBy_alloc wr _ none)).ko gr')
          have E : Hid (TI w C (typeF f :: numsTo f l (k + 1)) (restTo f l (k + 1)) (.slice a4 (m + 1) c4') u10 W' ∧ (l.1 ≠ 14 → u10 = .slice a1 nd c1)) := by
            have eX : numsP f 1 = [f.stream] := rfl
            rw [eN, eR, eD, hu, eX]
            exact ⟨⟨o', (unhide HD0).keep g', ko' _ _ _ (by decide) (unhide H).1.blk, g'⟩, fun _ => rfl⟩
          have cf := CL.2.1.1
          have hfi : ∀ W, Calls Try.prog 71 #[.pointer (some ⟨w.heap.size, 0, none⟩), .int .i64 1] W fun e w' => e = .returned (.pointer (some ⟨w.heap.size, 1, none⟩)) ∧ w' = W := fun W => field_any _ 1 W (by omega)
          clear H eN eR hix hq hu eD hlen CL o' g' gr' ko' hmm hmm2
          go_wp2_with (first | (go_at_call 71; refine (hfi _).mono ?_; rintro e W1 ⟨rfl, hw⟩; replace hw := hw.symm; subst hw) | (at_builtin; refine wpList_append_run _ rfl (Operand.tmp 46) (Operand.tmp 51) 95 95 rfl (.slice va m vc) (.slice (some ⟨wr.heap.size, 0, none⟩) 1 1) rfl rfl (hap 95) ?_))
          exact ⟨⟨k + 1, by omega, by go_num, unhide E⟩, by simp [intOf]; omega⟩
        · -- part 2
          have ik : ∀ W, (Instr.index 113 (.agg Cp) (.int .i64 (k : Int))).run Try.prog W = .ok (.int .i64 2) W := fun W => by have := unhide hix k hlt W; rw [← hq] at this; exact this
          have eN : numsTo f l (k + 1) = numsTo f l k ++ numsP f 2 := by show numsTo f l k ++ numsP f (nth l k) = _; rw [← hq]
          have eR : restTo f l (k + 1) = restTo f l k := by show (if nth l k = 14 then _ else _) = _; rw [← hq]; rfl
          have hn14 : l.1 ≠ 14 := fun e => by have := unhide N14 e k hlt; rw [← hq] at this; omega
          have hu := (unhide H).2 hn14
          have eD : restTo f l k = f.data := unhide R14 hn14 k (by omega)
          have hlen : m ≤ 9 + 2 * nr - (numsP f 2).length := by
            have h1 := numsTo_mono f l (k + 1) 4 (by omega)
            rw [eN, List.length_append] at h1
            have := unhide HTOT
            omega
          obtain ⟨a4, c4', W', hap, o', g', gr'⟩ := app_int1 (f.offset) (unhide H).1.own (unhide H).1.gr (by rw [← hmm]; have e9 : (numsP f 2).length = 1 := rfl; omega)
          rw [← hmm] at hap o'
          have ko' := (KO.grown (World.grownBy_alloc wr (.cells #[.int .i64 (f.offset)] 2) none)).trans (((unhide H).1.own.keep (World.grownBy_alloc wr _ none)).ko gr')
          have E : Hid (TI w C (typeF f :: numsTo f l (k + 1)) (restTo f l (k + 1)) (.slice a4 (m + 1) c4') u10 W' ∧ (l.1 ≠ 14 → u10 = .slice a1 nd c1)) := by
            have eX : numsP f 2 = [f.offset] := rfl
            rw [eN, eR, eD, hu, eX]
            exact ⟨⟨o', (unhide HD0).keep g', ko' _ _ _ (by decide) (unhide H).1.blk, g'⟩, fun _ => rfl⟩
          have cf := CL.2.1.2.1
          have hfi : ∀ W, Calls Try.prog 71 #[.pointer (some ⟨w.heap.size, 0, none⟩), .int .i64 2] W fun e w' => e = .returned (.pointer (some ⟨w.heap.size, 2, none⟩)) ∧ w' = W := fun W => field_any _ 2 W (by omega)
          clear H eN eR hix hq hu eD hlen CL o' g' gr' ko' hmm hmm2
          go_wp2_with (first | (go_at_call 71; refine (hfi _).mono ?_; rintro e W1 ⟨rfl, hw⟩; replace hw := hw.symm; subst hw) | (at_builtin; refine wpList_append_run _ rfl (Operand.tmp 46) (Operand.tmp 51) 95 95 rfl (.slice va m vc) (.slice (some ⟨wr.heap.size, 0, none⟩) 1 1) rfl rfl (hap 95) ?_))
          exact ⟨⟨k + 1, by omega, by go_num, unhide E⟩, by simp [intOf]; omega⟩
        · -- part 3
          have ik : ∀ W, (Instr.index 113 (.agg Cp) (.int .i64 (k : Int))).run Try.prog W = .ok (.int .i64 3) W := fun W => by have := unhide hix k hlt W; rw [← hq] at this; exact this
          have eN : numsTo f l (k + 1) = numsTo f l k ++ numsP f 3 := by show numsTo f l k ++ numsP f (nth l k) = _; rw [← hq]
          have eR : restTo f l (k + 1) = restTo f l k := by show (if nth l k = 14 then _ else _) = _; rw [← hq]; rfl
          have hn14 : l.1 ≠ 14 := fun e => by have := unhide N14 e k hlt; rw [← hq] at this; omega
          have hu := (unhide H).2 hn14
          have eD : restTo f l k = f.data := unhide R14 hn14 k (by omega)
          have hlen : m ≤ 9 + 2 * nr - (numsP f 3).length := by
            have h1 := numsTo_mono f l (k + 1) 4 (by omega)
            rw [eN, List.length_append] at h1
            have := unhide HTOT
            omega
          obtain ⟨a4, c4', W', hap, o', g', gr'⟩ := app_int1 (f.limit) (unhide H).1.own (unhide H).1.gr (by rw [← hmm]; have e9 : (numsP f 3).length = 1 := rfl; omega)
          rw [← hmm] at hap o'
          have ko' := (KO.grown (World.grownBy_alloc wr (.cells #[.int .i64 (f.limit)] 2) none)).trans (((unhide H).1.own.keep (World.grownBy_alloc wr _ none)).ko gr')
          have E : Hid (TI w C (typeF f :: numsTo f l (k + 1)) (restTo f l (k + 1)) (.slice a4 (m + 1) c4') u10 W' ∧ (l.1 ≠ 14 → u10 = .slice a1 nd c1)) := by
            have eX : numsP f 3 = [f.limit] := rfl
            rw [eN, eR, eD, hu, eX]
            exact ⟨⟨o', (unhide HD0).keep g', ko' _ _ _ (by decide) (unhide H).1.blk, g'⟩, fun _ => rfl⟩
          have cf := CL.2.1.2.2.2.1
          have hfi : ∀ W, Calls Try.prog 71 #[.pointer (some ⟨w.heap.size, 0, none⟩), .int .i64 3] W fun e w' => e = .returned (.pointer (some ⟨w.heap.size, 7, none⟩)) ∧ w' = W := fun W => field_any _ 3 W (by omega)
          clear H eN eR hix hq hu eD hlen CL o' g' gr' ko' hmm hmm2
          go_wp2_with (first | (go_at_call 71; refine (hfi _).mono ?_; rintro e W1 ⟨rfl, hw⟩; replace hw := hw.symm; subst hw) | (at_builtin; refine wpList_append_run _ rfl (Operand.tmp 46) (Operand.tmp 51) 95 95 rfl (.slice va m vc) (.slice (some ⟨wr.heap.size, 0, none⟩) 1 1) rfl rfl (hap 95) ?_))
          exact ⟨⟨k + 1, by omega, by go_num, unhide E⟩, by simp [intOf]; omega⟩
        · -- part 4
          have ik : ∀ W, (Instr.index 113 (.agg Cp) (.int .i64 (k : Int))).run Try.prog W = .ok (.int .i64 4) W := fun W => by have := unhide hix k hlt W; rw [← hq] at this; exact this
          have eN : numsTo f l (k + 1) = numsTo f l k ++ numsP f 4 := by show numsTo f l k ++ numsP f (nth l k) = _; rw [← hq]
          have eR : restTo f l (k + 1) = restTo f l k := by show (if nth l k = 14 then _ else _) = _; rw [← hq]; rfl
          have hn14 : l.1 ≠ 14 := fun e => by have := unhide N14 e k hlt; rw [← hq] at this; omega
          have hu := (unhide H).2 hn14
          have eD : restTo f l k = f.data := unhide R14 hn14 k (by omega)
          have hlen : m ≤ 9 + 2 * nr - (numsP f 4).length := by
            have h1 := numsTo_mono f l (k + 1) 4 (by omega)
            rw [eN, List.length_append] at h1
            have := unhide HTOT
            omega
          obtain ⟨a4, c4', W', hap, o', g', gr'⟩ := app_int1 (f.limit) (unhide H).1.own (unhide H).1.gr (by rw [← hmm]; have e9 : (numsP f 4).length = 1 := rfl; omega)
          rw [← hmm] at hap o'
          have ko' := (KO.grown (World.grownBy_alloc wr (.cells #[.int .i64 (f.limit)] 2) none)).trans (((unhide H).1.own.keep (World.grownBy_alloc wr _ none)).ko gr')
          have E : Hid (TI w C (typeF f :: numsTo f l (k + 1)) (restTo f l (k + 1)) (.slice a4 (m + 1) c4') u10 W' ∧ (l.1 ≠ 14 → u10 = .slice a1 nd c1)) := by
            have eX : numsP f 4 = [f.limit] := rfl
            rw [eN, eR, eD, hu, eX]
            exact ⟨⟨o', (unhide HD0).keep g', ko' _ _ _ (by decide) (unhide H).1.blk, g'⟩, fun _ => rfl⟩
          have cf := CL.2.1.2.2.2.1
          have hfi : ∀ W, Calls Try.prog 71 #[.pointer (some ⟨w.heap.size, 0, none⟩), .int .i64 4] W fun e w' => e = .returned (.pointer (some ⟨w.heap.size, 7, none⟩)) ∧ w' = W := fun W => field_any _ 4 W (by omega)
          clear H eN eR hix hq hu eD hlen CL o' g' gr' ko' hmm hmm2
          go_wp2_with (first | (go_at_call 71; refine (hfi _).mono ?_; rintro e W1 ⟨rfl, hw⟩; replace hw := hw.symm; subst hw) | (at_builtin; refine wpList_append_run _ rfl (Operand.tmp 46) (Operand.tmp 51) 95 95 rfl (.slice va m vc) (.slice (some ⟨wr.heap.size, 0, none⟩) 1 1) rfl rfl (hap 95) ?_))
          exact ⟨⟨k + 1, by omega, by go_num, unhide E⟩, by simp [intOf]; omega⟩
        · -- part 5
          have ik : ∀ W, (Instr.index 113 (.agg Cp) (.int .i64 (k : Int))).run Try.prog W = .ok (.int .i64 5) W := fun W => by have := unhide hix k hlt W; rw [← hq] at this; exact this
          have eN : numsTo f l (k + 1) = numsTo f l k ++ numsP f 5 := by show numsTo f l k ++ numsP f (nth l k) = _; rw [← hq]
          have eR : restTo f l (k + 1) = restTo f l k := by show (if nth l k = 14 then _ else _) = _; rw [← hq]; rfl
          have hn14 : l.1 ≠ 14 := fun e => by have := unhide N14 e k hlt; rw [← hq] at this; omega
          have hu := (unhide H).2 hn14
          have eD : restTo f l k = f.data := unhide R14 hn14 k (by omega)
          have hlen : m ≤ 9 + 2 * nr - (numsP f 5).length := by
            have h1 := numsTo_mono f l (k + 1) 4 (by omega)
            rw [eN, List.length_append] at h1
            have := unhide HTOT
            omega
          obtain ⟨a4, c4', W', hap, o', g', gr'⟩ := app_int1 (f.code) (unhide H).1.own (unhide H).1.gr (by rw [← hmm]; have e9 : (numsP f 5).length = 1 := rfl; omega)
          rw [← hmm] at hap o'
          have ko' := (KO.grown (World.grownBy_alloc wr (.cells #[.int .i64 (f.code)] 2) none)).trans (((unhide H).1.own.keep (World.grownBy_alloc wr _ none)).ko gr')
          have E : Hid (TI w C (typeF f :: numsTo f l (k + 1)) (restTo f l (k + 1)) (.slice a4 (m + 1) c4') u10 W' ∧ (l.1 ≠ 14 → u10 = .slice a1 nd c1)) := by
            have eX : numsP f 5 = [f.code] := rfl
            rw [eN, eR, eD, hu, eX]
            exact ⟨⟨o', (unhide HD0).keep g', ko' _ _ _ (by decide) (unhide H).1.blk, g'⟩, fun _ => rfl⟩
          have cf := CL.2.1.2.2.2.2.1
          have hfi : ∀ W, Calls Try.prog 71 #[.pointer (some ⟨w.heap.size, 0, none⟩), .int .i64 5] W fun e w' => e = .returned (.pointer (some ⟨w.heap.size, 9, none⟩)) ∧ w' = W := fun W => field_any _ 5 W (by omega)
          clear H eN eR hix hq hu eD hlen CL o' g' gr' ko' hmm hmm2
          go_wp2_with (first | (go_at_call 71; refine (hfi _).mono ?_; rintro e W1 ⟨rfl, hw⟩; replace hw := hw.symm; subst hw) | (at_builtin; refine wpList_append_run _ rfl (Operand.tmp 46) (Operand.tmp 51) 95 95 rfl (.slice va m vc) (.slice (some ⟨wr.heap.size, 0, none⟩) 1 1) rfl rfl (hap 95) ?_))
          exact ⟨⟨k + 1, by omega, by go_num, unhide E⟩, by simp [intOf]; omega⟩
        · -- part 6
          have ik : ∀ W, (Instr.index 113 (.agg Cp) (.int .i64 (k : Int))).run Try.prog W = .ok (.int .i64 6) W := fun W => by have := unhide hix k hlt W; rw [← hq] at this; exact this
          have eN : numsTo f l (k + 1) = numsTo f l k ++ numsP f 6 := by show numsTo f l k ++ numsP f (nth l k) = _; rw [← hq]
          have eR : restTo f l (k + 1) = restTo f l k := by show (if nth l k = 14 then _ else _) = _; rw [← hq]; rfl
          have hn14 : l.1 ≠ 14 := fun e => by have := unhide N14 e k hlt; rw [← hq] at this; omega
          have hu := (unhide H).2 hn14
          have eD : restTo f l k = f.data := unhide R14 hn14 k (by omega)
          have hlen : m ≤ 9 + 2 * nr - (numsP f 6).length := by
            have h1 := numsTo_mono f l (k + 1) 4 (by omega)
            rw [eN, List.length_append] at h1
            have := unhide HTOT
            omega
          obtain ⟨a4, c4', W', hap, o', g', gr'⟩ := app_int1 (f.size) (unhide H).1.own (unhide H).1.gr (by rw [← hmm]; have e9 : (numsP f 6).length = 1 := rfl; omega)
          rw [← hmm] at hap o'
          have ko' := (KO.grown (World.grownBy_alloc wr (.cells #[.int .i64 (f.size)] 2) none)).trans (((unhide H).1.own.keep (World.grownBy_alloc wr _ none)).ko gr')
          have E : Hid (TI w C (typeF f :: numsTo f l (k + 1)) (restTo f l (k + 1)) (.slice a4 (m + 1) c4') u10 W' ∧ (l.1 ≠ 14 → u10 = .slice a1 nd c1)) := by
            have eX : numsP f 6 = [f.size] := rfl
            rw [eN, eR, eD, hu, eX]
            exact ⟨⟨o', (unhide HD0).keep g', ko' _ _ _ (by decide) (unhide H).1.blk, g'⟩, fun _ => rfl⟩
          have cf := CL.2.1.2.2.1
          have hfi : ∀ W, Calls Try.prog 71 #[.pointer (some ⟨w.heap.size, 0, none⟩), .int .i64 6] W fun e w' => e = .returned (.pointer (some ⟨w.heap.size, 4, none⟩)) ∧ w' = W := fun W => field_any _ 6 W (by omega)
          clear H eN eR hix hq hu eD hlen CL o' g' gr' ko' hmm hmm2
          go_wp2_with (first | (go_at_call 71; refine (hfi _).mono ?_; rintro e W1 ⟨rfl, hw⟩; replace hw := hw.symm; subst hw) | (at_builtin; refine wpList_append_run _ rfl (Operand.tmp 46) (Operand.tmp 51) 95 95 rfl (.slice va m vc) (.slice (some ⟨wr.heap.size, 0, none⟩) 1 1) rfl rfl (hap 95) ?_))
          exact ⟨⟨k + 1, by omega, by go_num, unhide E⟩, by simp [intOf]; omega⟩
        · -- part 7
          have ik : ∀ W, (Instr.index 113 (.agg Cp) (.int .i64 (k : Int))).run Try.prog W = .ok (.int .i64 7) W := fun W => by have := unhide hix k hlt W; rw [← hq] at this; exact this
          have eN : numsTo f l (k + 1) = numsTo f l k ++ numsP f 7 := by show numsTo f l k ++ numsP f (nth l k) = _; rw [← hq]
          have eR : restTo f l (k + 1) = restTo f l k := by show (if nth l k = 14 then _ else _) = _; rw [← hq]; rfl
          have hn14 : l.1 ≠ 14 := fun e => by have := unhide N14 e k hlt; rw [← hq] at this; omega
          have hu := (unhide H).2 hn14
          have eD : restTo f l k = f.data := unhide R14 hn14 k (by omega)
          have hlen : m ≤ 9 + 2 * nr - (numsP f 7).length := by
            have h1 := numsTo_mono f l (k + 1) 4 (by omega)
            rw [eN, List.length_append] at h1
            have := unhide HTOT
            omega
          obtain ⟨a4, c4', W', hap, o', g', gr'⟩ := app_int1 (f.delay) (unhide H).1.own (unhide H).1.gr (by rw [← hmm]; have e9 : (numsP f 7).length = 1 := rfl; omega)
          rw [← hmm] at hap o'
          have ko' := (KO.grown (World.grownBy_alloc wr (.cells #[.int .i64 (f.delay)] 2) none)).trans (((unhide H).1.own.keep (World.grownBy_alloc wr _ none)).ko gr')
          have E : Hid (TI w C (typeF f :: numsTo f l (k + 1)) (restTo f l (k + 1)) (.slice a4 (m + 1) c4') u10 W' ∧ (l.1 ≠ 14 → u10 = .slice a1 nd c1)) := by
            have eX : numsP f 7 = [f.delay] := rfl
            rw [eN, eR, eD, hu, eX]
            exact ⟨⟨o', (unhide HD0).keep g', ko' _ _ _ (by decide) (unhide H).1.blk, g'⟩, fun _ => rfl⟩
          have cf := CL.2.1.2.2.2.2.2
          have hfi : ∀ W, Calls Try.prog 71 #[.pointer (some ⟨w.heap.size, 0, none⟩), .int .i64 7] W fun e w' => e = .returned (.pointer (some ⟨w.heap.size, 11, none⟩)) ∧ w' = W := fun W => field_any _ 7 W (by omega)
          clear H eN eR hix hq hu eD hlen CL o' g' gr' ko' hmm hmm2
          go_wp2_with (first | (go_at_call 71; refine (hfi _).mono ?_; rintro e W1 ⟨rfl, hw⟩; replace hw := hw.symm; subst hw) | (at_builtin; refine wpList_append_run _ rfl (Operand.tmp 46) (Operand.tmp 51) 95 95 rfl (.slice va m vc) (.slice (some ⟨wr.heap.size, 0, none⟩) 1 1) rfl rfl (hap 95) ?_))
          exact ⟨⟨k + 1, by omega, by go_num, unhide E⟩, by simp [intOf]; omega⟩
        · -- part 8
          have ik : ∀ W, (Instr.index 113 (.agg Cp) (.int .i64 (k : Int))).run Try.prog W = .ok (.int .i64 8) W := fun W => by have := unhide hix k hlt W; rw [← hq] at this; exact this
          have eN : numsTo f l (k + 1) = numsTo f l k ++ numsP f 8 := by show numsTo f l k ++ numsP f (nth l k) = _; rw [← hq]
          have eR : restTo f l (k + 1) = restTo f l k := by show (if nth l k = 14 then _ else _) = _; rw [← hq]; rfl
          have hn14 : l.1 ≠ 14 := fun e => by have := unhide N14 e k hlt; rw [← hq] at this; omega
          have hu := (unhide H).2 hn14
          have eD : restTo f l k = f.data := unhide R14 hn14 k (by omega)
          have hlen : m ≤ 9 + 2 * nr - (numsP f 8).length := by
            have h1 := numsTo_mono f l (k + 1) 4 (by omega)
            rw [eN, List.length_append] at h1
            have := unhide HTOT
            omega
          obtain ⟨a4, c4', W', hap, o', g', gr'⟩ := app_int1 ((f.runs.headD (0, 0)).2) (unhide H).1.own (unhide H).1.gr (by rw [← hmm]; have e9 : (numsP f 8).length = 1 := rfl; omega)
          rw [← hmm] at hap o'
          have ko' := (KO.grown (World.grownBy_alloc wr (.cells #[.int .i64 ((f.runs.headD (0, 0)).2)] 2) none)).trans (((unhide H).1.own.keep (World.grownBy_alloc wr _ none)).ko gr')
          have E : Hid (TI w C (typeF f :: numsTo f l (k + 1)) (restTo f l (k + 1)) (.slice a4 (m + 1) c4') u10 W' ∧ (l.1 ≠ 14 → u10 = .slice a1 nd c1)) := by
            have eX : numsP f 8 = [(f.runs.headD (0, 0)).2] := rfl
            rw [eN, eR, eD, hu, eX]
            exact ⟨⟨o', (unhide HD0).keep g', ko' _ _ _ (by decide) (unhide H).1.blk, g'⟩, fun _ => rfl⟩
          have hne := unhide F8 k hlt hq.symm
          obtain ⟨b, off, rfl, hcs⟩ := unhide HRR hne
          have c8 : wr.cell? ⟨b, off + 1, none⟩ = some (.int .i64 (f.runs.headD (0, 0)).2) := by
            have hp : 0 < f.runs.length := List.length_pos_iff.2 hne
            have := cell_grown (hcs 0 hp).2 (unhide H).1.gr
            simp only [Nat.zero_mul, Nat.add_zero] at this
            rw [this]
            cases hr0 : f.runs with
            | nil => exact absurd hr0 hne
            | cons s t => rfl
          have cr8 := CL.1.2
          have n8 : (0 : Int) < (nr : Int) := by have : 0 < f.runs.length := List.length_pos_iff.2 hne; have := unhide HNR; omega
          generalize (f.runs.headD (0, 0)).2 = x8 at *
          clear hcs hne
          clear H eN eR hix hq hu eD hlen CL o' g' gr' ko' hmm hmm2
          go_wp2_with (first | (at_builtin; refine wpList_append_run _ rfl (Operand.tmp 65) (Operand.tmp 71) 95 95 rfl (.slice va m vc) (.slice (some ⟨wr.heap.size, 0, none⟩) 1 1) rfl rfl (hap 95) ?_))
          exact ⟨⟨k + 1, by omega, by go_num, unhide E⟩, by simp [intOf]; omega⟩
        · -- part 9
          have ik : ∀ W, (Instr.index 113 (.agg Cp) (.int .i64 (k : Int))).run Try.prog W = .ok (.int .i64 9) W := fun W => by have := unhide hix k hlt W; rw [← hq] at this; exact this
          have eN : numsTo f l (k + 1) = numsTo f l k ++ numsP f 9 := by show numsTo f l k ++ numsP f (nth l k) = _; rw [← hq]
          have eR : restTo f l (k + 1) = restTo f l k := by show (if nth l k = 14 then _ else _) = _; rw [← hq]; rfl
          have hn14 : l.1 ≠ 14 := fun e => by have := unhide N14 e k hlt; rw [← hq] at this; omega
          have hu := (unhide H).2 hn14
          have eD : restTo f l k = f.data := unhide R14 hn14 k (by omega)
          have hlen : m ≤ 9 + 2 * nr - (numsP f 9).length := by
            have h1 := numsTo_mono f l (k + 1) 4 (by omega)
            rw [eN, List.length_append] at h1
            have := unhide HTOT
            omega
          have hru := unhide F9 k hlt hq.symm
          have hca := appendRuns_any (w0 := w) (w := wr) (unhide H).1.own (unhide H).1.gr (unhide HRR) hru ⟨lr1', lr2⟩ (by rw [← hmm]; have := (runsN_len f.runs); have e9 : (numsP f 9) = runsN f.runs := rfl; rw [e9] at hlen; have := runsN_pos hru; omega)
          rw [← unhide HNR] at hca
          have FIN : Hid (∀ v' W', OwnI w.heap.size W' v' ((typeF f :: numsTo f l k) ++ runsN f.runs) → w.grownBy W' none → KO wr W' → TI w C (typeF f :: numsTo f l (k + 1)) (restTo f l (k + 1)) v' u10 W' ∧ (l.1 ≠ 14 → u10 = .slice a1 nd c1)) := fun v' W' o' g' ko' => by
            rw [eN, eR, eD, hu]
            exact ⟨⟨o', (unhide HD0).keep g', ko' _ _ _ (by decide) (unhide H).1.blk, g'⟩, fun _ => rfl⟩
          have HU := hide hu
          have cr9 := CL.1.2
          clear H eN eR hix hq hu eD hlen hru CL hmm hmm2
          go_wp2_with (go_at_call 70; refine hca.mono ?_; rintro e W' ⟨v', rfl, o', g', ko'⟩; obtain ⟨vb, vn, vd, rfl⟩ : ∃ a n c, v' = .slice a n c := (by obtain ⟨q1, q2, q3, -⟩ := o'.at; exact ⟨q1, _, q2, q3⟩))
          have E := hide (unhide FIN _ _ o' g' ko')
          clear FIN
          exact ⟨⟨k + 1, by omega, by go_num, unhide E⟩, by simp [intOf]; omega⟩
        · -- part 10
          have ik : ∀ W, (Instr.index 113 (.agg Cp) (.int .i64 (k : Int))).run Try.prog W = .ok (.int .i64 10) W := fun W => by have := unhide hix k hlt W; rw [← hq] at this; exact this
          have eN : numsTo f l (k + 1) = numsTo f l k ++ numsP f 10 := by show numsTo f l k ++ numsP f (nth l k) = _; rw [← hq]
          have eR : restTo f l (k + 1) = restTo f l k := by show (if nth l k = 14 then _ else _) = _; rw [← hq]; rfl
          have hn14 : l.1 ≠ 14 := fun e => by have := unhide N14 e k hlt; rw [← hq] at this; omega
          have hu := (unhide H).2 hn14
          have eD : restTo f l k = f.data := unhide R14 hn14 k (by omega)
          have hlen : m ≤ 9 + 2 * nr - (numsP f 10).length := by
            have h1 := numsTo_mono f l (k + 1) 4 (by omega)
            rw [eN, List.length_append] at h1
            have := unhide HTOT
            omega
          obtain ⟨a4, c4', W', hap, o', g', gr'⟩ := app_ints (xs := [f.c0, f.c1, f.c2]) ⟨w.heap.size, 14, none⟩ 3 3 (unhide H).1.own (unhide H).1.gr rfl (by omega) (fun j x hj => by
            match j, hj with
            | 0, hj => cases hj; exact CL.2.2.1
            | 1, hj => cases hj; exact CL.2.2.2.1
            | 2, hj => cases hj; exact CL.2.2.2.2) (by rw [← hmm]; have e9 : (numsP f 10).length = 3 := rfl; omega)
          rw [← hmm] at hap o'
          have ko' := (unhide H).1.own.ko gr'
          have E : Hid (TI w C (typeF f :: numsTo f l (k + 1)) (restTo f l (k + 1)) (.slice a4 (m + 3) c4') u10 W' ∧ (l.1 ≠ 14 → u10 = .slice a1 nd c1)) := by
            rw [eN, eR, eD, hu]
            exact ⟨⟨o', (unhide HD0).keep g', ko' _ _ _ (by decide) (unhide H).1.blk, g'⟩, fun _ => rfl⟩
          clear H eN eR hix hq hu eD hlen CL o' g' gr' ko' hmm hmm2
          go_wp2_with (at_builtin; refine wpList_append_run _ rfl (Operand.tmp 81) (Operand.tmp 83) 95 95 rfl (.slice va m vc) (.slice (some ⟨w.heap.size, 14, none⟩) 3 3) rfl rfl (hap 95) ?_)
          exact ⟨⟨k + 1, by omega, by go_num, unhide E⟩, by simp [intOf]; omega⟩
        · -- part 11
          have ik : ∀ W, (Instr.index 113 (.agg Cp) (.int .i64 (k : Int))).run Try.prog W = .ok (.int .i64 11) W := fun W => by have := unhide hix k hlt W; rw [← hq] at this; exact this
          have eN : numsTo f l (k + 1) = numsTo f l k ++ numsP f 11 := by show numsTo f l k ++ numsP f (nth l k) = _; rw [← hq]
          have eR : restTo f l (k + 1) = restTo f l k := by show (if nth l k = 14 then _ else _) = _; rw [← hq]; rfl
          have hn14 : l.1 ≠ 14 := fun e => by have := unhide N14 e k hlt; rw [← hq] at this; omega
          have hu := (unhide H).2 hn14
          have eD : restTo f l k = f.data := unhide R14 hn14 k (by omega)
          have hlen : m ≤ 9 + 2 * nr - (numsP f 11).length := by
            have h1 := numsTo_mono f l (k + 1) 4 (by omega)
            rw [eN, List.length_append] at h1
            have := unhide HTOT
            omega
          obtain ⟨a4, c4', W', hap, o', g', gr'⟩ := app_int1 (((nd : Nat) : Int)) (unhide H).1.own (unhide H).1.gr (by rw [← hmm]; have e9 : (numsP f 11).length = 1 := rfl; omega)
          rw [← hmm] at hap o'
          have ko' := (KO.grown (World.grownBy_alloc wr (.cells #[.int .i64 (((nd : Nat) : Int))] 2) none)).trans (((unhide H).1.own.keep (World.grownBy_alloc wr _ none)).ko gr')
          have E : Hid (TI w C (typeF f :: numsTo f l (k + 1)) (restTo f l (k + 1)) (.slice a4 (m + 1) c4') u10 W' ∧ (l.1 ≠ 14 → u10 = .slice a1 nd c1)) := by
            have eX : numsP f 11 = [((nd : Nat) : Int)] := by rw [unhide HND]; rfl
            rw [eN, eR, eD, hu, eX]
            exact ⟨⟨o', (unhide HD0).keep g', ko' _ _ _ (by decide) (unhide H).1.blk, g'⟩, fun _ => rfl⟩
          have cd11 := CL.1.1
          clear H eN eR hix hq hu eD hlen CL o' g' gr' ko' hmm hmm2
          go_wp2_with (first | (at_builtin; refine wpList_append_run _ rfl (Operand.tmp 87) (Operand.tmp 91) 95 95 rfl (.slice va m vc) (.slice (some ⟨wr.heap.size, 0, none⟩) 1 1) rfl rfl (hap 95) ?_))
          exact ⟨⟨k + 1, by omega, by go_num, unhide E⟩, by simp [intOf]; omega⟩
        · -- part 12
          have ik : ∀ W, (Instr.index 113 (.agg Cp) (.int .i64 (k : Int))).run Try.prog W = .ok (.int .i64 12) W := fun W => by have := unhide hix k hlt W; rw [← hq] at this; exact this
          have eN : numsTo f l (k + 1) = numsTo f l k ++ numsP f 12 := by show numsTo f l k ++ numsP f (nth l k) = _; rw [← hq]
          have eR : restTo f l (k + 1) = restTo f l k := by show (if nth l k = 14 then _ else _) = _; rw [← hq]; rfl
          have E : Hid (TI w C (typeF f :: numsTo f l (k + 1)) (restTo f l (k + 1)) (.slice va m vc) u10 wr ∧ (l.1 ≠ 14 → u10 = .slice a1 nd c1)) := by rw [eN, eR, show numsP f 12 = [] from rfl, List.append_nil]; exact unhide H
          clear H eN eR hix hq CL hmm hmm2
          go_wp2_with fail
          exact ⟨⟨k + 1, by omega, by go_num, unhide E⟩, by simp [intOf]; omega⟩
        · -- part 13
          have ik : ∀ W, (Instr.index 113 (.agg Cp) (.int .i64 (k : Int))).run Try.prog W = .ok (.int .i64 13) W := fun W => by have := unhide hix k hlt W; rw [← hq] at this; exact this
          have eN : numsTo f l (k + 1) = numsTo f l k ++ numsP f 13 := by show numsTo f l k ++ numsP f (nth l k) = _; rw [← hq]
          have eR : restTo f l (k + 1) = restTo f l k := by show (if nth l k = 14 then _ else _) = _; rw [← hq]; rfl
          have E : Hid (TI w C (typeF f :: numsTo f l (k + 1)) (restTo f l (k + 1)) (.slice va m vc) u10 wr ∧ (l.1 ≠ 14 → u10 = .slice a1 nd c1)) := by rw [eN, eR, show numsP f 13 = [] from rfl, List.append_nil]; exact unhide H
          clear H eN eR hix hq CL hmm hmm2
          go_wp2_with fail
          exact ⟨⟨k + 1, by omega, by go_num, unhide E⟩, by simp [intOf]; omega⟩
        · -- part 14
          have ik : ∀ W, (Instr.index 113 (.agg Cp) (.int .i64 (k : Int))).run Try.prog W = .ok (.int .i64 14) W := fun W => by have := unhide hix k hlt W; rw [← hq] at this; exact this
          have eN : numsTo f l (k + 1) = numsTo f l k ++ numsP f 14 := by show numsTo f l k ++ numsP f (nth l k) = _; rw [← hq]
          have hz := unhide F14 k hlt hq.symm
          obtain ⟨n, hn⟩ : ∃ n : Nat, f.size - 1 = (n : Int) := ⟨(f.size - 1).toNat, by omega⟩
          have wz : IntKind.i64.wrap (f.size - 1) = (n : Int) := by rw [IntKind.wrap_i64]; omega
          have wz2 : ¬ (n : Int) < 0 := by omega
          obtain ⟨cur, hmk, hrd⟩ := mk_zeros n (by omega) wr
          have eR : restTo f l (k + 1) = List.replicate n 0 := by show (if nth l k = 14 then _ else _) = _; rw [← hq, if_pos rfl, hn]; simp
          have gA := World.grownBy_alloc wr (.cells cur 5) none
          have E : Hid (TI w C (typeF f :: numsTo f l (k + 1)) (restTo f l (k + 1)) (.slice va m vc) (.slice (some ⟨wr.heap.size, 0, none⟩) n n) (wr.alloc (.cells cur 5)) ∧ (l.1 ≠ 14 → Value.slice (some ⟨wr.heap.size, 0, none⟩) n n = .slice a1 nd c1)) := by
            rw [eN, eR, show numsP f 14 = [] from rfl, List.append_nil]
            have h := (unhide H).1.keep gA
            exact ⟨⟨h.own, ⟨_, _, by rw [List.length_replicate], hrd, by simp, by omega⟩, h.blk, h.gr⟩, fun h14 => absurd (unhide P14 k hlt hq.symm) h14⟩
          have cs := CL.2.1.2.2.1
          clear H eN eR hix hz hn hrd gA hq CL hmm hmm2
          go_wp2_with (refine wpList_make_run _ rfl 27 (Operand.tmp 61) (Operand.tmp 61) rfl (.int .i64 (n : Int)) (.int .i64 (n : Int)) rfl rfl hmk ?_)
          exact ⟨⟨k + 1, by omega, by go_num, unhide E⟩, by simp [intOf]; omega⟩
      · obtain rfl : k = 4 := by omega
        have kI : ¬ ((4 : Nat) : Int) < 4 := by omega
        obtain ⟨va, vc, rfl, -, -, -⟩ := (unhide H).1.own.at
        obtain ⟨sa, sc, hsv, -⟩ := (unhide H).1.rest.ex
        have E4 : Hid (OwnI w.heap.size wr (.slice va (typeF f :: numsTo f l 4).length vc) (typeF f :: (numsP f l.1 ++ numsP f l.2.1 ++ numsP f l.2.2.1 ++ numsP f l.2.2.2)) ∧ TS wr u10 (restF f l.1 f.data) ∧ w.grownBy wr none) := by
          have h := (unhide H).1
          have e1 : restF f l.1 f.data = restTo f l 4 := by
            by_cases h14 : l.1 = 14
            · unfold restF; rw [if_pos h14]
              rcases shape_parts (unhide HS) with e | e | e | e | e | e | e | e | e | e | e | e | e | e | e | e | e <;> (rw [e] at h14 ⊢; first | rfl | (exact absurd h14 (by decide)))
            · unfold restF; rw [if_neg h14]; exact (unhide R14 h14 4 (by omega)).symm
          rw [e1]
          exact ⟨h.own, h.rest, h.gr⟩
        rw [hsv] at E4
        generalize (typeF f :: numsTo f l 4).length = m at *
        generalize (restTo f l 4).length = m2 at *
        clear H P14 N14 R14 F14 F9 F8 HCL
        subst hsv
        go_wp2_with fail
        go_ret3
        unfold TellPost
        rw [unhide HE]
        exact ⟨_, _, rfl, (unhide E4).1, (unhide E4).2.1, (unhide E4).2.2⟩
    · have hm2 : mayF f bare l = false := by simpa using hm
      rw [if_neg hm] at HE
      rw [hm2] at hmay
      clear hm hm2
      go_wp2_with (first | (refine wpList_load_row rfl _ _ rfl w.heap.size rfl 80 C (0, 0) _ (unhide HB4).1 Try.underlying80 rfl iC ?_) | (refine wpList_load_row rfl _ _ rfl b3 rfl 80 Cb (0, 0) _ (unhide HB4).2.1 Try.underlying80 rfl iCb ?_) | (refine wpList_load_row rfl _ _ rfl (b3 + 1) rfl 113 Cp (0, 0) _ (unhide HB4).2.2.1 Try.underlying113 rfl iCp ?_) | (go_at_call 69; refine (unhide hmay W4 (unhide HB4).2.2.2).mono ?_; rintro e W5 ⟨rfl, g5⟩))
      go_ret3
      unfold TellPost
      rw [unhide HE]
      exact ⟨rfl, (unhide HB4).2.2.2.trans g5⟩
  · have hk2 : isKindF f.kind = false := by simpa using hkind
    rw [hk2] at hkd
    have et : tellF f = .inr 41 := by unfold tellF; rw [if_neg hkind]
    have HE := hide et
    clear hF hD hty et hkind hk2 C17 C1 iC e1 hC B0
    go_enter Try.func50, Try.ntmps50
    go_wp2_with (first | (go_at_call 66; refine (unhide hkd _).mono ?_; rintro e W1 ⟨rfl, g1⟩))
    go_ret3
    unfold TellPost
    rw [unhide HE]
    exact ⟨rfl, g0.trans g1⟩
end Go.Proofs.Ytpcnpdippnljpaa.Kf

namespace Go.Proofs.Ytpcnpdippnljpaa.Kf
open Go.RowKit
set_option linter.unusedVariables false
set_option maxRecDepth 100000
set_option maxHeartbeats 4000000

theorem may_off {f bare : Fr} {l : Parts} (h : mayF f bare l = true) : 0 ≤ f.offset ∧ f.offset ≤ MAXN := by
  by_cases ho : 0 ≤ f.offset ∧ f.offset ≤ MAXN
  · exact ho
  · exfalso
    obtain ⟨f1, f2⟩ := fits_off f ho
    unfold mayF at h
    simp only [Bool.and_eq_true] at h
    obtain ⟨⟨⟨⟨q1, q2⟩, q3⟩, q4⟩, q5⟩ := h
    have n1 : l.1 ≠ 2 := fun e => by rw [e, f1] at q1; cases q1
    have n2 : l.2.1 ≠ 2 := fun e => by rw [e, f1] at q2; cases q2
    have n3 : l.2.2.1 ≠ 2 := fun e => by rw [e, f1] at q3; cases q3
    have n4 : l.2.2.2 ≠ 2 := fun e => by rw [e, f1] at q4; cases q4
    have h0 : (takeF (takeF (takeF (takeF f l.1) l.2.1) l.2.2.1) l.2.2.2).offset ≠ 0 := by
      rw [takeF_off _ _ n4, takeF_off _ _ n3, takeF_off _ _ n2, takeF_off _ _ n1]
      intro e; rw [e] at ho; unfold MAXN at ho; omega
    rw [bare_off _ _ h0] at q5
    cases q5

theorem take_data {f : Fr} {q : Nat} (h : q ≠ 11 ∧ q ≠ 12 ∧ q ≠ 13) : (takeF f q).data = f.data := by
  rcases (takeF_lists f q).1 with ⟨-, e⟩ | ⟨e, -⟩
  · omega
  · exact e
theorem take_runs {f : Fr} {q : Nat} (h : q ≠ 9) : (takeF f q).runs = f.runs := by
  rcases (takeF_lists f q).2 with ⟨-, e⟩ | ⟨e, -⟩
  · exact absurd e h
  · exact e

/-- No frame that may be has both lists. -/
theorem may_one {f bare : Fr} {l : Parts} {k0 : Int} (hs : shapeF k0 = some (bare, l)) (h : mayF f bare l = true) : f.runs = [] ∨ f.data = [] := by
  unfold mayF at h
  simp only [Bool.and_eq_true] at h
  obtain ⟨-, q5⟩ := h
  rw [bareF_chain] at q5
  simp only [Bool.and_eq_true] at q5
  have d0 : ((takeF (takeF (takeF (takeF f l.1) l.2.1) l.2.2.1) l.2.2.2).data.length : Int) = 0 := by simpa using q5.1.1.1.1.1.1.1.1.1.1.1.1.1
  have r0 : ((takeF (takeF (takeF (takeF f l.1) l.2.1) l.2.2.1) l.2.2.2).runs.length : Int) = 0 := by simpa using q5.1.1.1.1.1.1.1.1.1.1.1.1.2
  by_cases h9 : l.1 ≠ 9 ∧ l.2.1 ≠ 9 ∧ l.2.2.1 ≠ 9 ∧ l.2.2.2 ≠ 9
  · left
    rw [take_runs h9.2.2.2, take_runs h9.2.2.1, take_runs h9.2.1, take_runs h9.1] at r0
    exact List.length_eq_zero_iff.1 (by omega)
  · right
    have hd : (l.1 ≠ 11 ∧ l.1 ≠ 12 ∧ l.1 ≠ 13) ∧ (l.2.1 ≠ 11 ∧ l.2.1 ≠ 12 ∧ l.2.1 ≠ 13) ∧ (l.2.2.1 ≠ 11 ∧ l.2.2.1 ≠ 12 ∧ l.2.2.1 ≠ 13) ∧ (l.2.2.2 ≠ 11 ∧ l.2.2.2 ≠ 12 ∧ l.2.2.2 ≠ 13) := by
      rcases shape_parts hs with e | e | e | e | e | e | e | e | e | e | e | e | e | e | e | e | e <;> (rw [e] at h9 ⊢; revert h9; decide)
    rw [take_data hd.2.2.2, take_data hd.2.2.1, take_data hd.2.1, take_data hd.1] at d0
    exact List.length_eq_zero_iff.1 (by omega)

theorem may_runs {f bare : Fr} {l : Parts} (h : mayF f bare l = true) (h9 : l.1 ≠ 9 ∧ l.2.1 ≠ 9 ∧ l.2.2.1 ≠ 9 ∧ l.2.2.2 ≠ 9) : f.runs = [] := by
  unfold mayF at h
  simp only [Bool.and_eq_true] at h
  obtain ⟨-, q5⟩ := h
  rw [bareF_chain] at q5
  simp only [Bool.and_eq_true] at q5
  have r0 : ((takeF (takeF (takeF (takeF f l.1) l.2.1) l.2.2.1) l.2.2.2).runs.length : Int) = 0 := by simpa using q5.1.1.1.1.1.1.1.1.1.1.1.1.2
  rw [take_runs h9.2.2.2, take_runs h9.2.2.1, take_runs h9.2.1, take_runs h9.1] at r0
  exact List.length_eq_zero_iff.1 (by omega)

theorem gaps_range {lo : Int} {l : List (Int × Int)} (h : fallF (lo - 2) l = true) (hl : lo ≤ MAXN) : ∀ v ∈ gapsF lo l, 0 ≤ v ∧ v ≤ MAXN := by
  induction l generalizing lo with
  | nil => intro v hv; cases hv
  | cons r l ih =>
    simp only [fallF, Bool.and_eq_true, decide_eq_true_eq] at h
    obtain ⟨⟨⟨h1, h2⟩, h3⟩, h4⟩ := h
    intro v hv
    unfold MAXN at *
    rcases List.mem_cons.1 hv with rfl | hv
    · omega
    · rcases List.mem_cons.1 hv with rfl | hv
      · omega
      · exact ih h4 (by omega) v hv

theorem runsN_range {L : List (Int × Int)} (h : areF L = true) (hl : (L.length : Int) ≤ MAXN) : ∀ v ∈ runsN L, 0 ≤ v ∧ v ≤ MAXN := by
  cases L with
  | nil => simp [areF] at h
  | cons r l =>
    simp only [areF, fallF, Bool.and_eq_true, decide_eq_true_eq] at h
    obtain ⟨⟨⟨⟨h1, h2⟩, h3⟩, h4⟩, -⟩ := h
    intro v hv
    simp only [List.length_cons] at hl
    unfold MAXN at *
    rcases List.mem_cons.1 hv with rfl | hv
    · omega
    · rcases List.mem_cons.1 hv with rfl | hv
      · omega
      · exact gaps_range h4 (by unfold MAXN; omega) v hv

theorem numsP_range {f : Fr} {q : Nat} (hq : q ≤ 14) (hf : fitsF f q = true) (h8 : q = 8 → areF f.runs = true) (ho : 0 ≤ f.offset) (hl : (f.runs.length : Int) ≤ MAXN) : ∀ v ∈ numsP f q, 0 ≤ v ∧ v ≤ MAXN := by
  have one : ∀ x m : Int, m ≤ MAXN → numb x m = true → ∀ v ∈ [x], 0 ≤ v ∧ v ≤ MAXN := fun x m hm hn v hv => by
    obtain rfl := List.mem_singleton.1 hv
    unfold numb at hn
    simp only [Bool.and_eq_true, decide_eq_true_eq] at hn
    unfold MAXN at *; omega
  rcases (by omega : q = 0 ∨ q = 1 ∨ q = 2 ∨ q = 3 ∨ q = 4 ∨ q = 5 ∨ q = 6 ∨ q = 7 ∨ q = 8 ∨ q = 9 ∨ q = 10 ∨ q = 11 ∨ q = 12 ∨ q = 13 ∨ q = 14) with rfl | rfl | rfl | rfl | rfl | rfl | rfl | rfl | rfl | rfl | rfl | rfl | rfl | rfl | rfl
  · intro v hv; cases hv
  · exact one _ _ (Int.le_refl _) hf
  · exact one _ _ (Int.le_refl _) hf
  · exact one _ _ (Int.le_refl _) hf
  · exact one _ _ (by decide) hf
  · exact one _ _ (Int.le_refl _) hf
  · exact one _ _ (Int.le_refl _) hf
  · exact one _ _ (Int.le_refl _) hf
  · intro v hv
    have ha := h8 rfl
    obtain ⟨hne, hm⟩ := are_mem ha
    obtain rfl : v = (f.runs.headD (0, 0)).2 := by simpa [numsP] using hv
    cases hr : f.runs with
    | nil => exact absurd hr hne
    | cons s t => have := hm s (by rw [hr]; simp); simp only [List.headD_cons]; omega
  · exact runsN_range hf hl
  · have hf' : (numb f.c0 MAXN && numb f.c1 MAXN && numb f.c2 MAXN) = true := hf
    simp only [Bool.and_eq_true] at hf'
    intro v hv
    have hv' : v = f.c0 ∨ v = f.c1 ∨ v = f.c2 := by simpa [numsP] using hv
    rcases hv' with rfl | rfl | rfl
    · exact one _ _ (Int.le_refl _) hf'.1.1 _ (by simp)
    · exact one _ _ (Int.le_refl _) hf'.1.2 _ (by simp)
    · exact one _ _ (Int.le_refl _) hf'.2 _ (by simp)
  · intro v hv
    have hf' : decide ((f.data.length : Int) ≤ MAXN - f.offset) = true := hf
    rw [decide_eq_true_eq] at hf'
    obtain rfl : v = (f.data.length : Int) := by simpa [numsP] using hv
    unfold MAXN at *; omega
  · intro v hv; cases hv
  · intro v hv; cases hv
  · intro v hv; cases hv

theorem typeF_range {f : Fr} (h : isKindF f.kind = true) : 0 ≤ typeF f ∧ typeF f ≤ 100 := by
  have hk := kind_dom h
  have b1 := one_bounds (decide (f.offset > 0)); have b2 := one_bounds (!f.tail); have b3 := one_bounds f.fin
  have b4 := one_bounds f.marks; have b5 := one_bounds f.uni; have b6 := one_bounds f.own
  unfold typeF
  (repeat' split) <;> omega

/-- What is told: numbers that can be written, not too many; an error is one of two. -/
theorem tell_ok {f : Fr} {n rs : List Int} (h : tellF f = .inl (n, rs)) (hl : (f.runs.length : Int) ≤ MAXN) : (∀ v ∈ n, 0 ≤ v ∧ v ≤ MAXN) ∧ n.length ≤ 9 + 2 * f.runs.length ∧ (rs = f.data ∨ (rs.length ≤ 65534 ∧ f.runs = [])) ∧ (f.runs = [] ∨ f.data = []) := by
  unfold tellF at h
  by_cases hk : isKindF f.kind = true
  · obtain ⟨bare, l, hs⟩ := type_some hk
    rw [if_pos hk, hs] at h
    simp only at h
    by_cases hm : mayF f bare l = true
    · rw [if_pos hm] at h
      simp only [Sum.inl.injEq, Prod.mk.injEq] at h
      obtain ⟨rfl, rfl⟩ := h
      have off := may_off hm
      have hm0 := hm
      unfold mayF at hm
      simp only [Bool.and_eq_true] at hm
      obtain ⟨⟨⟨⟨q1, q2⟩, q3⟩, q4⟩, -⟩ := hm
      have le14 : l.1 ≤ 14 ∧ l.2.1 ≤ 14 ∧ l.2.2.1 ≤ 14 ∧ l.2.2.2 ≤ 14 := by
        rcases shape_parts hs with e | e | e | e | e | e | e | e | e | e | e | e | e | e | e | e | e <;> (rw [e]; decide)
      have h8 : l.1 = 8 ∨ l.2.1 = 8 ∨ l.2.2.1 = 8 ∨ l.2.2.2 = 8 → areF f.runs = true := fun h => by
        have : l.2.2.1 = 9 := by
          rcases shape_parts hs with e | e | e | e | e | e | e | e | e | e | e | e | e | e | e | e | e <;> (rw [e] at h ⊢ <;> (revert h; decide))
        rw [this] at q3
        exact q3
      refine ⟨fun v hv => ?_, ?_, ?_, may_one hs hm0⟩
      · rcases List.mem_cons.1 hv with rfl | hv
        · have := typeF_range hk; unfold MAXN; omega
        · simp only [List.mem_append] at hv
          rcases hv with ((hv | hv) | hv) | hv
          · exact numsP_range le14.1 q1 (fun e => h8 (by omega)) off.1 hl v hv
          · exact numsP_range le14.2.1 q2 (fun e => h8 (by omega)) off.1 hl v hv
          · exact numsP_range le14.2.2.1 q3 (fun e => h8 (by omega)) off.1 hl v hv
          · exact numsP_range le14.2.2.2 q4 (fun e => h8 (by omega)) off.1 hl v hv
      · have p1 := numsP_len2 f l.1; have p2 := numsP_len2 f l.2.1; have p3 := numsP_len2 f l.2.2.1; have p4 := numsP_len2 f l.2.2.2
        simp only [List.length_cons, List.length_append]
        rcases shape_parts hs with e | e | e | e | e | e | e | e | e | e | e | e | e | e | e | e | e <;> (rw [e] at p1 p2 p3 p4 ⊢; simp at p1 p2 p3 p4 ⊢; omega)
      · unfold restF
        split
        · rename_i e14
          right
          rw [e14] at q1
          have e : fitsF f 14 = numb (f.size - 1) 65534 := rfl
          rw [e] at q1
          unfold numb at q1
          simp only [Bool.and_eq_true, decide_eq_true_eq] at q1
          refine ⟨by rw [List.length_replicate]; omega, may_runs hm0 ?_⟩
          rcases shape_parts hs with e | e | e | e | e | e | e | e | e | e | e | e | e | e | e | e | e <;> (rw [e] at e14 ⊢; revert e14; decide)
        · exact .inl rfl
    · rw [if_neg hm] at h; cases h
  · rw [if_neg hk] at h; cases h

theorem tell_err {f : Fr} {x : Int} (h : tellF f = .inr x) : x = 41 ∨ x = 42 := by
  unfold tellF at h
  by_cases hk : isKindF f.kind = true
  · obtain ⟨bare, l, hs⟩ := type_some hk
    rw [if_pos hk, hs] at h
    simp only at h
    by_cases hm : mayF f bare l = true
    · rw [if_pos hm] at h; cases h
    · rw [if_neg hm] at h; cases h; exact .inr rfl
  · rw [if_neg hk] at h; cases h; exact .inl rfl
end Go.Proofs.Ytpcnpdippnljpaa.Kf

namespace Go.Proofs.Ytpcnpdippnljpaa.Kf
open Go.RowKit
set_option linter.unusedVariables false
set_option maxRecDepth 100000
set_option maxHeartbeats 4000000

theorem OwnB.keepN {base : Nat} {w w' : World} {v : Value} {T : List Int} (h : OwnB base w v T) (g : w.grownBy w' none) : OwnB base w' v T := by
  refine ⟨h.1, ?_⟩
  rcases h.2 with h2 | ⟨b, c, cur, e1, q1, q2, q3⟩
  · exact .inl h2
  · exact .inr ⟨b, c, cur, e1, q1, (g.block b (Array.getElem?_eq_some_iff.1 q2).1 (by simp)).trans q2, q3⟩
theorem OwnB.ownN {base : Nat} {w : World} {v : Value} {T : List Int} (h : OwnB base w v T) : ∀ k, v.ownBlock = some k → base ≤ k := fun k hk => by
  rcases h.2 with ⟨rfl, -⟩ | ⟨b, c, cur, rfl, q1, -⟩
  · cases hk
  · injection hk with hk; exact hk ▸ q1
/-- More bytes, from wherever they lie. -/
theorem app_u8 {w0 W : World} {v : Value} {T xs : List Int} (ad : Addr) (n c : Nat) (h : OwnB w0.heap.size W v T) (hg : w0.grownBy W none) (hn : xs.length = n) (hpos : 0 < n) (hsrc : ∀ j x, xs[j]? = some x → W.cell? (ad.add j) = some (.int .u8 x)) (hb : T.length + n ≤ 140737488355328) :
    ∃ a' c' W', (∀ ty, (Builtin.append_ #[27, 27] ty #[v, .slice (some ad) n c]).run Try.prog W = .ok (.slice a' (T.length + n) c') W') ∧ OwnB w0.heap.size W' (.slice a' (T.length + n) c') (T ++ xs) ∧ w0.grownBy W' none := by
  subst hn
  obtain ⟨i, hi, hz0, hz1, hz2⟩ := info_parts Try.infoB
  obtain ⟨v', W', hr, ho, hgr, hnil⟩ := run_append_own (P := Try.prog) W w0.heap.size 27 27 5 i _ 1 1 Try.underlying27 hi hz0 hz1 hz2 rfl (by decide) v T.length (T.map (Value.int .u8)) h ad xs.length c (xs.map (Value.int .u8)) (by simp) (fun j u hj => by
    rw [List.getElem?_map] at hj
    cases hx : xs[j]? with
    | none => rw [hx] at hj; simp at hj
    | some x => rw [hx] at hj; simp at hj; rw [← hj]; exact hsrc j x hx) (by simp [Value.oneCell']) (by unfold maxLen; omega) (by omega) hg.size
  have e : T.map (Value.int .u8) ++ xs.map (Value.int .u8) = (T ++ xs).map (Value.int .u8) := by simp
  have e2 : (T ++ xs).length = T.length + xs.length := by simp
  rw [e] at ho
  have ho' : OwnB w0.heap.size W' v' (T ++ xs) := by unfold OwnB; rw [e2]; exact ho
  obtain ⟨a', c', rfl⟩ : ∃ a' c', v' = .slice a' (T.length + xs.length) c' := by
    rcases ho.2 with ⟨e1, e2⟩ | ⟨g', c', cur, e1, -⟩
    · omega
    · exact ⟨_, _, e1⟩
  exact ⟨a', c', W', fun _ => hr, ho', grown_own hg hgr h.ownN⟩
/-- ... and whatever can be read. -/
theorem app_rd {w0 W : World} {v : Value} {T e : List Int} {a : Option Addr} (c : Nat) (h : OwnB w0.heap.size W v T) (hg : w0.grownBy W none) (hr : Rd W a e) (hb : T.length + e.length ≤ 140737488355328) :
    ∃ a' c' W', (∀ ty, (Builtin.append_ #[27, 27] ty #[v, .slice a e.length c]).run Try.prog W = .ok (.slice a' (T.length + e.length) c') W') ∧ OwnB w0.heap.size W' (.slice a' (T.length + e.length) c') (T ++ e) ∧ w0.grownBy W' none := by
  by_cases he : e = []
  · subst he
    obtain ⟨inf, hi0, hz0, hz1, hz2⟩ := info_parts Try.infoB
    rcases h.2 with ⟨h1, h2⟩ | ⟨g, cap, cur, e1, -, -, hc, hx, -⟩
    · have h0 : T = [] := List.length_eq_zero_iff.1 h2
      subst h0 h1
      refine ⟨none, 0, W, fun ty => ?_, by simpa using h, hg⟩
      cases a <;> simp [Builtin.append_, run_underlying Try.underlying27, sizeOf, typeInfo, hi0, Builtin.lenOf, Builtin.firstCells, loadCells, loadCellsFrom]
    · subst e1
      refine ⟨_, cap, W, fun ty => ?_, by simpa using h, hg⟩
      cases a <;> simp [Builtin.append_, run_underlying Try.underlying27, sizeOf, typeInfo, hi0, Builtin.lenOf, Builtin.firstCells, loadCells, loadCellsFrom, hc, storeCells]
  · obtain ⟨b, off, rfl, hc⟩ := hr.2 he
    exact app_u8 ⟨b, off, none⟩ e.length c h hg rfl (List.length_pos_iff.2 he) (fun j x hj => by
      have hlt := (List.getElem?_eq_some_iff.1 hj).1
      have hadd : (⟨b, off, none⟩ : Addr).add j = ⟨b, off + j, none⟩ := by simp [Addr.add]
      rw [hadd, hc j hlt]
      simp [List.getD, hj]) hb
theorem mk_bytes0 (cap : Nat) (h : cap ≤ 281474976710656) (W : World) : ∃ cur : Array Value, (Instr.makeSlice 27 (.int .i64 0) (.int .i64 (cap : Int))).run Try.prog W = .ok (.slice (some ⟨W.heap.size, 0, none⟩) 0 cap) (W.alloc (.cells cur 5)) ∧ OwnB W.heap.size (W.alloc (.cells cur 5)) (.slice (some ⟨W.heap.size, 0, none⟩) 0 cap) [] := by
  obtain ⟨i, hi, hz, hs, hb⟩ := info_parts Try.infoB
  have := run_make (P := Try.prog) W 27 5 i (.int .u8 0) Try.underlying27 hi hz .i64 .i64 0 cap (by omega) (by omega) (by rw [hb]; omega) (by omega)
  refine ⟨_, this, rfl, .inr ⟨W.heap.size, cap, _, rfl, Nat.le_refl _, heap_alloc_new W _, Nat.zero_le _, by unfold maxLen; omega, ?_, by simp⟩⟩
  simp [madeCells, hs]

theorem encL_step (L : List Int) (k : Nat) (h : k < L.length) : encL (L.take (k + 1)) = encL (L.take k) ++ encN (L.getD k 0) := by
  rw [take_snoc L k h]
  simp [encL]
theorem encL_append (A B : List Int) : encL (A ++ B) = encL A ++ encL B := by simp [encL]

/-- What Encode answers. -/
theorem encode_any (f : Fr) (d r : Value) (w : World) (hF : FrIn w f d r) (hD : TS w d f.data) (hk : -9223372036854775808 ≤ f.kind ∧ f.kind ≤ 9223372036854775807) (hrl : f.runs.length * 16 ≤ 140737488351232) (hdl : f.data.length ≤ 140737488351232) :
    Calls Try.prog 40 #[f.val d r] w fun e w' => ∃ v, e = .returned (.tuple #[v, .int .i64 (encF f).2]) ∧ OwnB w.heap.size w' v (encF f).1 ∧ w.grownBy w' none := by
  have hml : (f.runs.length : Int) ≤ MAXN := by unfold MAXN; omega
  have htl := hide (fun W (g : w.grownBy W none) => tell_any f d r W (hF.keep g) (hD.keep g) hk hrl)
  obtain ⟨C, hC⟩ : ∃ C, C = f.cs d r := ⟨_, rfl⟩
  have C17 : C.size = 17 := by rw [hC]; rfl
  have iC : (Try.prog.info? 80).map (·.size) = some C.size := by rw [C17]; exact Try.size26
  have e1 : f.val d r = .agg C := by rw [hC]
  rw [e1] at htl ⊢
  have B0 := Blk.new w C 80
  have g0 := World.grownBy_alloc w (.cells C 80) none
  have HB := hide B0
  have hte := unhide htl _ g0
  unfold TellPost at hte
  clear hF hD hk htl C17 e1 hC B0
  cases ht : tellF f with
  | inr x =>
    have hE : encF f = ([], x) := by unfold encF; rw [ht]
    rw [ht] at hte
    simp only at hte
    rw [hE]
    have hx := tell_err ht
    clear ht hE
    rcases hx with rfl | rfl
    all_goals
      go_enter Try.func40, Try.ntmps40
      go_wp2_with (first | (refine wpList_load_row rfl _ _ rfl w.heap.size rfl 80 C (0, 0) _ (unhide HB) Try.underlying80 rfl iC ?_) | (go_at_call 50; refine hte.mono ?_; rintro e W1 ⟨rfl, g1⟩))
      go_ret2
      exact ⟨_, rfl, World.ownsRow_nil _ _ _ _, g0.trans g1⟩
  | inl nr =>
    obtain ⟨n, rs⟩ := nr
    have hE : encF f = (encL n ++ rs, 0) := by unfold encF; rw [ht]
    rw [ht] at hte
    simp only at hte
    obtain ⟨rng, nlen, rsl, one⟩ := tell_ok ht hml
    have tot : (encL n).length + rs.length ≤ 140737488355328 ∧ n.length ≤ 100000000000000000 ∧ (encL n).length ≤ 140737488355328 := by
      have := encL_le n
      rcases one with e | e
      · rw [e] at nlen; simp at nlen
        rcases rsl with e2 | ⟨e2, -⟩
        · rw [e2]; omega
        · omega
      · rcases rsl with e2 | ⟨e2, e3⟩
        · rw [e2, e]; simp; omega
        · rw [e3] at nlen; simp at nlen; omega
    rw [hE]
    have HR := hide rng
    have HT := hide tot
    clear ht hE rng nlen rsl one tot hml hrl hdl
    go_enter Try.func40, Try.ntmps40
    go_upto_region 4 with (first | (refine wpList_load_row rfl _ _ rfl w.heap.size rfl 80 C (0, 0) _ (unhide HB) Try.underlying80 rfl iC ?_) | (go_at_call 50; refine hte.mono ?_; rintro e W1 ⟨v1, s1, rfl, o1, t1, g1⟩; obtain ⟨va, vc, rfl, vl1, vl2, vrd⟩ := o1.at; obtain ⟨sa, sc, rfl, srd, sl1, sl2⟩ := t1.ex))
    have hlen := length_any va sa n n.length vc rs.length sc W1 rfl vrd (unhide HR) ⟨vl1, vl2⟩ (unhide HT).2.1 (by have := (unhide HT).1; omega)
    obtain ⟨cap, hcap⟩ : ∃ cap, cap = (encL n).length + rs.length := ⟨_, rfl⟩
    rw [← hcap] at hlen
    obtain ⟨cur, hmk, oB⟩ := mk_bytes0 cap (by have := (unhide HT).1; omega) W1
    have gM := World.grownBy_alloc W1 (.cells cur 5) none
    have H0 := hide (And.intro oB gM)
    have HW1 := hide (And.intro vrd (And.intro srd (g0.trans g1)))
    obtain ⟨nn, hnn⟩ : ∃ nn, nn = n.length := ⟨_, rfl⟩
    obtain ⟨mm, hmm⟩ : ∃ mm, mm = rs.length := ⟨_, rfl⟩
    rw [← hnn, ← hmm] at hlen ⊢
    rw [← hnn] at vl1
    have HN := hide hnn
    have HMM := hide hmm
    clear hnn hmm hcap oB gM vrd srd hte HB o1 t1 g0 g1
    go_wp2_with (first | (go_at_call 51; refine hlen.mono ?_; rintro e W9 ⟨rfl, hw⟩; replace hw := hw.symm; subst hw) | (refine wpList_make_run _ rfl 27 (Operand.const (.int .i64 0)) (Operand.tmp 23) rfl (.int .i64 0) (.int .i64 (cap : Int)) rfl rfl hmk ?_))
    go_loopw [7, 27] (fun b i wr => ∃ k : Nat, k ≤ nn ∧ i = .int .i64 k ∧ Hid (OwnB W1.heap.size wr b (encL (n.take k)) ∧ W1.grownBy wr none)) (fun _ i _ => nn - (intOf i).toNat)
    case atStart => exact ⟨0, Nat.zero_le _, rfl, unhide H0⟩
    case round =>
      obtain ⟨k, hk, rfl, H⟩ := hrel
      clear H0 hmk hlen
      by_cases hlt : k < nn
      · have hkL : k < n.length := by rw [← unhide HN]; exact hlt
        have kI : (k : Int) < (nn : Int) := by omega
        obtain ⟨gb, off, rfl, hcs⟩ := (unhide HW1).1 (fun e => by rw [e] at hkL; simp at hkL)
        have cv := cell_grown (hcs k hkL) (unhide H).2
        have hv := unhide HR (n.getD k 0) (by simp [List.getD, hkL])
        have st := encL_step n k hkL
        have stl : (encL (n.take (k + 1))).length ≤ (encL n).length := by
          have e : n = n.take (k + 1) ++ n.drop (k + 1) := (List.take_append_drop _ _).symm
          have e2 : (encL (n.take (k + 1) ++ n.drop (k + 1))).length = (encL (n.take (k + 1))).length + (encL (n.drop (k + 1))).length := by rw [encL_append, List.length_append]
          rw [← e] at e2
          omega
        generalize n.getD k 0 = x at *
        have hwv : IntKind.u64.wrap x = x := by rw [IntKind.wrap_u64]; unfold MAXN at hv; omega
        have hp := put_ok x wr hv.1 (by unfold MAXN at hv; omega)
        have z1 : 0 < sizeF x := by unfold MAXN at hv; unfold sizeF; (repeat' split) <;> omega
        have hbl := heap_alloc_new wr (bts (layF x (sizeF x)))
        have gA := World.grownBy_alloc wr (bts (layF x (sizeF x))) none
        obtain ⟨bb, bc, rfl⟩ := (unhide H).1.shape
        have ll : (encL (n.take k)).length + sizeF x ≤ 140737488355328 := by
          have := (unhide HT).2.2
          rw [st, List.length_append, encN_length] at stl
          omega
        obtain ⟨a4, c4', W4, hap, o4, g4⟩ := app_u8 (xs := layF x (sizeF x)) ⟨wr.heap.size, 0, none⟩ (sizeF x) (sizeF x) ((unhide H).1.keepN gA) ((unhide H).2.trans gA) (layF_length _ _) z1 (fun j y hj => by
          rw [addr_add]
          unfold World.cell?
          rw [hbl]
          simp [bts, hj]) ll
        have E : Hid (OwnB W1.heap.size W4 (.slice a4 ((encL (n.take k)).length + sizeF x) c4') (encL (n.take (k + 1))) ∧ W1.grownBy W4 none) := ⟨by rw [st]; exact o4, g4⟩
        have HL := hide hlt
        generalize (encL (n.take k)).length = m0 at *
        generalize sizeF x = z at *
        clear H hcs hv st stl hbl gA o4 g4 ll hkL hlt hk z1
        go_wp2_with (first | (go_at_call 52; refine hp.mono ?_; rintro e W9 ⟨rfl, hw⟩; subst hw) | (at_builtin; refine wpList_append_run _ rfl (Operand.tmp 37) (Operand.tmp 38) 27 27 rfl (.slice bb m0 bc) (.slice (some ⟨wr.heap.size, 0, none⟩) z z) rfl rfl (hap 27) ?_))
        exact ⟨⟨k + 1, unhide HL, by go_num, unhide E⟩, by simp [intOf]; have := unhide HL; omega⟩
      · obtain rfl : k = nn := by omega
        have kI : ¬ (k : Int) < (k : Int) := by omega
        have eT : n.take k = n := by rw [unhide HN]; simp
        rw [eT] at H
        obtain ⟨bb, bc, rfl⟩ := (unhide H).1.shape
        obtain ⟨a4, c4', W4, hap, o4, g4⟩ := app_rd sc (unhide H).1 (unhide H).2 ((unhide HW1).2.1.grow (unhide H).2) (unhide HT).1
        rw [← unhide HMM] at hap o4
        have E : Hid (OwnB w.heap.size W4 (.slice a4 ((encL n).length + mm) c4') (encL n ++ rs) ∧ w.grownBy W4 none) := ⟨o4.mono (unhide HW1).2.2.size, (unhide HW1).2.2.trans g4⟩
        generalize (encL n).length = m0 at *
        clear H o4 g4 eT
        go_wp2_with (at_builtin; refine wpList_append_run _ rfl (Operand.tmp 41) (Operand.tmp 42) 27 27 rfl (.slice bb m0 bc) (.slice sa mm sc) rfl rfl (hap 27) ?_)
        go_ret2
        exact ⟨_, rfl, (unhide E).1, (unhide E).2⟩
end Go.Proofs.Ytpcnpdippnljpaa.Kf
