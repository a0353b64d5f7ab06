/- A range over an iterator that itself ranges over one: every round goes on. slices.Backward, Down, slices.AppendSeq, slices.Collect. -/
import Derived.Test.YtielpjdjlmkejaaZJ
namespace Go.Proofs.Ytielpjdjlmkejaa
open Go.RowKit Go.Shelf
set_option linter.unusedVariables false
set_option maxHeartbeats 1000000
set_option maxRecDepth 100000
attribute [local go_sem] Oper.semAt_some

/-- Whatever is handed spans one by one, where all rounds go on; what is kept from round to round abides the turn of what is no cells and new. -/
def SeqAll (g : Nat) (lb : Array Value) (B : Nat) (S : List Sp → Prop) (N : Nat) (w : World) : Prop :=
  ∀ (l : Nat) (J : List Sp → World → Prop) (W : World), Below w.heap.size w W → OwnFrom W.heap.size J → (∀ pre X, J pre X → ∃ c t f, X.heap[B]? = some (.cells c t f)) →
    (∀ m, 1 ≤ m → ∀ pre x X, J pre X → pre.length < N → YieldAt Fence.wide m Try.prog l (encA x) X fun e X' => e = .returned (.bool true) ∧ J (pre ++ [x]) X' ∧ KeepsOthers X X' ∧ KpB B X X') →
    J [] W → Calls Try.prog g (#[.func (.yield l) #[] #[]] ++ lb) W fun e W' => (∃ v, e = .returned v) ∧ ∃ xs, S xs ∧ J xs W'

theorem KpB.putB {B : Nat} {W : World} {l : Nat} {o o' : Obj} (hB : ∃ c t f, W.heap[B]? = some (.cells c t f)) (hl : W.heap[l]? = some o) (hc : o.isCells = false) : KpB B W (W.putObj l o') :=
  KpB.put hl hc (fun e => by
    obtain ⟨c, t, f, hB⟩ := hB
    rw [e, hB] at hl
    cases hl
    cases hc)

theorem range_all {g : Operand} {t1 : Nat} {assign body : Code} {Q : Exit → Act → World → Prop} {a : Act} {w : World} (n d1 B : Nat) {gf : Nat} {lb : Array Value} (hg : a.eval g = .func (.func gf) #[] lb) (eg : ∀ args w, (callFunc gf args).run Try.prog w = .ok (.enter gf args) w)
    {S : List Sp → Prop} {N : Nat} (hseq : SeqAll gf lb B S N w)
    (I : List Sp → World → Prop) (hI : OwnFrom w.heap.size I) (hB : ∀ pre X, I pre X → ∃ c t f, X.heap[B]? = some (.cells c t f)) (h0 : I [] w)
    (hassign : ∀ (l m : Nat) (x : Sp) (W : World) (K : Act → World → Prop), K (put2 a t1 d1 x W.heap.size) (W.alloc (.cells #[.int .i64 x.1, .int .i64 x.2] 55)) →
      assign.wpIn (Fence.wide.inRound l) m Try.prog (Exit.then K (fun _ _ _ => False)) { tmps := (#[t1].zip (encA x)).foldl (fun t (p, v) => t.setIfInBounds p v) a.tmps, defers := [] } W)
    (hbody : ∀ (l m : Nat) (pre : List Sp) (x : Sp) (Bx : Nat) (W : World), 1 ≤ m → I pre W → W.heap[Bx]? = some (.cells #[.int .i64 x.1, .int .i64 x.2] 55 (0, 0)) → pre.length < N →
      body.wpIn (Fence.wide.inRound l) m Try.prog (fun e _ W' => e = .normal ∧ KeepsOthers W W' ∧ KpB B W W' ∧ I (pre ++ [x]) W') (put2 a t1 d1 x Bx) W)
    (hdone : ∀ (D : Nat) (xs : List Sp) (W : World), w.heap.size ≤ D → S xs → I xs W → W.heap[D]? = some (.deferred (some [])) → Q .normal { a with defers := { target := .collected D, args := #[] } :: a.defers } W) :
    (Code.rangeFunc g #[t1] assign body).wpIn Fence.wide n Try.prog Q a w := by
  refine wpIn_rangeFunc fun fn hfn => ?_
  obtain ⟨rec, hrec⟩ : ∃ rec : LoopState → Loop, rec = fun st => { state := st, pending := none, fn, tmps := a.tmps, params := #[t1], assign, body, defers := w.heap.size } := ⟨_, rfl⟩
  obtain ⟨W1, hW1⟩ : ∃ W1, W1 = (w.alloc (.deferred (some []))).alloc (.loop (rec .ready)) := ⟨_, rfl⟩
  have s1 : W1.heap.size = w.heap.size + 2 := by rw [hW1]; simp
  have rl : W1.heap[w.heap.size + 1]? = some (.loop (rec .ready)) := by
    have := World.alloc_heap_new (w.alloc (.deferred (some []))) (.loop (rec .ready))
    rw [World.size_alloc] at this
    rw [hW1]; exact this
  have rd : W1.heap[w.heap.size]? = some (.deferred (some [])) := by
    rw [hW1, Below.heap_alloc _ _ _ (by simp)]
    exact World.alloc_heap_new w _
  have bel : Below w.heap.size w W1 := by rw [hW1]; exact ((Below.refl _ w).alloc (Nat.le_refl _) _).alloc (by simp) _
  have i1 : I [] W1 := by rw [hW1]; exact hI.alloc _ (hI.alloc _ h0)
  refine ⟨w.heap.size + 1, [{ target := .collected w.heap.size, args := #[] }], W1, { target := .fn (.func gf) lb, args := #[.func (.yield (w.heap.size + 1)) #[] #[]] }, W1, gf, #[.func (.yield (w.heap.size + 1)) #[] #[]] ++ lb, W1, ?_, ?_, fun _ _ => trivial, ?_, fun h => (by cases h), ?_⟩
  · rw [hW1, hrec]; exact run_enterLoop_outer _ _ _ _ _
  · simp only [resolve, hg]
    simp [go_sem]
  · simp [invoke, go_sem, eg]
  · refine callsIn_wide.2 (Calls.mono (hseq (w.heap.size + 1) (fun pre X => I pre X ∧ X.heap[w.heap.size + 1]? = some (.loop (rec .ready)) ∧ X.heap[w.heap.size]? = some (.deferred (some []))) W1 bel ?_ (fun pre X h => hB pre X h.1) ?_ ⟨i1, rl, rd⟩) ?_)
    · rintro pre X Y row ⟨hi, hl, hd⟩ hgr hr
      have far : ∀ k, k < W1.heap.size → ∀ o, X.heap[k]? = some o → Y.heap[k]? = some o := fun k hk o ho => by
        rw [hgr.block k (Array.getElem?_eq_some_iff.1 ho).1 (fun e => by have := (hr k e.symm).1; omega)]
        exact ho
      exact ⟨hI pre X Y row hi hgr (fun r e => ⟨by have := (hr r e).1; omega, (hr r e).2⟩), far _ (by omega) _ hl, far _ (by omega) _ hd⟩
    · rintro m hm pre x X ⟨hi, hl, hd⟩ hp
      have hlt : w.heap.size + 1 < X.heap.size := (Array.getElem?_eq_some_iff.1 hl).1
      have hy := run_yield (P := Try.prog) (args := encA x) hl (by rw [hrec]; rfl)
      rw [hrec] at hy
      refine ⟨fn, _, assign, body, hy, roundIn_of_wpIn hfn (hassign _ m x X _ ?_)⟩
      clear hy
      obtain ⟨X1, hX1⟩ : ∃ X1, X1 = X.alloc (.cells #[.int .i64 x.1, .int .i64 x.2] 55) := ⟨_, rfl⟩
      have l1 : X1.heap[w.heap.size + 1]? = some (.loop (rec .ready)) := by rw [hX1, Below.heap_alloc _ _ _ hlt]; exact hl
      have l1lt : w.heap.size + 1 < X1.heap.size := (Array.getElem?_eq_some_iff.1 l1).1
      have i2 : I pre X1 := by rw [hX1]; exact hI.alloc _ hi
      have x2 : X1.heap[X.heap.size]? = some (.cells #[.int .i64 x.1, .int .i64 x.2] 55 (0, 0)) := by rw [hX1]; exact heap_alloc_new X _
      have k1 : KeepsOthers X X1 := by rw [hX1]; exact KeepsOthers.alloc X _
      have q1 : KpB B X X1 := by
        obtain ⟨c, t, f, hb⟩ := hB pre X hi
        rw [hX1]; exact KpB.grown (Array.getElem?_eq_some_iff.1 hb).1 (grown_alloc X _)
      rw [← hX1]
      obtain ⟨X2, hX2⟩ : ∃ X2, X2 = X1.putObj (w.heap.size + 1) (.loop (rec .busy)) := ⟨_, rfl⟩
      refine ⟨X2, ?_, ?_⟩
      · have := run_beginRound (P := Try.prog) l1 (by rw [hrec])
        rw [hrec] at this hX2
        rw [hX2]; exact this
      have l2 : X2.heap[w.heap.size + 1]? = some (.loop (rec .busy)) := by rw [hX2]; exact World.putObj_heap_same l1lt
      have i3 : I pre X2 := by rw [hX2]; exact hI.putObj _ i2 (by omega) l1 rfl
      have x3 : X2.heap[X.heap.size]? = some (.cells #[.int .i64 x.1, .int .i64 x.2] 55 (0, 0)) := by rw [hX2, World.putObj_heap_other (by omega)]; exact x2
      have q2 : KpB B X1 X2 := by rw [hX2]; exact KpB.putB (hB pre X1 i2) l1 rfl
      refine wpIn_mono (hbody _ m pre x _ X2 hm i3 x3 hp) ?_
      rintro e a3 X3 ⟨rfl, k3, q3, i4⟩
      have l3 := k3.same _ _ l2 rfl
      have l3lt : w.heap.size + 1 < X3.heap.size := (Array.getElem?_eq_some_iff.1 l3).1
      have er := run_endRound (P := Try.prog) none l3
      rw [hrec] at er
      refine ⟨_, _, er, rfl, ⟨?_, ?_, ?_⟩, ⟨?_, ?_⟩, ?_⟩
      · exact hI.putObj _ i4 (by omega) l3 rfl
      · rw [hrec]; exact World.putObj_heap_same l3lt
      · rw [World.putObj_heap_other (by omega)]
        refine k3.same _ _ ?_ rfl
        rw [hX2, World.putObj_heap_other (by omega)]
        exact k1.same _ _ hd rfl
      · have := k1.size; have := k3.size
        have e2 : X2.heap.size = X1.heap.size := by rw [hX2]; simp
        simp; omega
      · intro k o hk ho
        by_cases c : k = w.heap.size + 1
        · subst c
          rw [hl] at hk
          cases hk
          rw [hrec]
          exact World.putObj_heap_same l3lt
        · rw [World.putObj_heap_other c]
          refine k3.same k o ?_ ho
          rw [hX2, World.putObj_heap_other c]
          exact k1.same k o hk ho
      · exact ((q1.trans q2).trans q3).trans (KpB.putB (hB _ X3 i4) l3 rfl)
    · rintro e W2 ⟨⟨v, rfl⟩, xs, hS, hi, hl, hd⟩
      have el := run_endLoop (P := Try.prog) hl (by rw [hrec]; simp)
      rw [hrec] at el
      refine ⟨none, _, el, hdone w.heap.size xs _ (Nat.le_refl _) hS (hI.putObj _ hi (by omega) hl rfl) ?_⟩
      rw [World.putObj_heap_other (by omega)]
      exact hd
end Go.Proofs.Ytielpjdjlmkejaa
