/- Ledger: what is kept, in memory. -/
import Derived.Test.YtnflbefbgcbdfaaL3F
import Derived.Maps.AppendAt
namespace Go.Proofs.Ytnflbefbgcbdfaa
open Go.RowKit
set_option linter.unusedVariables false
set_option maxRecDepth 100000
set_option maxHeartbeats 4000000

theorem St.len (s : St) (fv : Value) : (s.cs fv).toList.length = 8 := rfl
/-- The rows of packets. -/
def skl (ks : List St) (fvs : List Value) : List (List Value) := List.zipWith (fun s fv => (s.cs fv).toList) ks fvs
theorem skl_8 (ks : List St) (fvs : List Value) : ∀ c ∈ skl ks fvs, c.length = 8 := by
  intro c hc
  obtain ⟨i, hi⟩ := List.getElem?_of_mem hc
  simp only [skl, List.getElem?_zipWith] at hi
  split at hi
  · cases hi; rfl
  · cases hi
theorem skl_at {ks : List St} {fvs : List Value} {i : Nat} {s : St} {fv : Value} (h1 : ks[i]? = some s) (h2 : fvs[i]? = some fv) : (skl ks fvs)[i]? = some (s.cs fv).toList := by
  simp [skl, List.getElem?_zipWith, h1, h2]
theorem skl_len {ks : List St} {fvs : List Value} (h : fvs.length = ks.length) : (skl ks fvs).length = ks.length := by simp [skl, h]
theorem skl_app {ks : List St} {fvs : List Value} (h : fvs.length = ks.length) (s : St) (fv : Value) : skl (ks ++ [s]) (fvs ++ [fv]) = skl ks fvs ++ [(s.cs fv).toList] := by
  simp only [skl]; rw [List.zipWith_append h.symm]; rfl

/-- What is kept, in memory: a row of packets; the blocks of their frames are of R. -/
def KvAt (R : Nat → Prop) (W : World) (kv : Value) (ks : List St) : Prop := ∃ fvs, fvs.length = ks.length ∧ W.ownsRow 0 36 8 kv ks.length (skl ks fvs).flatten ∧ ∀ (i : Nat) (s : St) (fv : Value), ks[i]? = some s → fvs[i]? = some fv → FvAt R W fv s.fs
theorem KvAt.nil (R : Nat → Prop) (W : World) : KvAt R W (.slice none 0 0) [] := ⟨[], rfl, ⟨rfl, .inl ⟨rfl, rfl⟩⟩, fun i s fv h => by simp at h⟩
theorem KvAt.kept {R : Nat → Prop} {W W' : World} {kv : Value} {ks : List St} (h : KvAt R W kv ks) (hk : ∀ b, R b → W'.heap[b]? = W.heap[b]?) (ho : ∀ g, kv.ownBlock = some g → W'.heap[g]? = W.heap[g]?) : KvAt R W' kv ks := by
  obtain ⟨fvs, h1, h2, h3⟩ := h
  refine ⟨fvs, h1, ⟨h2.1, ?_⟩, fun i s fv a b => (h3 i s fv a b).kept hk⟩
  rcases h2.2 with q | ⟨g, c, cur, e1, q1, q2, q3⟩
  · exact .inl q
  · exact .inr ⟨g, c, cur, e1, q1, (ho g (by rw [e1]; rfl)).trans q2, q3⟩
theorem KvAt.lt {R : Nat → Prop} {W : World} {kv : Value} {ks : List St} (h : KvAt R W kv ks) : ∀ g, kv.ownBlock = some g → g < W.heap.size := by
  intro g e
  obtain ⟨fvs, h1, h2, h3⟩ := h
  rcases h2.2 with ⟨rfl, -⟩ | ⟨g', c, cur, rfl, q1, q2, -⟩
  · cases e
  · cases e; exact (Array.getElem?_eq_some_iff.1 q2).1
theorem KvAt.grown {R : Nat → Prop} {W W' : World} {kv : Value} {ks : List St} (h : KvAt R W kv ks) (g : W.grownBy W' none) : KvAt R W' kv ks := by
  have hl := h.lt
  obtain ⟨fvs, h1, h2, h3⟩ := h
  refine ⟨fvs, h1, ⟨h2.1, ?_⟩, fun i s fv a b => (h3 i s fv a b).grown g⟩
  rcases h2.2 with q | ⟨g', c, cur, e1, q1, q2, q3⟩
  · exact .inl q
  · exact .inr ⟨g', c, cur, e1, q1, (g.block g' (hl g' (by rw [e1]; rfl)) (by simp)).trans q2, q3⟩
/-- Its value. -/
theorem KvAt.sh {R : Nat → Prop} {W : World} {kv : Value} {ks : List St} (h : KvAt R W kv ks) : (kv = .slice none 0 0 ∧ ks = []) ∨ ∃ g c, kv = .slice (some ⟨g, 0, none⟩) ks.length c ∧ ks.length ≤ c := by
  obtain ⟨fvs, h1, h2, h3⟩ := h
  rcases h2.2 with ⟨e1, e2⟩ | ⟨g', c, cur, e1, q1, q2, q3, -⟩
  · exact .inl ⟨e1, List.length_eq_zero_iff.1 e2⟩
  · exact .inr ⟨g', c, e1, q3⟩
/-- A packet of it. -/
theorem KvAt.get {R : Nat → Prop} {W : World} {ks : List St} {g c k : Nat} {s : St} (h : KvAt R W (.slice (some ⟨g, 0, none⟩) ks.length c) ks) (hk : ks[k]? = some s) : ∃ fv, FvAt R W fv s.fs ∧ ∀ j v, (s.cs fv)[j]? = some v → W.cell? ⟨g, k * 8 + j, none⟩ = some v := by
  obtain ⟨fvs, h1, h2, h3⟩ := h
  have hlt := (List.getElem?_eq_some_iff.1 hk).1
  obtain ⟨fv, hf⟩ : ∃ fv, fvs[k]? = some fv := ⟨_, List.getElem?_eq_getElem (by omega)⟩
  refine ⟨fv, h3 k s fv hk hf, fun j v hj => ?_⟩
  rcases h2.2 with ⟨e1, -⟩ | ⟨g', c', cur, e1, q1, q2, q3, q4, q5, q6⟩
  · cases e1
  · injection e1 with e2 e3 e4
    injection e2 with e2
    injection e2 with e5
    subst e5
    have hj8 : j < 8 := by have := (Array.getElem?_eq_some_iff.1 hj).1; exact this
    have hx : (skl ks fvs).flatten[k * 8 + j]? = some v := by
      rw [flat_get 8 _ k j (skl_8 ks fvs) hj8, skl_at hk hf]
      simpa using hj
    rw [← q6, List.getElem?_take, if_pos (by omega), Array.getElem?_toList] at hx
    unfold World.cell?
    rw [q2]
    exact hx
theorem Try.infoSe : (Try.prog.info? 36).map (fun i => (i.zero, i.size, i.bytes)) = some (some (.agg #[.int .i64 0, .int .i64 0, .int .i64 0, .bool false, .bool false, .bool false, .int .i64 0, .slice none 0 0]), 8, 64) := by kernel_rfl
/-- One more. -/
theorem KvAt.app {R : Nat → Prop} {W : World} {kv : Value} {ks : List St} (h : KvAt R W kv ks) (s : St) (fv : Value) (hf : FvAt R W fv s.fs) (hr : ∀ g, kv.ownBlock = some g → ¬ R g) (hl : ks.length ≤ 1100000) (g0 : Nat) (sc : Nat) (hc : ∀ j v, (s.cs fv)[j]? = some v → W.cell? ⟨g0, j, none⟩ = some v) (hR : ∀ g, R g → g < W.heap.size) (t : TypeId) :
    ∃ v' W', (Builtin.append_ #[49, 49] t #[kv, .slice (some ⟨g0, 0, none⟩) 1 sc]).run Try.prog W = .ok v' W' ∧ KvAt R W' v' (ks ++ [s]) ∧ W.grownBy W' kv.ownBlock ∧ (v'.ownBlock = kv.ownBlock ∨ v'.ownBlock = some W.heap.size) := by
  obtain ⟨i, hi, hz0, hz1, hz2⟩ := info_parts Try.infoSe
  obtain ⟨fvs, h1, h2, h3⟩ := h
  have hv1 : fv.oneCell' = true := by obtain ⟨-, a, c, css, rfl, -⟩ := hf; rfl
  obtain ⟨v', W', hrun, ho, hgr, hnil, hob⟩ := run_append_own_at (P := Try.prog) W 0 49 t 36 i _ 8 64 Try.underlying49 hi hz0 hz1 hz2 rfl (by decide) kv ks.length _ h2 ⟨g0, 0, none⟩ 1 sc (s.cs fv).toList rfl (fun j u hj => by
      rw [Addr.add_lit, Nat.zero_add]
      exact hc j u (by simpa using hj)) (by
      intro u hu
      simp only [St.cs, List.mem_cons, List.not_mem_nil, or_false] at hu
      rcases hu with rfl | rfl | rfl | rfl | rfl | rfl | rfl | rfl <;> first | rfl | exact hv1) (by unfold maxLen; omega) (by omega) (Nat.zero_le _)
  have keep : ∀ b, R b → W'.heap[b]? = W.heap[b]? := fun b hb => hgr.block b (hR b hb) (fun e => hr b e.symm hb)
  refine ⟨v', W', hrun, ⟨fvs ++ [fv], by simp [h1], ?_, fun j s' fv' e1 e2 => ?_⟩, hgr, hob⟩
  · rw [skl_app h1, List.flatten_append, List.length_append]
    simpa using ho
  · by_cases hj : j < ks.length
    · rw [List.getElem?_append_left hj] at e1
      rw [List.getElem?_append_left (by omega)] at e2
      exact (h3 j s' fv' e1 e2).kept keep
    · have hj2 : j = ks.length := by have := (List.getElem?_eq_some_iff.1 e1).1; simp at this; omega
      subst hj2
      rw [List.getElem?_append_right (Nat.le_refl _)] at e1
      rw [List.getElem?_append_right (by omega)] at e2
      simp at e1
      simp [h1] at e2
      subst e1
      subst e2
      exact hf.kept keep
end Go.Proofs.Ytnflbefbgcbdfaa
