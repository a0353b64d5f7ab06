/- Ledger: packets with their frames, in memory. -/
import Derived.Test.YtnflbefbgcbdfaaL3B
namespace Go.Proofs.Ytnflbefbgcbdfaa
open Go.RowKit
set_option linter.unusedVariables false
set_option maxRecDepth 100000
set_option maxHeartbeats 1000000

/- Rows of parts that are all as long. -/
theorem flat_get {α : Type} (sz : Nat) : ∀ (cs : List (List α)) (i j : Nat), (∀ c ∈ cs, c.length = sz) → j < sz → cs.flatten[i * sz + j]? = (cs[i]?).bind (·[j]?)
  | [], i, j, _, _ => by simp
  | c :: cs, 0, j, h, hj => by
    have hc := h c (by simp)
    rw [List.flatten_cons, Nat.zero_mul, Nat.zero_add, List.getElem?_append_left (by omega)]
    rfl
  | c :: cs, i + 1, j, h, hj => by
    have hc := h c (by simp)
    have ih := flat_get sz cs i j (fun c hc => h c (List.mem_cons_of_mem _ hc)) hj
    rw [List.flatten_cons, List.getElem?_append_right (by rw [hc, Nat.succ_mul]; omega), show (i + 1) * sz + j - c.length = i * sz + j by rw [hc, Nat.succ_mul]; omega, ih]
    simp
theorem flat_len {α : Type} (sz : Nat) : ∀ (cs : List (List α)), (∀ c ∈ cs, c.length = sz) → cs.flatten.length = cs.length * sz
  | [], _ => by simp
  | c :: cs, h => by
    have hc := h c (by simp)
    have ih := flat_len sz cs (fun c hc => h c (List.mem_cons_of_mem _ hc))
    rw [List.flatten_cons, List.length_append, ih, hc, List.length_cons, Nat.succ_mul]
    omega
theorem flat_set {α : Type} (sz : Nat) (v : α) : ∀ (cs : List (List α)) (i j : Nat) (c : List α), (∀ c ∈ cs, c.length = sz) → j < sz → cs[i]? = some c → cs.flatten.set (i * sz + j) v = (cs.set i (c.set j v)).flatten
  | [], i, j, c, _, _, hc => by simp at hc
  | d :: cs, 0, j, c, h, hj, hc => by
    have hd := h d (by simp)
    simp at hc
    subst hc
    rw [List.flatten_cons, Nat.zero_mul, Nat.zero_add, List.set_append_left _ _ (by omega)]
    simp
  | d :: cs, i + 1, j, c, h, hj, hc => by
    have hd := h d (by simp)
    have ih := flat_set sz v cs i j c (fun c hc => h c (List.mem_cons_of_mem _ hc)) hj (by simpa using hc)
    rw [List.flatten_cons, List.set_append_right _ _ (by rw [hd, Nat.succ_mul]; omega), show (i + 1) * sz + j - d.length = i * sz + j by rw [hd, Nat.succ_mul]; omega, ih]
    simp

/-- What a frame says: the cells but its two lists; its bytes; its runs (two cells each). -/
structure Fr where
  k0 : List Value
  k1 : List Value
  k2 : List Value
  d : List Value
  r : List Value
structure Fr.Wf (f : Fr) : Prop where
  l0 : f.k0.length = 3
  l1 : f.k1.length = 8
  l2 : f.k2.length = 4
  one : ∀ v ∈ f.k0 ++ f.k1 ++ f.k2 ++ f.d ++ f.r, v.oneCell' = true
  nd : f.d.length ≤ 100000000
  nr : ∃ n, f.r.length = n * 2 ∧ n ≤ 100000000
def Fr.cs (f : Fr) (dv rv : Value) : List Value := f.k0 ++ (dv :: (f.k1 ++ (rv :: f.k2)))
theorem Fr.len {f : Fr} (h : f.Wf) (dv rv : Value) : (f.cs dv rv).length = 17 := by simp [Fr.cs, h.l0, h.l1, h.l2]
theorem Fr.at3 {f : Fr} (h : f.Wf) (dv rv : Value) : (f.cs dv rv)[3]? = some dv := by
  unfold Fr.cs
  rw [List.getElem?_append_right (by rw [h.l0]; omega), h.l0]
  rfl
theorem Fr.at12 {f : Fr} (h : f.Wf) (dv rv : Value) : (f.cs dv rv)[12]? = some rv := by
  unfold Fr.cs
  rw [List.getElem?_append_right (by rw [h.l0]; omega), h.l0, show 12 - 3 = 8 + 1 by omega, List.getElem?_cons_succ, List.getElem?_append_right (by rw [h.l1]; omega), h.l1]
  rfl
theorem Fr.set3 {f : Fr} (h : f.Wf) (dv rv v : Value) : (f.cs dv rv).set 3 v = f.cs v rv := by
  unfold Fr.cs
  rw [List.set_append_right _ _ (by rw [h.l0]; omega), h.l0]
  rfl
theorem Fr.set12 {f : Fr} (h : f.Wf) (dv rv v : Value) : (f.cs dv rv).set 12 v = f.cs dv v := by
  unfold Fr.cs
  rw [List.set_append_right _ _ (by rw [h.l0]; omega), h.l0, show 12 - 3 = 8 + 1 by omega, List.set_cons_succ, List.set_append_right _ _ (by rw [h.l1]; omega), h.l1]
  rfl
/-- A list of a frame: read; where there is something in it, its block is one of R. -/
structure Li (R : Nat → Prop) (W : World) (sz : Nat) (v : Value) (xs : List Value) : Prop where
  ex : ∃ a n c, v = .slice a n c ∧ xs.length = n * sz ∧ RdV W a xs ∧ (xs ≠ [] → ∀ b off, a = some ⟨b, off, none⟩ → R b)
theorem Li.kept {R : Nat → Prop} {sz : Nat} {W W' : World} {v : Value} {xs : List Value} (h : Li R W sz v xs) (hk : ∀ b, R b → W'.heap[b]? = W.heap[b]?) : Li R W' sz v xs := by
  obtain ⟨a, n, c, h1, h2, h3, h4⟩ := h.ex
  exact ⟨a, n, c, h1, h2, h3.kept fun hx b off e => hk b (h4 hx b off e), h4⟩
theorem Li.grown {R : Nat → Prop} {sz : Nat} {W W' : World} {v : Value} {xs : List Value} (h : Li R W sz v xs) (g : W.grownBy W' none) : Li R W' sz v xs := by
  obtain ⟨a, n, c, h1, h2, h3, h4⟩ := h.ex
  exact ⟨a, n, c, h1, h2, h3.grown g, h4⟩
theorem Li.mono {R T : Nat → Prop} {sz : Nat} {W : World} {v : Value} {xs : List Value} (h : Li R W sz v xs) (hn : ∀ b, R b → T b) : Li T W sz v xs := by
  obtain ⟨a, n, c, h1, h2, h3, h4⟩ := h.ex
  exact ⟨a, n, c, h1, h2, h3, fun e b off hb => hn b (h4 e b off hb)⟩
theorem RdV.lt {W : World} {a : Option Addr} {xs : List Value} (h : RdV W a xs) (hx : xs ≠ []) : ∀ b off, a = some ⟨b, off, none⟩ → b < W.heap.size := fun b off e => by
  obtain ⟨b', off', e', hc⟩ := h.resolve_left hx
  rw [e] at e'
  cases e'
  cases xs with
  | nil => exact absurd rfl hx
  | cons x xs => exact World.block_lt_of_cell? _ _ (hc 0 x rfl)
/-- What is read lies below. -/
theorem Li.own {R : Nat → Prop} {sz : Nat} {W : World} {v : Value} {xs : List Value} (h : Li R W sz v xs) : Li (fun b => b < W.heap.size) W sz v xs := by
  obtain ⟨a, n, c, h1, h2, h3, h4⟩ := h.ex
  exact ⟨a, n, c, h1, h2, h3, fun hx b off e => h3.lt hx b off e⟩
theorem NewL.li {X Y : World} {t : TypeId} {n sz : Nat} {xs : List Value} {v : Value} (h : NewL X t n xs v Y) (hx : xs.length = n * sz) : Li (fun b => X.heap.size ≤ b) Y sz v xs := by
  rcases h.1 with ⟨rfl, rfl⟩ | ⟨h0, g, rfl, hg, hb⟩
  · have e : xs = [] := List.length_eq_zero_iff.1 (by omega)
    subst e
    exact ⟨none, 0, 0, rfl, by simp, rdv_nil _ _, fun q => absurd rfl q⟩
  · exact ⟨_, n, n, rfl, hx, rdv_blk hb, fun _ b off e => by cases e; exact hg⟩
/-- A frame in memory. -/
def FrAt (R : Nat → Prop) (W : World) (cs : List Value) (f : Fr) : Prop := f.Wf ∧ ∃ dv rv, cs = f.cs dv rv ∧ Li R W 1 dv f.d ∧ Li R W 2 rv f.r
section
variable {R T : Nat → Prop} {W W' : World} {cs : List Value} {f : Fr} {css : List (List Value)} {fs : List Fr}
theorem FrAt.grown (h : FrAt R W cs f) (g : W.grownBy W' none) : FrAt R W' cs f := by
  obtain ⟨h0, dv, rv, h1, h2, h3⟩ := h
  exact ⟨h0, dv, rv, h1, h2.grown g, h3.grown g⟩
theorem FrAt.kept (h : FrAt R W cs f) (hk : ∀ b, R b → W'.heap[b]? = W.heap[b]?) : FrAt R W' cs f := by
  obtain ⟨h0, dv, rv, h1, h2, h3⟩ := h
  exact ⟨h0, dv, rv, h1, h2.kept hk, h3.kept hk⟩
theorem FrAt.mono (h : FrAt R W cs f) (hn : ∀ b, R b → T b) : FrAt T W cs f := by
  obtain ⟨h0, dv, rv, h1, h2, h3⟩ := h
  exact ⟨h0, dv, rv, h1, h2.mono hn, h3.mono hn⟩
theorem FrAt.own (h : FrAt R W cs f) : FrAt (fun b => b < W.heap.size) W cs f := by
  obtain ⟨h0, dv, rv, h1, h2, h3⟩ := h
  exact ⟨h0, dv, rv, h1, h2.own, h3.own⟩
theorem FrAt.len (h : FrAt R W cs f) : cs.length = 17 := by
  obtain ⟨h0, dv, rv, rfl, -⟩ := h
  exact Fr.len h0 dv rv
/-- Frames one behind the other. -/
structure Frs (R : Nat → Prop) (W : World) (css : List (List Value)) (fs : List Fr) : Prop where
  len : css.length = fs.length
  at_ : ∀ (i : Nat) c f, css[i]? = some c → fs[i]? = some f → FrAt R W c f
theorem Frs.grown (h : Frs R W css fs) (g : W.grownBy W' none) : Frs R W' css fs := ⟨h.len, fun i c f hc hf => (h.at_ i c f hc hf).grown g⟩
theorem Frs.kept (h : Frs R W css fs) (hk : ∀ b, R b → W'.heap[b]? = W.heap[b]?) : Frs R W' css fs := ⟨h.len, fun i c f hc hf => (h.at_ i c f hc hf).kept hk⟩
theorem Frs.l17 (h : Frs R W css fs) : ∀ c ∈ css, c.length = 17 := fun c hc => by
  obtain ⟨i, hi⟩ := List.getElem?_of_mem hc
  have hl := (List.getElem?_eq_some_iff.1 hi).1
  exact (h.at_ i c _ hi (List.getElem?_eq_getElem (by rw [← h.len]; exact hl))).len
end
/-- What a packet says. -/
structure St where
  nu : Int
  ti : Int
  si : Int
  el : Bool
  co : Bool
  pr : Bool
  tl : Int
  fs : List Fr
def St.cs (s : St) (fv : Value) : Array Value := #[.int .i64 s.nu, .int .i64 s.ti, .int .i64 s.si, .bool s.el, .bool s.co, .bool s.pr, .int .i64 s.tl, fv]
/-- The list of a packet's frames in memory. -/
def FvAt (R : Nat → Prop) (W : World) (fv : Value) (fs : List Fr) : Prop := fs.length ≤ 100000000 ∧ ∃ a c css, fv = .slice a fs.length c ∧ Frs R W css fs ∧ RdV W a css.flatten ∧ (fs ≠ [] → ∀ b off, a = some ⟨b, off, none⟩ → R b)
theorem FvAt.grown {R : Nat → Prop} {W W' : World} {fv : Value} {fs : List Fr} (h : FvAt R W fv fs) (g : W.grownBy W' none) : FvAt R W' fv fs := by
  obtain ⟨h0, a, c, css, h1, h3, h4, h5⟩ := h
  exact ⟨h0, a, c, css, h1, h3.grown g, h4.grown g, h5⟩
theorem FvAt.kept {R : Nat → Prop} {W W' : World} {fv : Value} {fs : List Fr} (h : FvAt R W fv fs) (hk : ∀ b, R b → W'.heap[b]? = W.heap[b]?) : FvAt R W' fv fs := by
  obtain ⟨h0, a, c, css, h1, h3, h4, h5⟩ := h
  refine ⟨h0, a, c, css, h1, h3.kept hk, h4.kept fun hx b off e => hk b (h5 (fun e2 => hx ?_) b off e), h5⟩
  have : css = [] := List.length_eq_zero_iff.1 (by rw [h3.len, e2]; rfl)
  rw [this]; rfl
end Go.Proofs.Ytnflbefbgcbdfaa
