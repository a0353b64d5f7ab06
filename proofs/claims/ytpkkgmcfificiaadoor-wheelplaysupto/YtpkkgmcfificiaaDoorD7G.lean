/- The owner of what came out: its lists in memory. -/
import Derived.Test.YtpkkgmcfificiaaDoorD7F
import Derived.Laws.OwnMore
namespace Go.Proofs.YtpkkgmcfificiaaDoor
open Go.RowKit Go.Shelf Go.Maps
set_option linter.unusedVariables false
set_option maxRecDepth 100000
set_option maxHeartbeats 1000000

/-- Where the value lies now: in the row that it had; or in a new one. -/
def Moved (w w' : World) (v v' : Value) : Prop := (v'.ownBlock = v.ownBlock ∧ w.grownBy w' v.ownBlock) ∨ (v'.ownBlock = some w.heap.size ∧ w.grownBy w' none ∧ w.heap.size < w'.heap.size)
theorem grown_drew_alloc (w : World) (o : Obj) : w.grownBy (w.drew.alloc o) none ∧ w.heap.size < (w.drew.alloc o).heap.size :=
  ⟨⟨rfl, rfl, rfl, by simp, fun k hk _ => by have := World.grownBy_alloc w.drew o none; exact this.block k hk (by simp)⟩, by simp⟩
theorem app_keep {P : Program} (w : World) (base : Nat) (t ty e : TypeId) (i : TypeInfo) (z : Value) (bytes : Nat) (ht : P.underlying t = some (.slice e)) (hi : P.info? e = some i) (hz : i.zero = some z)
    (hsize : i.size = 1) (hby : i.bytes = bytes) (hzs : z.cells.size = 1)
    (v : Value) (n : Nat) (xs : List Value) (hown : w.ownsRow base e 1 v n xs)
    (a : Addr) (m c : Nat) (news : List Value) (hl : news.length = m) (hnews : ∀ j u, news[j]? = some u → w.cell? (a.add j) = some u) (h1 : ∀ u ∈ news, u.oneCell' = true)
    (hm : 0 < m) (h63 : n + m ≤ maxLen) (hbytes : (n + m) * bytes ≤ 140737488355328) (hbase : base ≤ w.heap.size) :
    ∃ v' w', (Builtin.append_ #[t, t] ty #[v, .slice (some a) m c]).run P w = .ok v' w' ∧ w'.ownsRow base e 1 v' (n + m) (xs ++ news) ∧ Moved w w' v v' ∧ v' ≠ .slice none 0 0 := by
  obtain ⟨v', w', hr, ho, hg, hnil⟩ := run_append_own (P := P) w base t ty e i z 1 bytes ht hi hz hsize hby hzs (by decide) v n xs hown a m c news (by omega) hnews h1 h63 hbytes hbase
  refine ⟨v', w', hr, ho, ?_, fun h => by have := (hnil.1 h).2; omega⟩
  have h63' : n + m ≤ 9223372036854775807 := by simp only [maxLen] at h63; omega
  rcases hown.2 with ⟨rfl, rfl⟩ | ⟨g, cap, cur, rfl, hbg, hgg, hnc, hcm, hcs, htake⟩
  · have := run_append_nil (P := P) w t ty e i z ht hi hz a m c news (by rw [hsize]; omega) hnews hm (by omega) (by rw [hby]; simp only [Nat.zero_add] at hbytes; omega)
    rw [this] at hr
    injection hr with e1 e2
    subst e1 e2
    exact .inr ⟨rfl, grown_drew_alloc w _⟩
  · by_cases hroom : n + m ≤ cap
    · have := run_append_room (P := P) w t ty e i ht hi g n cap cur hgg a m c news (by rw [hsize]; omega) hnews h1 hroom (by rw [hsize, hcs]; omega)
      rw [this] at hr
      injection hr with e1 e2
      subst e1
      exact .inl ⟨rfl, hg⟩
    · have := run_append_grow (P := P) w t ty e i z ht hi hz ⟨g, 0, none⟩ n cap xs (by rw [hsize]; exact hown.1) (hown.cells (g := g) rfl) a m c news (by rw [hsize]; omega) hnews (by omega) (by omega) (growslice_fits (by omega) (by rw [hby]; exact hbytes))
      rw [this] at hr
      injection hr with e1 e2
      subst e1 e2
      exact .inr ⟨rfl, grown_drew_alloc w _⟩

theorem app_keepS {P : Program} (w : World) (base : Nat) (t ty e : TypeId) (i : TypeInfo) (z : Value) (size bytes : Nat) (ht : P.underlying t = some (.slice e)) (hi : P.info? e = some i) (hz : i.zero = some z)
    (hsize : i.size = size) (hby : i.bytes = bytes) (hzs : z.cells.size = size) (hs0 : 0 < size)
    (v : Value) (n : Nat) (xs : List Value) (hown : w.ownsRow base e size v n xs)
    (a : Addr) (m c : Nat) (news : List Value) (hl : news.length = m * size) (hnews : ∀ j u, news[j]? = some u → w.cell? (a.add j) = some u) (h1 : ∀ u ∈ news, u.oneCell' = true)
    (hm : 0 < m) (h63 : n + m ≤ maxLen) (hbytes : (n + m) * bytes ≤ 140737488355328) (hbase : base ≤ w.heap.size) :
    ∃ v' w', (Builtin.append_ #[t, t] ty #[v, .slice (some a) m c]).run P w = .ok v' w' ∧ w'.ownsRow base e size v' (n + m) (xs ++ news) ∧ Moved w w' v v' ∧ v' ≠ .slice none 0 0 := by
  obtain ⟨v', w', hr, ho, hg, hnil⟩ := run_append_own (P := P) w base t ty e i z size bytes ht hi hz hsize hby hzs hs0 v n xs hown a m c news hl hnews h1 h63 hbytes hbase
  refine ⟨v', w', hr, ho, ?_, fun h => by have := (hnil.1 h).2; omega⟩
  have h63' : n + m ≤ 9223372036854775807 := by simp only [maxLen] at h63; omega
  rcases hown.2 with ⟨rfl, rfl⟩ | ⟨g, cap, cur, rfl, hbg, hgg, hnc, hcm, hcs, htake⟩
  · have := run_append_nil (P := P) w t ty e i z ht hi hz a m c news (by rw [hsize]; exact hl) hnews hm (by omega) (by rw [hby]; simp only [Nat.zero_add] at hbytes; omega)
    rw [this] at hr
    injection hr with e1 e2
    subst e1 e2
    exact .inr ⟨rfl, grown_drew_alloc w _⟩
  · by_cases hroom : n + m ≤ cap
    · have := run_append_room (P := P) w t ty e i ht hi g n cap cur hgg a m c news (by rw [hsize]; exact hl) hnews h1 hroom (by rw [hsize, hcs, hl, ← Nat.add_mul]; exact Nat.mul_le_mul_right _ hroom)
      rw [this] at hr
      injection hr with e1 e2
      subst e1
      exact .inl ⟨rfl, hg⟩
    · have := run_append_grow (P := P) w t ty e i z ht hi hz ⟨g, 0, none⟩ n cap xs (by rw [hsize]; exact hown.1) (hown.cells (g := g) rfl) a m c news (by rw [hsize]; exact hl) hnews (by omega) (by omega) (growslice_fits (by omega) (by rw [hby]; exact hbytes))
      rw [this] at hr
      injection hr with e1 e2
      subst e1 e2
      exact .inr ⟨rfl, grown_drew_alloc w _⟩

/-- A list that its owner has written full. -/
structure En where
  a : Option Addr
  n : Nat
  c : Nat
  m : Int
def En.cl (e : En) : List Value := [.slice e.a e.n e.c, .int .i64 e.m]
structure EOk (w : World) (V : Nat → Prop) (e : En) : Prop where
  cap : e.n ≤ e.c ∧ e.c ≤ 9223372036854775807
  at_ : e.n = 0 ∨ ∃ g, e.a = some ⟨g, 0, none⟩ ∧ V g ∧ g < w.heap.size ∧ ∀ i, i < e.n → w.cell? ⟨g, i, none⟩ = some (.int .i64 e.m)
theorem EOk.kept {w w' : World} {V : Nat → Prop} {e : En} (h : EOk w V e) (hs : w.heap.size ≤ w'.heap.size) (hk : ∀ g, V g → g < w.heap.size → w'.heap[g]? = w.heap[g]?) : EOk w' V e := by
  refine ⟨h.cap, ?_⟩
  rcases h.at_ with h1 | ⟨g, ea, hv, hl, hc⟩
  · exact .inl h1
  · refine .inr ⟨g, ea, hv, by omega, fun i hi => ?_⟩
    have k := hk g hv hl
    rw [← hc i hi]
    simp only [World.cell?, k]
theorem EOk.mono {w : World} {V V' : Nat → Prop} {e : En} (h : EOk w V e) (hv : ∀ g, V g → V' g) : EOk w V' e := by
  refine ⟨h.cap, ?_⟩
  rcases h.at_ with h1 | ⟨g, ea, hg, hl, hc⟩
  · exact .inl h1
  · exact .inr ⟨g, ea, hv g hg, hl, hc⟩

abbrev marks (n : Nat) (m : Int) : List Value := List.replicate n (.int .i64 m)
/-- A row full of marks is such a list. -/
theorem eok_of {w : World} {B n c : Nat} {a : Option Addr} {m : Int} (h : w.ownsRow B 3 1 (.slice a n c) n (marks n m)) (V : Nat → Prop) (hV : ∀ g, (Value.slice a n c).ownBlock = some g → V g) : EOk w V ⟨a, n, c, m⟩ := by
  have hl := h.lt
  rcases id h.2 with ⟨e, e2⟩ | ⟨g, cap, cur, e, q1, q2, q3, q4, q5, q6⟩
  · simp only [Value.slice.injEq] at e
    obtain ⟨rfl, rfl, rfl⟩ := e
    exact ⟨⟨Nat.le_refl _, Nat.zero_le _⟩, .inl rfl⟩
  · simp only [Value.slice.injEq] at e
    obtain ⟨rfl, -, rfl⟩ := e
    refine ⟨⟨q3, by unfold maxLen at q4; omega⟩, .inr ⟨g, rfl, hV g rfl, (hl g rfl).2, fun i hi => ?_⟩⟩
    rw [World.ownsRow.cellAt h i (by simpa using hi)]
    simp only at hi
    rw [List.getElem?_replicate, if_pos hi]

/-- One mark more: the list that was there still reads as it did. -/
theorem mark_push {w : World} {B n : Nat} {v : Value} {m : Int} (h : w.ownsRow B 3 1 v n (marks n m)) {V : Nat → Prop} {e : En} (he : EOk w V e) (hn : e.n ≤ n) (hem : e.m = m) (few : n ≤ 1000000) (hB : B ≤ w.heap.size) :
    ∃ g c w', (Builtin.append_ #[30, 30] 30 #[v, .slice (some ⟨w.heap.size, 0, none⟩) 1 1]).run Tryd.prog (w.alloc (.cells #[.int .i64 m] 3)) = .ok (.slice (some ⟨g, 0, none⟩) (n + 1) c) w'
      ∧ w'.ownsRow B 3 1 (.slice (some ⟨g, 0, none⟩) (n + 1) c) (n + 1) (marks (n + 1) m) ∧ EOk w' V e ∧ (v.ownBlock = some g ∨ w.heap.size ≤ g) ∧ Kp (fun x => v.ownBlock = some x) w w' ∧ ∀ (x : Nat) (cs : Array Value), w.heap[x]? = some (Obj.cells cs 3 (0, 0)) → ∃ cs', w'.heap[x]? = some (Obj.cells cs' 3 (0, 0)) := by
  obtain ⟨inf, hi0, hz0, hz1, hz2⟩ := info_parts Tryd.infoI
  have hsz : (w.alloc (.cells #[.int .i64 m] 3)).heap.size = w.heap.size + 1 := by show (w.heap.push _).size = _; simp
  have gA := World.grownBy_alloc w (.cells #[.int .i64 m] 3) none
  have h1 := trow_kept h gA
  have he1 := he.kept gA.size (fun i _ hi => gA.block i hi (by simp))
  obtain ⟨v', w', hr, ho, mv, hne⟩ := app_keep (P := Tryd.prog) (w.alloc (.cells #[.int .i64 m] 3)) B 30 30 3 inf (.int .i64 0) 8 Tryd.underlying30 hi0 hz0 hz1 hz2 rfl v n (marks n m) h1 ⟨w.heap.size, 0, none⟩ 1 1 [.int .i64 m] rfl (fun i u hu => by
    rw [show (⟨w.heap.size, 0, none⟩ : Addr).add i = ⟨w.heap.size, i, none⟩ by simp [Addr.add]; exact fun e => e.symm]
    simp only [World.cell?, heap_alloc_new]
    rw [← hu]
    simp) (fun u hu => by simp only [List.mem_cons, List.not_mem_nil, or_false] at hu; subst hu; rfl) (by omega) (by unfold maxLen; omega) (by omega) (by omega)
  have em : marks n m ++ [.int .i64 m] = marks (n + 1) m := by simp [marks, List.replicate_succ']
  rw [em] at ho
  obtain ⟨g, c, rfl⟩ : ∃ g c, v' = .slice (some ⟨g, 0, none⟩) (n + 1) c := by
    rcases ho.2 with ⟨e, -⟩ | ⟨g6, cap, cur, e, -⟩
    · exact absurd e hne
    · exact ⟨g6, cap, e⟩
  have kg : Kp (fun x => v.ownBlock = some x) w w' := by
    refine (Kp.grown gA _).trans ?_
    rcases mv with ⟨-, gg⟩ | ⟨-, gg, -⟩
    · exact ⟨gg.os, gg.tape, gg.output, gg.size, fun x hx hn => gg.block x hx (fun e => hn e.symm)⟩
    · exact Kp.grown gg _
  refine ⟨g, c, w', hr, ho, ?_, ?_, kg, fun x cs hx => ?_⟩
  rotate_left 2
  · have hxl : x < w.heap.size := Blk.lt (cs := cs) (t := 3) hx
    have hxA : (w.alloc (.cells #[.int .i64 m] 3)).heap[x]? = some (.cells cs 3 (0, 0)) := (gA.block x hxl (by simp)).trans hx
    by_cases c1 : g = x
    · subst c1
      rcases ho.2 with ⟨e, -⟩ | ⟨g6, cap, cur, e, -, q2, -⟩
      · cases e
      · simp only [Value.slice.injEq, Option.some.injEq, Addr.mk.injEq, and_true] at e
        obtain ⟨rfl, -⟩ := e
        exact ⟨cur, q2⟩
    · refine ⟨cs, ?_⟩
      rcases mv with ⟨e1, gg⟩ | ⟨-, gg, -⟩
      · refine (gg.block x (by omega) (fun e => c1 ?_)).trans hxA
        rw [← e1] at e
        have : some x = some g := e
        cases this; rfl
      · exact (gg.block x (by omega) (by simp)).trans hxA
  · refine ⟨he.cap, ?_⟩
    rcases he1.at_ with h0 | ⟨ge, ea, hv, hl, hc⟩
    · exact .inl h0
    · refine .inr ⟨ge, ea, hv, ?_, fun i hi => ?_⟩
      · rcases mv with ⟨-, gg⟩ | ⟨-, gg, -⟩ <;> exact Nat.lt_of_lt_of_le hl gg.size
      · by_cases c1 : g = ge
        · subst c1
          rw [World.ownsRow.cellAt ho i (by omega), List.getElem?_replicate, if_pos (by omega), hem]
        · have : w'.heap[ge]? = (w.alloc (.cells #[.int .i64 m] 3)).heap[ge]? := by
            rcases mv with ⟨e1, gg⟩ | ⟨-, gg, -⟩
            · refine gg.block ge hl (fun e => c1 ?_)
              rw [← e1] at e
              have : some ge = some g := e
              cases this; rfl
            · exact gg.block ge hl (by simp)
          rw [← hc i hi]
          simp only [World.cell?, this]
  · rcases mv with ⟨e1, -⟩ | ⟨e1, -, -⟩
    · exact .inl e1.symm
    · right
      have : some g = some (w.alloc (.cells #[.int .i64 m] 3)).heap.size := e1
      cases this
      omega
end Go.Proofs.YtpkkgmcfificiaaDoor
