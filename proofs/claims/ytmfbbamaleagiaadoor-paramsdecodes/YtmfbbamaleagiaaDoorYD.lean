/- The document's Decode: its parts. -/
import Derived.Test.YtmfbbamaleagiaaDoorYK
namespace Go.Proofs.YtmfbbamaleagiaaDoor
open Go.RowKit
set_option linter.unusedVariables false
set_option maxRecDepth 100000
set_option maxHeartbeats 1000000

/-- A number that fills its bytes, read among them or where they stand. -/
theorem get_sub (l : List Int) (U n : Nat) (h : U + n ≤ l.length) :
    ((getF ((l.drop U).take n) 0).2.2 = 0 ∧ (getF ((l.drop U).take n) 0).2.1 = n ↔ (getF l U).2.2 = 0 ∧ (getF l U).2.1 = (U : Int) + n) ∧ ((getF l U).2.2 = 0 → (getF l U).2.1 = (U : Int) + n → (getF ((l.drop U).take n) 0).1 = (getF l U).1) := by
  have hsl : ((l.drop U).take n).length = n := by rw [List.length_take, List.length_drop]; omega
  rcases Nat.eq_zero_or_pos n with rfl | hn
  · have e0 : getF ((l.drop U).take 0) 0 = (0, 0, 11) := by simp [getF]
    rw [e0]
    rcases getF_cases l U with ⟨c, hc, e⟩ | ⟨k, hk, h1, h2, e⟩
    · rw [e]; simp only
      refine ⟨⟨fun x => by simp at x, fun x => by omega⟩, fun x => by omega⟩
    · rw [e]; simp only
      have hz := sz_size (l.getD k 0)
      refine ⟨⟨fun x => by simp at x, fun x => by omega⟩, fun _ x => by omega⟩
  · have hx : ((l.drop U).take n).getD 0 0 = l.getD U 0 := by
      simp [List.getD, hn]
    rcases getF_cases l U with ⟨c, hc, e⟩ | ⟨k, hk, h1, h2, e⟩
    · -- the bytes end: so they do among them
      have hs : ¬ 0 + sz (l.getD U 0) ≤ ((l.drop U).take n).length := by
        intro c2
        rw [hsl] at c2
        have := getF_in l U _ _ rfl rfl (by omega : U + sz (l.getD U 0) ≤ l.length) (by omega)
        rw [this] at e
        simp at e
        omega
      have e2 := getF_short ((l.drop U).take n) 0 _ _ hx rfl hs (by omega)
      have e2' : getF ((l.drop U).take n) 0 = (0, 0, 11) := e2
      rw [e2', e]; simp only
      refine ⟨⟨fun x => by simp at x, fun x => by omega⟩, fun x => by omega⟩
    · obtain rfl : U = k := by omega
      rw [e]
      by_cases hm : sz (l.getD U 0) ≤ n
      · have e2 := getF_in ((l.drop U).take n) 0 _ _ hx rfl (by rw [hsl]; omega) (by omega)
        have e2' : getF ((l.drop U).take n) 0 = (joinF (l.getD U 0 % 64) ((((l.drop U).take n).drop (0 + 1)).take (sz (l.getD U 0) - 1)), ((0 : Nat) : Int) + (sz (l.getD U 0) : Int), 0) := e2
        have e3 : (((l.drop U).take n).drop (0 + 1)).take (sz (l.getD U 0) - 1) = (l.drop (U + 1)).take (sz (l.getD U 0) - 1) := by
          rw [List.drop_take, List.drop_drop, List.take_take]
          congr 1
          omega
        rw [e2', e3]
        refine ⟨⟨fun ⟨_, x⟩ => ⟨rfl, ?_⟩, fun ⟨_, x⟩ => ⟨rfl, ?_⟩⟩, fun _ _ => rfl⟩
        · simp only at x ⊢; omega
        · simp only at x ⊢; omega
      · have e2 := getF_short ((l.drop U).take n) 0 _ _ hx rfl (by rw [hsl]; omega) (by omega)
        have e2' : getF ((l.drop U).take n) 0 = (0, 0, 11) := e2
        rw [e2']; simp only
        refine ⟨⟨fun x => by simp at x, fun x => by omega⟩, fun _ x => by omega⟩

theorem place_known (n : Int) (h0 : 0 ≤ n) : (knownB n = true → 1 ≤ n ∧ n ≤ 11 ∧ placeF n = some (ixF n.toNat)) ∧ (knownB n = false → placeF n = none) := by
  by_cases h : n ≤ 11
  · obtain ⟨k, rfl⟩ := Int.eq_ofNat_of_zero_le h0
    obtain rfl | rfl | rfl | rfl | rfl | rfl | rfl | rfl | rfl | rfl | rfl | rfl : k = 0 ∨ k = 1 ∨ k = 2 ∨ k = 3 ∨ k = 4 ∨ k = 5 ∨ k = 6 ∨ k = 7 ∨ k = 8 ∨ k = 9 ∨ k = 10 ∨ k = 11 := by omega
    all_goals exact ⟨by decide, by decide⟩
  · have hk : knownB n = false := by unfold knownB; simp; omega
    refine ⟨fun c => (by rw [hk] at c; cases c), fun _ => ?_⟩
    have key : ∀ f k, f + k = 9 → placeFrom n f k = none := by
      intro f
      induction f with
      | zero => intro k _; rfl
      | succ f ih =>
        intro k hk
        unfold placeFrom
        rw [if_neg (by have := (most_small k (by omega)).2.2; omega)]
        exact ih (k + 1) (by omega)
    exact key 9 0 rfl

/-- The numbers that came, in a row. -/
def OwnU (base : Nat) (w : World) (v : Value) (cm : List Int) : Prop := w.ownsRow base 52 1 v cm.length (cm.map (Value.int .u64))
theorem Tryd.infoU : (Tryd.prog.info? 52).map (fun i => (i.zero, i.size, i.bytes)) = some (some (.int .u64 0), 1, 8) := by kernel_rfl

theorem OwnU.shape {base : Nat} {w : World} {v : Value} {d : List Int} (h : OwnU base w v d) : ∃ a c, v = .slice a d.length c ∧ d.length ≤ c ∧ c ≤ maxLen ∧ (d ≠ [] → ∃ g, a = some ⟨g, 0, none⟩ ∧ ∀ i, i < d.length → w.cell? ⟨g, i, none⟩ = some (.int .u64 (d.getD i 0))) := by
  rcases h.2 with ⟨h1, h2⟩ | ⟨g, cap, cur, e1, hb, hgg, hc, hm, -⟩
  · have : d = [] := List.eq_nil_of_length_eq_zero h2
    subst this
    exact ⟨none, 0, h1, Nat.le_refl _, Nat.zero_le _, fun c => absurd rfl c⟩
  · refine ⟨_, _, e1, hc, hm, fun _ => ⟨g, rfl, fun i hi => ?_⟩⟩
    have := World.ownsRow.cells h (g := g) (by rw [e1]; rfl) i (.int .u64 (d.getD i 0)) (by simp [hi, List.getD])
    have hadd : (⟨g, 0, none⟩ : Addr).add i = ⟨g, i, none⟩ := by unfold Addr.add; split <;> simp_all
    rw [hadd] at this
    exact this

theorem among_any (id : Int) (a : Option Addr) (d : List Int) (n c : Nat) (w : World) (hn : d.length = n) (hc : n ≤ c) (hm : c ≤ maxLen) (hr : d ≠ [] → ∃ g, a = some ⟨g, 0, none⟩ ∧ ∀ i, i < d.length → w.cell? ⟨g, i, none⟩ = some (.int .u64 (d.getD i 0))) :
    Calls Tryd.prog 36 #[.int .u64 id, .slice a n c] w fun e w' => e = .returned (.bool (d.contains id)) ∧ w' = w := by
  subst hn
  unfold maxLen at hm
  generalize hR : d.contains id = R
  go_enter Tryd.func36, Tryd.ntmps36
  go_wp2_with fail
  go_loopw [5] (fun i wr => ∃ k : Nat, k ≤ d.length ∧ i = .int .i64 k ∧ R = (d.drop k).contains id ∧ w = wr) (fun i _ => d.length - (intOf i).toNat)
  case atStart => exact ⟨0, by omega, rfl, by rw [← hR]; simp, rfl⟩
  case round =>
    obtain ⟨k, hk, rfl, hp, rfl⟩ := hrel
    by_cases hk9 : k = d.length
    · have hnlt : ¬ (k : Int) < (d.length : Int) := by omega
      have F : R = false := by rw [hp, hk9]; simp
      have HF := hide F
      have hd : decide ((k : Int) < (d.length : Int)) = false := decide_eq_false hnlt
      clear hp F hr hk9 hR
      generalize d.length = n at *
      go_wp2_with fail
      go_ret
      exact ⟨by rw [unhide HF]; rfl, rfl⟩
    · have hlt : (k : Int) < (d.length : Int) := by omega
      obtain ⟨g, rfl, hcell⟩ := hr (fun e => by rw [e] at hlt; simp at hlt; omega)
      have c1 := hcell k (by omega)
      have hdr : d.drop k = d.getD k 0 :: d.drop (k + 1) := by
        rw [List.drop_eq_getElem_cons (by omega)]; congr 1; simp [List.getD, show k < d.length by omega]
      rw [hdr, List.contains_cons] at hp
      generalize hx : d.getD k 0 = x at *
      by_cases he : x = id
      · have F : R = true := by rw [hp, he]; simp
        have HF := hide F
        have hd : (x == id) = true := by simpa using he
        clear hp F hcell hdr hx he hr hR
        generalize d.length = n at *
        go_wp2_with fail
        go_ret
        exact ⟨by rw [unhide HF]; rfl, rfl⟩
      · have he' : ¬ id = x := fun q => he q.symm
        have F : R = (d.drop (k + 1)).contains id := by rw [hp]; simp [he']
        have HF := hide F
        have hd : (x == id) = false := by simpa using he
        clear hp F hcell hdr hx he he' hR
        have HN : Hid (∃ m, m = d.length) := ⟨_, rfl⟩
        go_wp2_with fail
        exact ⟨⟨k + 1, by omega, rfl, unhide HF, trivial⟩, by simp [intOf]; omega⟩

/-- One more. -/
theorem app_u64 (w0 w : World) (v : Value) (cm : List Int) (id : Int) (ho : OwnU w0.heap.size w v cm) (hg : w0.grownBy w none) (hm : cm.length + 1 ≤ 17592186044416) :
    ∃ v' w', (∀ ty, (Builtin.append_ #[69, 69] ty #[v, .slice (some ⟨w.heap.size, 0, none⟩) 1 1]).run Tryd.prog (w.alloc (.cells #[.int .u64 id] 52)) = .ok v' w') ∧ OwnU w0.heap.size w' v' (cm ++ [id]) ∧ Moved (w.alloc (.cells #[.int .u64 id] 52)) w' v v' := by
  obtain ⟨inf, hi0, hz0, hz1, hz2⟩ := info_parts Tryd.infoU
  have ga := World.grownBy_alloc w (.cells #[.int .u64 id] 52) none
  have ho1 : (w.alloc (.cells #[.int .u64 id] 52)).ownsRow w0.heap.size 52 1 v cm.length (cm.map (Value.int .u64)) := World.ownsRow.kept ho ga (by cases v.ownBlock <;> simp)
  have key := fun ty => app_keep (P := Tryd.prog) (w.alloc (.cells #[.int .u64 id] 52)) w0.heap.size 69 ty 52 inf (.int .u64 0) 8 Tryd.underlying69 hi0 hz0 hz1 hz2 rfl v cm.length (cm.map (Value.int .u64)) ho1 ⟨w.heap.size, 0, none⟩ 1 1 [.int .u64 id] rfl
    (fun j u hu => by
      have hj : j = 0 := by
        rcases j with _ | j
        · rfl
        · simp at hu
      subst hj
      simp at hu
      subst hu
      exact (Blk.new w #[.int .u64 id] 52).cell 0 _ rfl)
    (fun u hu => by simp at hu; subst hu; rfl) (by omega) (by unfold maxLen; omega) (by omega) (Nat.le_trans hg.size ga.size)
  obtain ⟨v', w', hr', ho', hmv, -⟩ := key 0
  refine ⟨v', w', fun ty => ?_, ?_, hmv⟩
  · have : (Builtin.append_ #[69, 69] ty #[v, .slice (some ⟨w.heap.size, 0, none⟩) 1 1]).run Tryd.prog (w.alloc (.cells #[.int .u64 id] 52)) = (Builtin.append_ #[69, 69] 0 #[v, .slice (some ⟨w.heap.size, 0, none⟩) 1 1]).run Tryd.prog (w.alloc (.cells #[.int .u64 id] 52)) := rfl
    rw [this]; exact hr'
  · unfold OwnU; simpa using ho'

/-- No two alike, all below n: at most n. -/
theorem pigeon : ∀ (n : Nat) (l : List Int), l.Nodup → (∀ x ∈ l, 0 ≤ x ∧ x < n) → l.length ≤ n := by
  intro n
  induction n with
  | zero =>
    intro l _ h
    cases l with
    | nil => exact Nat.le_refl _
    | cons x r => have := h x (List.mem_cons_self ..); omega
  | succ n ih =>
    intro l hn h
    have one : ∀ l : List Int, l.Nodup → l.length ≤ (l.filter (fun (x : Int) => decide (x ≠ (n : Int)))).length + 1 := by
      intro l
      induction l with
      | nil => intro _; simp
      | cons x r ihr =>
        intro hd
        obtain ⟨h1, h2⟩ := List.nodup_cons.1 hd
        by_cases e : x = n
        · have : (r.filter (fun (x : Int) => decide (x ≠ (n : Int)))) = r := by
            apply List.filter_eq_self.2
            intro y hy
            simp only [decide_eq_true_eq]
            intro c
            exact h1 (by rw [e, ← c]; exact hy)
          rw [List.filter_cons, if_neg (by simp [e]), this]
          simp
        · rw [List.filter_cons, if_pos (by simpa using e)]
          have := ihr h2
          simp only [List.length_cons]; omega
    have h2 := ih (l.filter (fun (x : Int) => decide (x ≠ (n : Int)))) (List.Pairwise.filter _ hn) (fun x hx => by
      rw [List.mem_filter] at hx
      have := h x hx.1
      have hne : x ≠ n := by simpa using hx.2
      omega)
    have := one l hn
    omega

/-- How many bytes numbers take at least, each with a length behind. -/
def wsum : List Int → Nat
  | [] => 0
  | x :: r => sizeF x + 1 + wsum r
theorem wsum_snoc (l : List Int) (x : Int) : wsum (l ++ [x]) = wsum l + (sizeF x + 1) := by
  induction l with
  | nil => simp [wsum]
  | cons y r ih => simp only [List.cons_append, wsum, ih]; omega
theorem wsum_len (l : List Int) (h : ∀ x ∈ l, 0 ≤ x ∧ x ≤ 4611686018427387903) : 9 * l.length ≤ wsum l + 8 * (l.filter (fun (x : Int) => decide (x < 1073741824))).length := by
  induction l with
  | nil => simp [wsum]
  | cons x r ih =>
    have h1 := ih (fun y hy => h y (List.mem_cons_of_mem _ hy))
    have h2 := h x (List.mem_cons_self ..)
    by_cases c : x < 1073741824
    · rw [List.filter_cons, if_pos (by simpa using c)]
      simp only [List.length_cons, wsum]; omega
    · rw [List.filter_cons, if_neg (by simpa using c)]
      have : sizeF x = 8 := by unfold sizeF; rw [if_neg (by omega), if_neg (by omega), if_neg c, if_pos h2.2]
      simp only [List.length_cons, wsum]; omega
/-- So many numbers that are not alike find room. -/
theorem count_small (l : List Int) (hn : l.Nodup) (h : ∀ x ∈ l, 0 ≤ x ∧ x ≤ 4611686018427387903) (k : Nat) (hk : wsum l ≤ k) (hs : k ≤ 140737488355328) : l.length + 1 ≤ 17592186044416 := by
  have h1 := wsum_len l h
  have h2 := pigeon 1073741824 (l.filter (fun (x : Int) => decide (x < 1073741824))) (List.Pairwise.filter _ hn) (fun x hx => by
    rw [List.mem_filter] at hx
    have := h x hx.1
    have hlt : x < 1073741824 := by simpa using hx.2
    omega)
  omega
theorem getF_size' (l : List Int) (hb : ∀ x ∈ l, IsB x) (i : Int) (h : (getF l i).2.2 = 0) : i + sizeF (getF l i).1 ≤ (getF l i).2.1 := by
  rcases getF_cases l i with ⟨c, hc, e⟩ | ⟨k, rfl, h1, h2, e⟩
  · rw [e] at h; simp at h; omega
  · rw [e]
    have hx : IsB (l.getD k 0) := hb _ (by simp [List.getD, h1])
    have hz := sz_size (l.getD k 0)
    obtain ⟨h3, h4, -⟩ := lay_back (l.getD k 0) ((l.drop (k + 1)).take (sz (l.getD k 0) - 1)) hx (fun y hy => hb y (List.mem_of_mem_drop (List.mem_of_mem_take hy))) (by rw [List.length_take, List.length_drop]; omega)
    have h5 := (size_le _ _ h4).1
    simp only
    omega
end Go.Proofs.YtmfbbamaleagiaaDoor
