/- The document's wheel: rows of deadlines, Cancel. -/
import Derived.Test.YtpkkgmcfificiaaDoorD7A
namespace Go.Proofs.YtpkkgmcfificiaaDoor
open Go.RowKit Go.Shelf Go.Maps
set_option linter.unusedVariables false
set_option maxRecDepth 100000
set_option maxHeartbeats 1000000

def tcl (p : Tm) : List Value := [.int .i64 (p.1 : Int), .int .i64 (p.2 : Int)]
theorem Tryd.infoTm : (Tryd.prog.info? 69).map (fun i => (i.zero, i.size, i.bytes)) = some (some (.agg #[.int .i64 0, .int .i64 0]), 2, 16) := by kernel_rfl

/-- A list of deadlines that the call has made. -/
structure TL (w wr : World) (lv : Value) (T : List Tm) : Prop where
  row : wr.ownsRow w.heap.size 69 2 lv T.length (T.flatMap tcl)
  gr : w.grownBy wr none

theorem TL.nil (w : World) : TL w w (.slice none 0 0) [] := ⟨World.ownsRow_nil _ _ _ _, World.grownBy.refl _ _⟩
theorem trow_kept {base n : Nat} {e : TypeId} {sz : Nat} {w w' : World} {v : Value} {xs : List Value} (h : w.ownsRow base e sz v n xs) (g : w.grownBy w' none) : w'.ownsRow base e sz v n xs := by
  have hl := h.lt
  refine ⟨h.1, ?_⟩
  rcases h.2 with h2 | ⟨g', cap, cur, rfl, q1, q2, q3⟩
  · exact .inl h2
  · exact .inr ⟨g', cap, cur, rfl, q1, by rw [g.block g' (hl g' rfl).2 (by simp)]; exact q2, q3⟩
theorem TL.grown {w wr W : World} {lv : Value} {T : List Tm} (h : TL w wr lv T) (g : wr.grownBy W none) : TL w W lv T := ⟨trow_kept h.row g, h.gr.trans g⟩

theorem TL.push {w wr : World} {lv : Value} {T : List Tm} (h : TL w wr lv T) (p : Tm) (few : T.length ≤ 1000000) :
    ∃ g c w', (Builtin.append_ #[60, 60] 60 #[lv, .slice (some ⟨wr.heap.size, 0, none⟩) 1 1]).run Tryd.prog (wr.alloc (.cells #[.int .i64 (p.1 : Int), .int .i64 (p.2 : Int)] 69)) = .ok (.slice (some ⟨g, 0, none⟩) (T.length + 1) c) w'
      ∧ TL w w' (.slice (some ⟨g, 0, none⟩) (T.length + 1) c) (T ++ [p]) := by
  obtain ⟨inf, hi0, hz0, hz1, hz2⟩ := info_parts Tryd.infoTm
  have hsz : (wr.alloc (.cells #[.int .i64 (p.1 : Int), .int .i64 (p.2 : Int)] 69)).heap.size = wr.heap.size + 1 := by show (wr.heap.push _).size = _; simp
  have gA := World.grownBy_alloc wr (.cells #[.int .i64 (p.1 : Int), .int .i64 (p.2 : Int)] 69) none
  have h1 := trow_kept h.row gA
  have hB := h.gr.size
  have hnews : ∀ (i : Nat) u, (tcl p)[i]? = some u → (wr.alloc (.cells #[.int .i64 (p.1 : Int), .int .i64 (p.2 : Int)] 69)).cell? ((⟨wr.heap.size, 0, none⟩ : Addr).add i) = some u := fun i u hu => by
    rw [show (⟨wr.heap.size, 0, none⟩ : Addr).add i = ⟨wr.heap.size, i, none⟩ by simp [Addr.add]; exact fun e => e.symm]
    simp only [World.cell?, heap_alloc_new]
    rw [← hu]
    simp [tcl]
  obtain ⟨v5, W5, hrun, o5, g5, -⟩ := run_append_own (P := Tryd.prog) (wr.alloc (.cells #[.int .i64 (p.1 : Int), .int .i64 (p.2 : Int)] 69)) w.heap.size 60 60 69 inf (.agg #[.int .i64 0, .int .i64 0]) 2 16 Tryd.underlying60 hi0 hz0 hz1 hz2 rfl (by decide) lv T.length (T.flatMap tcl) h1 ⟨wr.heap.size, 0, none⟩ 1 1 (tcl p) rfl hnews (fun u hu => by
    simp only [tcl, List.mem_cons, List.not_mem_nil, or_false] at hu
    rcases hu with rfl | rfl <;> rfl) (by unfold maxLen; omega) (by omega) (by omega)
  obtain ⟨h5, c5, rfl⟩ : ∃ h5 c5, v5 = .slice (some ⟨h5, 0, none⟩) (T.length + 1) c5 := by
    rcases o5.2 with ⟨-, e⟩ | ⟨g6, cap, cur, e, -⟩
    · omega
    · exact ⟨g6, cap, e⟩
  refine ⟨h5, c5, W5, hrun, ?_, ?_⟩
  · have e1 : (T ++ [p]).length = T.length + 1 := by simp
    have e2 : (T ++ [p]).flatMap tcl = T.flatMap tcl ++ tcl p := by simp
    rw [e1, e2]; exact o5
  · have k : Kp (fun g => w.heap.size ≤ g) wr W5 := (Kp.grown gA _).trans ⟨g5.os, g5.tape, g5.output, g5.size, fun g hg hn => g5.block g hg (fun e => hn ((h1.lt g e.symm).1))⟩
    have gg := h.gr
    exact ⟨k.os.trans gg.os, k.tape.trans gg.tape, k.output.trans gg.output, Nat.le_trans gg.size k.size, fun i hi hne => (k.block i (by have := gg.size; omega) (by omega)).trans (gg.block i hi hne)⟩

theorem TL.shape {w wr : World} {lv : Value} {T : List Tm} (h : TL w wr lv T) : ∃ a c, lv = .slice a T.length c := by
  rcases h.row.2 with ⟨e1, e2⟩ | ⟨g, cap, cur, e1, -⟩
  · exact ⟨none, 0, by rw [e1, e2]⟩
  · exact ⟨_, _, e1⟩

theorem flat_two (T : List Tm) (k : Nat) (p : Tm) (hk : T[k]? = some p) (j : Nat) (hj : j < 2) : (T.flatMap tcl)[k * 2 + j]? = (tcl p)[j]? := by
  induction T generalizing k with
  | nil => simp at hk
  | cons a t ih =>
    rw [List.flatMap_cons]
    cases k with
    | zero =>
      simp at hk; subst hk
      rw [Nat.zero_mul, Nat.zero_add, List.getElem?_append_left (by show j < 2; exact hj)]
    | succ k =>
      have h2 : (tcl a).length = 2 := rfl
      rw [List.getElem?_append_right (by rw [h2]; omega), h2, show (k + 1) * 2 + j - 2 = k * 2 + j by omega]
      exact ih k (by simpa using hk)

/-- Such a list, stored. -/
theorem rdT_of {w wr : World} {lv : Value} {T : List Tm} (h : TL w wr lv T) (Q : Nat → Prop) (R : Nat) (hR : R < w.heap.size) (hQ : ∀ g, w.heap.size ≤ g → g < wr.heap.size → Q g) : ∃ a cp, lv = .slice a T.length cp ∧ RdT wr Q R a cp T := by
  have hl := h.row.lt
  rcases h.row.2 with ⟨rfl, e2⟩ | ⟨g, cap, cur, rfl, q1, q2, q3, q4, q5, q6⟩
  · have : T = [] := List.eq_nil_of_length_eq_zero e2
    subst this
    exact ⟨none, 0, rfl, ⟨by simp, by omega⟩, .inl rfl⟩
  · have hg := hl g rfl
    refine ⟨_, _, rfl, ⟨by omega, by unfold maxLen at q4; omega⟩, .inr ⟨g, 0, rfl, by omega, hQ g q1 hg.2, hg.2, fun i p hp => ?_⟩⟩
    have hi : i < T.length := (List.getElem?_eq_some_iff.1 hp).1
    have c : ∀ j, j < 2 → wr.cell? ⟨g, 0 + i * 2 + j, none⟩ = (tcl p)[j]? := fun j hj => by
      simp only [World.cell?, q2, Nat.zero_add]
      have e : (cur.toList.take (T.length * 2))[i * 2 + j]? = (T.flatMap tcl)[i * 2 + j]? := by rw [q6]
      rw [List.getElem?_take, if_pos (by omega), Array.getElem?_toList] at e
      rw [e]
      exact flat_two T i p hp j hj
    exact ⟨c 0 (by omega), c 1 (by omega)⟩

/-- What one of its steps leaves. -/
def RSt (B : Nat) (w : World) (Q : Nat → Prop) (R c : Nat) (T : List Tm) (w' : World) : Prop := ∃ Q', RW B w' Q' R c T ∧ St w w' Q Q'

theorem rw_store {B : Nat} {w wr : World} {Q : Nat → Prop} {R c : Nat} {T T' : List Tm} {lv : Value} (h : RW B w Q R c T) (t : TL w wr lv T') : RSt B w Q R c T' (wr.setCell ⟨R, 1, none⟩ lv) := by
  obtain ⟨a0, cp0, b, r⟩ := h.ex
  have hR := h.lt R h.q
  obtain ⟨a, cp, rfl, r'⟩ := rdT_of t (fun g => Q g ∨ (w.heap.size ≤ g ∧ g < wr.heap.size)) R hR.2 (fun g h1 h2 => .inr ⟨h1, h2⟩)
  have bw := b.grown t.gr
  have bs := bw.setC 1 (.slice a T'.length cp)
  have k0 : Kp Q w wr := Kp.grown t.gr _
  have k1 := k0.set R 1 (.slice a T'.length cp) (fun _ => h.q)
  have ks : Kp (fun g => g = R) wr (wr.setCell ⟨R, 1, none⟩ (.slice a T'.length cp)) := (Kp.refl _ wr).set R 1 _ (fun _ => rfl)
  have sz : (wr.setCell ⟨R, 1, none⟩ (.slice a T'.length cp)).heap.size = wr.heap.size := set_size _ _ _ _
  refine ⟨fun g => Q g ∨ (w.heap.size ≤ g ∧ g < wr.heap.size), ⟨⟨a, cp, bs, r'.kept (by omega) (fun g _ hn hl => ks.block g hl hn)⟩, .inl h.q, fun g hg => ?_⟩, k1, fun g hg => .inl hg, fun g hg => ?_⟩
  · have := t.gr.size
    rw [sz]
    rcases hg with hg | hg
    · exact ⟨(h.lt g hg).1, by have := (h.lt g hg).2; omega⟩
    · exact ⟨by omega, hg.2⟩
  · rcases hg with hg | hg
    · exact .inl hg
    · exact .inr hg.1
end Go.Proofs.YtpkkgmcfificiaaDoor
