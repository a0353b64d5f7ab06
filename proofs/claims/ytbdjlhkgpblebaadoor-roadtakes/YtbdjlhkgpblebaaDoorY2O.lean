/- Road: a datagram as it is told. -/
import Derived.Test.YtbdjlhkgpblebaaDoorY2N
import Derived.Lib.ConvBytes
import Derived.Laws.MakeOwn
namespace Go.Proofs.YtbdjlhkgpblebaaDoor
open Go.RowKit Go.Shelf Go.Maps
set_option linter.unusedVariables false
set_option linter.unusedSimpArgs false
set_option maxRecDepth 100000
set_option maxHeartbeats 1000000

/-- One that is told: its bytes lie in a block of their own. -/
structure Fl where
  g : Gm
  db : Nat
  cap : Nat
def Fl.cs (f : Fl) : Array Value := #[.int .i64 (f.g.id : Int), .int .i64 f.g.to, .int .i64 (f.g.at_ : Int), .slice (some ⟨f.db, 0, none⟩) f.g.tx.length f.cap, .int .i64 f.g.mark]
structure FlOk (base : Nat) (w : World) (f : Fl) : Prop where
  lo : base ≤ f.db
  lt : f.db < w.heap.size
  rd : Rd w (some ⟨f.db, 0, none⟩) f.g.tx
  cap : f.g.tx.length ≤ f.cap ∧ f.cap ≤ 9223372036854775807
  blk : ∃ cs : Array Value, w.heap[f.db]? = some (.cells cs 5 (cs.size, cs.size + 1)) ∧ cs.size = f.cap
theorem FlOk.kept {base : Nat} {w w' : World} {f : Fl} (h : FlOk base w f) (hs : w.heap.size ≤ w'.heap.size) (hk : w'.heap[f.db]? = w.heap[f.db]?) : FlOk base w' f := by
  obtain ⟨cs, h1, h2⟩ := h.blk
  refine ⟨h.lo, Nat.lt_of_lt_of_le h.lt hs, ⟨h.rd.1, fun hne => ?_⟩, h.cap, cs, hk.trans h1, h2⟩
  obtain ⟨b, off, e, hc⟩ := h.rd.2 hne
  injection e with e
  injection e with e1 e2
  subst e1 e2
  refine ⟨f.db, 0, rfl, fun i hi => ?_⟩
  rw [← hc i hi]
  simp only [World.cell?, hk]
theorem FlOk.grown {base : Nat} {w w' : World} {f : Fl} (h : FlOk base w f) (g : w.grownBy w' none) : FlOk base w' f := h.kept g.size (g.block f.db h.lt (by simp))
theorem FlOk.mono {base base' : Nat} {w : World} {f : Fl} (h : FlOk base w f) (hb : base' ≤ base) : FlOk base' w f := ⟨Nat.le_trans hb h.lo, h.lt, h.rd, h.cap, h.blk⟩

theorem Tryd.sizeFl : (Tryd.prog.info? 35).map (·.size) = some 5 := by kernel_rfl
theorem Tryd.infoFl : (Tryd.prog.info? 35).map (fun i => (i.zero, i.size, i.bytes)) = some (some (.agg #[.int .i64 0, .int .i64 0, .int .i64 0, .slice none 0 0, .int .i64 0]), 5, 56) := by kernel_rfl
theorem Fl.one (f : Fl) : ∀ v ∈ f.cs.toList, v.oneCell' = true := by
  intro v hv
  simp [Fl.cs] at hv
  rcases hv with rfl | rfl | rfl | rfl | rfl <;> rfl

theorem bytes_rd (W : World) (l : List Int) (hb : ∀ x ∈ l, IsB x) : Rd (Lib.bytesWorld W 5 (strOfNums l)) (some ⟨W.heap.size, 0, none⟩) l := ⟨hb, fun _ => ⟨_, 0, rfl, fun i hi => by
  have := Lib.bytesWorld_cell W 5 (strOfNums l) i (by rw [strOfNums_size]; exact hi)
  rw [Nat.zero_add, this, strOfNums_data]
  congr 2
  rw [List.getD_eq_getElem?_getD, List.getElem?_map, List.getD_eq_getElem?_getD, List.getElem?_eq_getElem hi]
  simp only [Option.map_some, Option.getD_some]
  have := hb l[i] (List.getElem_mem hi)
  unfold IsB at this
  rw [UInt8.toNat_ofNat_of_lt' (by show _ < 256; omega), Int.toNat_of_nonneg this.1]⟩⟩

theorem flight_any (g : Gm) (hok : g.Ok) (w : World) : Calls Tryd.prog 26 #[.agg g.cs] w fun e w' => ∃ f : Fl, f.g = g ∧ e = .returned (.agg f.cs) ∧ w.grownBy w' none ∧ FlOk w.heap.size w' f := by
  have hcv := fun W => Lib.run_convert_string_bytes (P := Tryd.prog) W 9 29 5 (strOfNums g.tx) Tryd.underlying9 Tryd.underlying29 Tryd.underlying5
  have hcs := g.cs
  obtain ⟨W2, hW2⟩ : ∃ W2, W2 = (w.alloc (.cells g.cs 56)).alloc (.cells #[.int .i64 0, .int .i64 0, .int .i64 0, .slice none 0 0, .int .i64 0] 35) := ⟨_, rfl⟩
  obtain ⟨bB, bR, g2⟩ := Blk.two w g.cs #[.int .i64 0, .int .i64 0, .int .i64 0, .slice none 0 0, .int .i64 0] 56 35
  rw [← hW2] at bB bR g2
  have sz2 : W2.heap.size = w.heap.size + 2 := by rw [hW2, alloc_size, alloc_size]
  obtain ⟨W3, hW3⟩ : ∃ W3, W3 = Lib.bytesWorld W2 5 (strOfNums g.tx) := ⟨_, rfl⟩
  have o3 : ∀ i, i < W2.heap.size → W3.heap[i]? = W2.heap[i]? := fun i hi => by rw [hW3]; exact Lib.bytesWorld_at_old W2 5 _ i hi
  have sz3 : W3.heap.size = w.heap.size + 3 := by rw [hW3, Lib.bytesWorld_size, sz2]
  have bR3 : Blk W3 (w.heap.size + 1) #[.int .i64 0, .int .i64 0, .int .i64 0, .slice none 0 0, .int .i64 0] 35 := (o3 _ (by omega)).trans bR
  obtain ⟨cp, hcp⟩ : ∃ cp, cp = grownCap W2 (strOfNums g.tx).size 0 5 := ⟨_, rfl⟩
  obtain ⟨f, hf⟩ : ∃ f : Fl, f = ⟨g, W2.heap.size, cp⟩ := ⟨_, rfl⟩
  have bX := bR3.row f.cs
  have FIN : Hid (w.grownBy (W3.setRow (w.heap.size + 1) f.cs) none ∧ FlOk w.heap.size (W3.setRow (w.heap.size + 1) f.cs) f) := by
    have oX : ∀ i, i ≠ w.heap.size + 1 → (W3.setRow (w.heap.size + 1) f.cs).heap[i]? = W3.heap[i]? := fun i hi => setRow_other W3 _ i _ hi
    have szX : (W3.setRow (w.heap.size + 1) f.cs).heap.size = W3.heap.size := by simp
    have g3 : w.grownBy W3 none := ⟨by rw [hW3]; exact g2.os, by rw [hW3]; exact g2.tape, by rw [hW3]; exact g2.output, by omega, fun i hi _ => (o3 i (by omega)).trans (g2.block i hi (by simp))⟩
    have ok3 : FlOk w.heap.size W3 f := by
      rw [hf]
      refine ⟨by simp only; omega, by simp only; omega, by rw [hW3]; exact bytes_rd W2 g.tx hok.b, ?_, Lib.bytesCells W2 5 (strOfNums g.tx), by rw [hW3]; exact Lib.bytesWorld_at_new W2 5 _, ?_⟩
      · simp only [hcp, strOfNums_size]
        exact ⟨grownCap_ge W2 g.tx.length 0 5, by have := grownCap_le_maxLen W2 g.tx.length 0 5 (by unfold maxLen; have := hok.l; omega); unfold maxLen at this; omega⟩
      · have := grownCap_ge W2 g.tx.length 0 5
        simp only [Lib.bytesCells, hcp, strOfNums_size]
        simp [strOfNums]
        omega
    refine ⟨grown_row g3 _ _ (by omega), ok3.kept (by omega) (oX _ (by rw [hf]; simp only; omega))⟩
  have a0 : W2.cell? ⟨w.heap.size, 0, none⟩ = some (.int .i64 (g.id : Int)) := bB.cell 0 _ rfl
  have a1 : W2.cell? ⟨w.heap.size, 1, none⟩ = some (.int .i64 g.to) := bB.cell 1 _ rfl
  have a2 : W2.cell? ⟨w.heap.size, 2, none⟩ = some (.int .i64 (g.at_ : Int)) := bB.cell 2 _ rfl
  have a3 : W2.cell? ⟨w.heap.size, 3, none⟩ = some (.string (strOfNums g.tx)) := bB.cell 3 _ rfl
  have a4 : W3.cell? ⟨w.heap.size, 4, none⟩ = some (.int .i64 g.mark) := by
    have : Blk W3 w.heap.size g.cs 56 := (o3 _ (by omega)).trans bB
    exact this.cell 4 _ rfl
  have hc2 := hcv W2
  rw [← hW3, ← hcp, strOfNums_size] at hc2
  have BR3 := hide bR3; have BX := hide bX; have HW2 := hide hW2
  have FCS : f.cs = #[.int .i64 (g.id : Int), .int .i64 g.to, .int .i64 (g.at_ : Int), .slice (some ⟨W2.heap.size, 0, none⟩) g.tx.length cp, .int .i64 g.mark] := by rw [hf]; rfl
  have FG : f.g = g := by rw [hf]
  rw [FCS] at BX
  have HFCS := hide FCS
  have HF := hide hf
  unfold Gm.cs at HW2 ⊢
  rw [FCS] at FIN
  clear hcv hcs bB bR g2 sz2 hW2 hW3 o3 sz3 bR3 bX hok hcp FCS hf
  generalize W2.heap.size = ds at *
  generalize strOfNums g.tx = st at *
  generalize g.tx.length = tl at *
  go_enter Tryd.func26, Tryd.ntmps26
  go_upto_region 1 with fail
  rw [← unhide HW2]
  go_wp2_with (refine wpList_store_row rfl _ _ _ rfl (w.heap.size + 1) #[.int .i64 (g.id : Int), .int .i64 g.to, .int .i64 (g.at_ : Int), .slice (some ⟨ds, 0, none⟩) tl cp, .int .i64 g.mark] rfl rfl 35 _ (unhide BR3) Tryd.sizeFl rfl (by simp [Value.oneCell']) ?_)
  refine bodyPost_ret (results_cell_row rfl _ _ (w.heap.size + 1) 35 #[.int .i64 (g.id : Int), .int .i64 g.to, .int .i64 (g.at_ : Int), .slice (some ⟨ds, 0, none⟩) tl cp, .int .i64 g.mark] (0, 0) _ rfl (unhide BX) Tryd.underlying35 rfl Tryd.sizeFl) rfl ?_
  exact ⟨f, FG, by rw [unhide HFCS], (unhide FIN).1, (unhide FIN).2⟩
end Go.Proofs.YtbdjlhkgpblebaaDoor
