/- Lost. -/
import Derived.Test.YtdalekjpjnhboaaS5M
namespace Go.Proofs.Ytdalekjpjnhboaa
open Go.RowKit
set_option linter.unusedVariables false
set_option maxHeartbeats 1000000
set_option maxRecDepth 100000

theorem lostL_snoc (L H : List Sp) (r : Sp) : lostL L (H ++ [r]) = addS 0 r.1 r.2 (lostL L H) := by unfold lostL; rw [List.foldl_append]; rfl

section
variable {w W : World} {M : Nat → Prop} {b ba bl : Nat} {vh : Value} {S : Sd}

theorem lost_at (h : At w M b ba bl vh W S) (hok : SdOk S) (hbig : wr S ≤ 1152921504606846976) (off size : Int) (fin : Bool) (ho : -9223372036854775808 ≤ off ∧ off ≤ 9223372036854775807) (hz : -9223372036854775808 ≤ size ∧ size ≤ 9223372036854775807) :
    Calls Try.prog 16 #[ptr b, .int .i64 off, .int .i64 size, .bool fin] W fun e W' => e = .returned (.tuple #[]) ∧ At w M b ba bl vh W' (lostS S off size fin) := by
  obtain ⟨c0, c1, c2, c3, c4, c5, c6, c7, c8, c9⟩ := h.cells
  unfold lostS
  cases hs : S.stopped with
  | true =>
    rw [if_pos rfl]
    rw [hs] at c9
    have H := hide h
    clear h hok c0 c1 c2 c3 c4 c5 c6 c7 c8 hs
    go_enter Try.func16, Try.ntmps16
    go_wp2
    all_goals refine bodyPost_ret (results_none rfl _ _ _) rfl ?_
    all_goals exact ⟨rfl, unhide H⟩
  | false =>
    rw [if_neg (by simp)]
    rw [hs] at c9
    have hb0 := hok.b0; have hbs := hok.bs; have hsw := hok.sw
    have hof := ofSent_at h (by omega) off size ho hz
    have hin := ofS_in S off size (by omega)
    obtain ⟨p, hp⟩ : ∃ p, p = ofS S off size := ⟨_, rfl⟩
    rw [← hp] at hof hin ⊢
    have hpl : p.1 ≤ 9223372036854775807 := by omega
    have hho := holesS_ok hok (p := p) ⟨hin.1, hin.2.1⟩
    have okA := hok.okA hbig
    have okL := hok.okL hbig
    have hla := hok.lenA; have hll := hok.lenL; have hcp := hok.cap
    have H := hide h
    clear h hok hp c0 c1 c2 c3 c4 c5 c6 c7 c8
    go_enter Try.func16, Try.ntmps16
    go_wp2_with fail
    refine hof.mono ?_
    rintro e W1 ⟨rfl, q, rfl⟩
    have h1 := (unhide H).grown (grown_drewN W q)
    generalize W.drewN q = W1 at *
    obtain ⟨-, -, -, -, -, c5, -, -, -, -⟩ := h1.cells
    have hhl := holesA_at h1 okA p.1 p.2 (by omega) (by omega)
    rw [show (p.1, p.2) = p from rfl] at hhl
    obtain ⟨HH, hHH⟩ : ∃ HH, HH = holesS S p := ⟨_, rfl⟩
    have GL : Hid (lostG S p fin = { S with L := lostL S.L HH, fin := if fin = true ∧ S.fin = 1 then 2 else S.fin }) := by rw [hHH]; rfl
    rw [← hHH] at hhl hho
    have H1 := hide h1
    clear hof H c9 h1 hHH
    go_wp2_with fail
    refine hhl.mono ?_
    rintro e W2 ⟨v, rfl, k1, k2, k3⟩
    have hR2 := (unhide H1).rebase k3
    have K2 := hide ((unhide H1).kp.nothing k3)
    obtain ⟨a, c, rfl, hcells, hcm, hnc⟩ := k1.shape
    have ROW : Hid (∀ X, Kp (fun k => (M k ∨ w.heap.size ≤ k) ∧ k < W1.heap.size) W2 X → Row X (.slice a HH.length c) HH) := fun X kx => row_kept k1 (fun g e => kx.block g (row_lt k1 g e) (fun q => by have := k2 g e; omega))
    have hlen : HH.length ≤ 100000 := by have := hho.2.1; omega
    have A0 : Hid (At W2 (fun k => (M k ∨ w.heap.size ≤ k) ∧ k < W1.heap.size) b ba bl vh W2 { S with L := lostL S.L (HH.take 0) }) := hR2
    have HO := hide hho.1
    have hgx : Gx S.L := okL.good
    have OKL := hide okL
    unfold maxLen at hcm
    generalize hN : HH.length = N at *
    have HN := hide hN
    clear hhl k1 k2 k3 hR2 H1 hcells hho hN
    go_wp2_with fail
    go_loopw [31] (fun i wr => ∃ k : Nat, k ≤ N ∧ i = .int .i64 k ∧ At W2 (fun k => (M k ∨ w.heap.size ≤ k) ∧ k < W1.heap.size) b ba bl vh wr { S with L := lostL S.L (HH.take k) }) (fun i _ => N - (intOf i).toNat)
    case atStart => exact ⟨0, Nat.zero_le _, rfl, unhide A0⟩
    case round =>
      clear A0
      obtain ⟨k, hk, rfl, hA⟩ := hrel
      by_cases hlt : k < N
      · have hkL : k < HH.length := by rw [unhide HN]; exact hlt
        have hrw : Row wr (.slice a N c) HH := unhide ROW wr hA.kp
        obtain ⟨g, rfl, sp, hR⟩ : ∃ g, a = some ⟨g, 0, none⟩ ∧ ∃ sp, RowAt wr g c HH sp := by
          rcases Row.at hrw with ⟨e1, e2⟩ | ⟨g, c', sp, e1, e2⟩
          · rw [e2] at hkL; simp at hkL
          · simp only [Value.slice.injEq] at e1
            obtain ⟨rfl, -, rfl⟩ := e1
            exact ⟨g, rfl, sp, e2⟩
        have y0 := hR.cell (k * 2) _ (cl_lo HH k hkL)
        have y1 := hR.cell (k * 2 + 1) _ (cl_hi HH k hkL)
        have hst : HH.take (k + 1) = HH.take k ++ [HH.getD k (0, 0)] := by rw [List.take_add_one]; simp [List.getD, hkL]
        have hx := unhide HO (HH.getD k (0, 0)) (by simp [List.getD, hkL])
        have hgd := lostL_gx hgx (H := HH.take k) (fun r hr => by have := unhide HO r (List.mem_of_mem_take hr); omega)
        have hokk : Ok (lostL S.L (HH.take k)) := ⟨hgd.1, by have := hgd.2.1; have := List.length_take_le k HH; have := (unhide OKL).size; omega⟩
        have hpl2 : lostL S.L (HH.take (k + 1)) = addS 0 (HH.getD k (0, 0)).1 (HH.getD k (0, 0)).2 (lostL S.L (HH.take k)) := by rw [hst, lostL_snoc]
        generalize HH.getD k (0, 0) = x at *
        have g1 : wr.grownBy (wr.alloc (.cells #[.int .i64 x.1, .int .i64 x.2] 86)) none := grown_alloc _ _
        have hB := hA.rebase g1
        have KB := hide (hA.kp.nothing g1)
        obtain ⟨-, -, -, -, -, -, z6, -, -, -⟩ := hB.cells
        have bx : Blk (wr.alloc (.cells #[.int .i64 x.1, .int .i64 x.2] 86)) wr.heap.size #[.int .i64 x.1, .int .i64 x.2] 86 := Blk.new _ _ _
        have xb0 := bx.cell 0 _ rfl
        have xb1 := bx.cell 1 _ rfl
        have hadd := fun q => addL_at (hB.grown (grown_drewN _ q)) hokk x.1 x.2 (by omega) (by omega)
        simp only at hadd
        rw [← hpl2] at hadd
        have hkn : (k : Int) < (N : Int) := by omega
        have HL := hide hlt
        have HKK : Hid (∀ X, Kp (fun g => ((((M g ∨ w.heap.size ≤ g) ∧ g < W1.heap.size) ∨ W2.heap.size ≤ g) ∧ g < wr.heap.size)) (wr.alloc (.cells #[.int .i64 x.1, .int .i64 x.2] 86)) X → X.cell? ⟨wr.heap.size, 0, none⟩ = some (.int .i64 x.1) ∧ X.cell? ⟨wr.heap.size, 1, none⟩ = some (.int .i64 x.2)) := fun X kx => by
          have : Blk X wr.heap.size #[.int .i64 x.1, .int .i64 x.2] 86 := (kx.block _ bx.lt (fun q => by omega)).trans bx
          exact ⟨this.cell 0 _ rfl, this.cell 1 _ rfl⟩
        clear hst hx hgd hokk hpl2 hR hrw hlt hkL hk hA bx hB g1
        go_wp2_with fail
        go_region_held3 (fun X => X.cell? ⟨b, 6, none⟩ = some (ptr bl) ∧ X.cell? ⟨wr.heap.size, 0, none⟩ = some (.int .i64 x.1) ∧ X.cell? ⟨wr.heap.size, 1, none⟩ = some (.int .i64 x.2)) (go_keep) (first | (go_at_call 42; refine (hadd 1).mono ?_; rintro e W5 ⟨n5, rfl, h5⟩; obtain ⟨u0, u1⟩ := unhide HKK W5 h5.kp; obtain ⟨-, -, -, -, -, -, u6, -, -, -⟩ := h5.cells))
        have h6 := At.unbase (unhide KB) h5
        go_wp2_with fail
        exact ⟨⟨k + 1, unhide HL, by go_num, h6⟩, by simp [intOf]; have := unhide HL; omega⟩
      · obtain rfl : k = N := by omega
        have e : HH.take k = HH := by rw [← unhide HN]; simp
        rw [e] at hA
        have hA2 := At.unbase (unhide K2) hA
        have hno : ¬ (k : Int) < (k : Int) := by omega
        obtain ⟨-, -, -, -, -, -, -, -, z8, -⟩ := hA2.cells
        have t8 := hA2.blk.thaw 8
        simp only at z8
        have h7 : Hid (At w M b ba bl vh (wr.setCell ⟨b, 8, none⟩ (.int .i64 2)) { S with L := lostL S.L HH, fin := 2 }) := hA2.put (S' := { S with L := lostL S.L HH, fin := 2 }) 8 (.int .i64 2) rfl rfl rfl (fun X hr => hr.to rfl rfl (Int.le_refl _) id) rfl
        have H6 := hide hA2
        clear hA hA2
        cases fin with
        | false =>
          have EG := hide (show lostG S p false = { S with L := lostL S.L HH } from by rw [unhide GL]; simp)
          clear GL h7
          go_wp2_with fail
          refine bodyPost_end (results_none rfl _ _ _) rfl ?_
          exact ⟨rfl, by rw [unhide EG]; exact unhide H6⟩
        | true =>
          by_cases hf : S.fin = 1
          · have EG := hide (show lostG S p true = { S with L := lostL S.L HH, fin := 2 } from by rw [unhide GL]; simp [hf])
            have hq := beq_yes hf
            clear GL H6 hf
            go_wp2_with fail
            refine bodyPost_end (results_none rfl _ _ _) rfl ?_
            exact ⟨rfl, by rw [unhide EG]; exact unhide h7⟩
          · have EG := hide (show lostG S p true = { S with L := lostL S.L HH } from by rw [unhide GL]; simp [hf])
            have hq := beq_no hf
            clear GL h7
            go_wp2_with fail
            refine bodyPost_end (results_none rfl _ _ _) rfl ?_
            exact ⟨rfl, by rw [unhide EG]; exact unhide H6⟩
end
end Go.Proofs.Ytdalekjpjnhboaa
