/- recv: Read. -/
import Derived.Test.YthihabjegpacaaaT6U
import Derived.Test.YthihabjegpacaaaT6W
namespace Go.Proofs.Ythihabjegpacaaa
open Go.RowKit
set_option linter.unusedVariables false
set_option linter.unusedSimpArgs false
set_option maxHeartbeats 4000000
set_option maxRecDepth 100000

section
variable {w W : World} {M : Nat → Prop} {b bk : Nat} {vh : Value} {E : List He} {S : Rv}
/-- What Read leaves: n bytes in a row g of their own. -/
structure ReadP (w : World) (M : Nat → Prop) (b bk : Nat) (E : List He) (S : Rv) (most : Int) (W : World) (n g : Nat) (W' : World) : Prop where
  row : RowN S most n
  blk : Blk W' g (by8 (bytesT S n)) 5
  ra : ∃ W1 vh' E', W.grownBy W1 none ∧ W.heap.size ≤ g ∧ g < W1.heap.size ∧ RA W1 (fun k => (M k ∨ w.heap.size ≤ k) ∧ k < W.heap.size) b bk vh' E' W' (readS S n) ∧ HeOk (readS S n) E' ∧ E'.length ≤ E.length
  nb : n ≤ 1000000000

theorem read_at (h : RA w M b bk vh E W S) (hok : RvOk S) (hE : HeOk S E) (nE : E.length ≤ 100000000) (most : Int) (hm : -9223372036854775808 ≤ most ∧ most ≤ 9223372036854775807) (hbig : ∀ n, RowN S most n → n ≤ 1000000000) :
    Calls Try.prog 10 #[ptr b, .int .i64 most] W fun e W' => ∃ n g, e = .returned (.tuple #[.slice (some ⟨g, 0, none⟩) n n, .bool (readS S n).ended]) ∧ ReadP w M b bk E S most W n g W' := by
  have hrow := row_at h hok hE nE most hm
  have H := hide h
  have HOK := hide hok
  have HE := hide hE
  clear h hok hE
  go_enter Try.func10, Try.ntmps10
  go_wp2_with fail
  refine hrow.mono ?_
  rintro e W0 ⟨n, rfl, hn, g0⟩
  have nb := hbig n hn
  have hjoin := join_at ((unhide H).grown g0) (unhide HOK) (unhide HE) nE n nb hn.got
  have HN := hide hn
  have G0 := hide g0
  clear hrow hn g0 hbig
  go_wp2_with fail
  refine hjoin.mono ?_
  rintro e W1 ⟨rfl, hj⟩
  have g1 := grown_trans (unhide G0) hj.gr
  have h1 := (unhide H).rebase g1
  have hr0 := (unhide HOK).r0
  have hok2 := rvok_read (unhide HOK) (unhide HN)
  have hh2 : S.read + n ≤ S.high := hok2.rh
  have hhl := (unhide HOK).hl; have hlm := (unhide HOK).lm
  have wr1 : IntKind.i64.wrap (S.read + n) = S.read + n := by rw [IntKind.wrap_i64]; omega
  obtain ⟨-, c1, -, -, -, -, -, -⟩ := h1.cells
  have t1 := h1.blk.thaw 1
  have h2 := h1.put (S' := { S with read := S.read + n }) 1 (.int .i64 (S.read + n)) rfl rfl
  have hrel := release_at h2 ((unhide HE).w (unhide HOK) rfl (by show S.read ≤ S.read + n; omega)) nE (by show 0 ≤ S.read + n ∧ S.read + n ≤ _; omega)
  have gdlt : W0.heap.size < W1.heap.size := hj.blk.lt
  have gsz := (unhide G0).size
  have KJ := hide (And.intro hj (And.intro g1 (And.intro gdlt gsz)))
  clear hjoin hj g1 h1 h2 gdlt gsz hok2
  obtain ⟨gd, hgd⟩ : ∃ gd, gd = W0.heap.size := ⟨_, rfl⟩
  rw [← hgd]
  have HGD := hide hgd
  clear hgd
  go_wp2_with fail
  refine hrel.mono ?_
  rintro e W2 ⟨rfl, vh', E', r1, r2, r3⟩
  obtain ⟨-, d1, -, d3, -, -, d6, d7⟩ := r1.cells
  have t6 := r1.blk.thaw 6
  have FIN : Hid (∀ W3 S3, RA W1 (fun k => (M k ∨ w.heap.size ≤ k) ∧ k < W.heap.size) b bk vh' E' W3 S3 → S3.T = S.T → S3.read = S.read + n → rvc bk vh' (readS S n) = rvc bk vh' S3 → S3.K = S.K → ReadP w M b bk E S most W n gd W3) := fun W3 S3 ra eT er ev eK => by
    obtain ⟨hj, g1, gdlt, gsz⟩ := unhide KJ
    have hg := unhide HGD
    refine ⟨unhide HN, ?_, ⟨W1, vh', E', g1, by omega, by omega, ra.last ev (by rw [eK]; rfl), r2.same rfl rfl, r3⟩, nb⟩
    have : W3.heap[gd]? = W1.heap[gd]? := ra.kp.block gd (by omega) (fun q => by omega)
    rw [hg] at this ⊢
    exact this.trans hj.blk
  have HRA := hide r1
  clear hrel r1 r2 r3 t1 c1
  simp only at d1 d3 d6 d7
  by_cases hf : S.read + n = S.final
  · have df : ((S.read + (n : Int)) == S.final) = true := by simp [hf]
    cases hrs : S.reset with
    | true =>
      rw [hrs] at d7
      have E1 : Hid ((readS S n).ended = S.ended) := by show (S.ended || (decide (S.read + n = S.final) && !S.reset)) = S.ended; rw [hrs]; simp
      have R : Hid (∀ q r, ReadP w M b bk E S most W n gd ((W2.drewN q).drewN r)) := fun q r => unhide FIN _ _ (((unhide HRA).grown (grown_drewN _ _)).grown (grown_drewN _ _)) rfl rfl (by unfold rvc; rw [unhide E1]; rfl) rfl
      clear FIN HRA
      have HF := hide hf
      clear hf
      go_upto_region 4 with fail
      go_quiet (fail)
      rename_i nq
      have d6q : (W2.drewN nq).cell? ⟨b, 6, none⟩ = some (.bool S.ended) := d6
      go_upto_region 6 with fail
      go_quiet (fail)
      go_wp2_with fail
      all_goals go_ret2
      all_goals exact ⟨n, gd, by rw [unhide E1]; rfl, unhide R _ _⟩
    | false =>
      rw [hrs] at d7
      have E1 : Hid ((readS S n).ended = true) := by show (S.ended || (decide (S.read + n = S.final) && !S.reset)) = true; rw [hrs, decide_eq_true hf]; simp
      have R : Hid (∀ q, RA W1 (fun k => (M k ∨ w.heap.size ≤ k) ∧ k < W.heap.size) b bk vh' E' ((W2.drewN q).setCell ⟨b, 6, none⟩ (.bool true)) { S with read := S.read + n, ended := true }) := fun q => ((unhide HRA).grown (grown_drewN _ q)).put (S' := { S with read := S.read + n, ended := true }) 6 (.bool true) rfl rfl
      have R2 : Hid (∀ q r, ReadP w M b bk E S most W n gd (((W2.drewN q).setCell ⟨b, 6, none⟩ (.bool true)).drewN r)) := fun q r => unhide FIN _ _ ((unhide R q).grown (grown_drewN _ _)) rfl rfl (by unfold rvc; rw [unhide E1]; rfl) rfl
      clear FIN HRA
      have HF := hide hf
      clear hf
      go_upto_region 4 with fail
      go_quiet (fail)
      rename_i nq
      have d6q : (W2.drewN nq).cell? ⟨b, 6, none⟩ = some (.bool S.ended) := d6
      have t6q : (W2.drewN nq).frozen? ⟨b, 6, none⟩ = false := t6
      have e6 := (unhide R nq).cells.2.2.2.2.2.2.1
      simp only at e6
      go_upto_region 6 with fail
      go_quiet (fail)
      go_wp2_with fail
      all_goals go_ret2
      all_goals exact ⟨n, gd, by rw [unhide E1]; rfl, unhide R2 _ _⟩
  · have df : ((S.read + (n : Int)) == S.final) = false := by simp [hf]
    have df2 : decide (S.read + (n : Int) = S.final) = false := decide_eq_false hf
    have E1 : Hid ((readS S n).ended = S.ended) := by show (S.ended || (decide (S.read + n = S.final) && !S.reset)) = S.ended; rw [decide_eq_false hf]; simp
    have R : Hid (∀ q r, ReadP w M b bk E S most W n gd ((W2.drewN q).drewN r)) := fun q r => unhide FIN _ _ (((unhide HRA).grown (grown_drewN _ _)).grown (grown_drewN _ _)) rfl rfl (by unfold rvc; rw [unhide E1]; rfl) rfl
    clear FIN HRA
    go_upto_region 4 with fail
    go_quiet (fail)
    rename_i nq
    have d6q : (W2.drewN nq).cell? ⟨b, 6, none⟩ = some (.bool S.ended) := d6
    go_upto_region 6 with fail
    go_quiet (fail)
    go_wp2_with fail
    all_goals go_ret2
    all_goals exact ⟨n, gd, by rw [unhide E1]; rfl, unhide R _ _⟩
end
end Go.Proofs.Ythihabjegpacaaa
