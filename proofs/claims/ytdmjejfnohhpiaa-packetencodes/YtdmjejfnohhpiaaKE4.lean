/- The document's Encode and Overhead. -/
import Derived.Test.YtdmjejfnohhpiaaKE1
namespace Go.Proofs.Ytdmjejfnohhpiaa
open Go.RowKit
set_option linter.unusedVariables false
set_option maxRecDepth 100000
set_option maxHeartbeats 2000000

theorem head_ok (p : Pk) (h : Okh p) (d s y : Value) (w : World) (n len : Int) (hd : InB w d p.dst) (hs : InB w s p.src) :
    Calls Try.prog 36 #[p.val d s y, .int .i64 n, .int .i64 len] w fun e w' => ∃ v, e = .returned (.tuple #[v, .int .i64 0]) ∧ OwnB w.heap.size w' v (headP p n len) ∧ w.grownBy w' none := by
  rcases h.sp with e | e | e
  · exact head_long p h (.inl e) d s y w n len hd hs
  · exact head_long p h (.inr e) d s y w n len hd hs
  · exact head_app p h e d s y w n len hd hs

def encB (p : Pk) : List Int := if encE p = 0 then bytesP p else []

theorem head_bytes (p : Pk) (h : Good p) : headP p p.number (p.width + p.payload.length) ++ p.payload = bytesP p := by
  have hw := h.w
  have hl : lowF p.number p.width = p.number % st p.width := by unfold lowF; rw [if_pos h.n]
  unfold headP bytesP partsP cutP
  rw [hl]
  by_cases h2 : p.space = 2
  · rw [if_pos h2, if_pos h2]; simp
  · rw [if_neg h2, if_neg h2]
    have hy := h.y h2
    have hu : IntKind.u64.wrap (p.width + p.payload.length) = p.width + p.payload.length := by rw [IntKind.wrap_u64]; omega
    have hp : putAsF (p.width + p.payload.length) 2 = (layF (p.width + p.payload.length) 2, 0) := by
      unfold putAsF
      rw [if_pos (.inr (.inl rfl)), if_pos ⟨by omega, by unfold sizeF; (repeat' split) <;> omega⟩]
      rfl
    rw [hu, hp]
    simp

theorem headP_len (p : Pk) (h : Okh p) : ((headP p 0 0).length : Int) = overP p := by
  have hw := h.w
  have hp : putAsF (IntKind.u64.wrap 0) 2 = (layF 0 2, 0) := by decide
  unfold headP overP
  rw [hp]
  rcases h.sp with e | e | e
  all_goals
    simp [e, dig_length, layF_length]
    omega

theorem encE_bad {p : Pk} (h : badK p ∨ badF p) : encE p = if badK p then 53 else 54 := by
  unfold encE
  split
  · rfl
  · rename_i hK; rw [if_pos (h.resolve_left hK)]

theorem renc_any (p : Pk) (d s y : Value) (w : World) (hd : InB w d p.dst) (hs : InB w s p.src) (hy : InB w y p.payload) (l1 : p.dst.length ≤ 140737488351232) (l2 : p.src.length ≤ 140737488351232) (l3 : p.payload.length ≤ 140737488351232) :
    Calls Try.prog 11 #[p.val d s y] w fun e w' => ∃ v, e = .returned (.tuple #[v, .int .i64 (encE p)]) ∧ OwnB w.heap.size w' v (encB p) ∧ w.grownBy w' none := by
  obtain ⟨a1, c1, rfl, -⟩ := id hd
  obtain ⟨a2, c2, rfl, -⟩ := id hs
  obtain ⟨a3, c3, rfl, -⟩ := id hy
  have b0 := Blk.new w (p.cs (.slice a1 p.dst.length c1) (.slice a2 p.src.length c2) (.slice a3 p.payload.length c3)) 24
  have g0 := World.grownBy_alloc w (.cells (p.cs (.slice a1 p.dst.length c1) (.slice a2 p.src.length c2) (.slice a3 p.payload.length c3)) 24) none
  have hml : ¬ (9223372036854775807 : Int) < (p.payload.length : Int) := by omega
  by_cases hbad : badK p ∨ badF p
  · have hE := encE_bad hbad
    have hne : encE p ≠ 0 := by rw [hE]; split <;> decide
    have hB : encB p = [] := by unfold encB; rw [if_neg hne]
    have hh := fun W len => head_err p (.slice a1 p.dst.length c1) (.slice a2 p.src.length c2) (.slice a3 p.payload.length c3) W p.number len a1 a2 c1 c2 rfl rfl (by omega) (by omega) hbad
    rw [← hE] at hh
    have tE : (encE p != 0) = true := by simpa using hne
    rw [hB]
    clear hE hne hB hbad hd hs hy
    generalize encE p = E at *
    go_enter Try.func11, Try.ntmps11
    go_wp2_with fail
    all_goals
      refine (hh _ _).mono ?_
      rintro e W1 ⟨rfl, g1⟩
      go_wp2_with fail
      go_ret2
      exact ⟨_, rfl, OwnB.nil _ _, g0.trans g1⟩
  · have hok := okh_of (fun h => hbad (.inl h)) (fun h => hbad (.inr h))
    have hw := hok.w
    have hwr : IntKind.i64.wrap (p.width + (p.payload.length : Int)) = p.width + (p.payload.length : Int) := by rw [IntKind.wrap_i64]; omega
    have hh := fun W hd hs => head_ok p hok (.slice a1 p.dst.length c1) (.slice a2 p.src.length c2) (.slice a3 p.payload.length c3) W p.number (p.width + p.payload.length) hd hs
    by_cases hN : badN p
    · have hE : encE p = 54 := by unfold encE; rw [if_neg (fun h => hbad (.inl h)), if_neg (fun h => hbad (.inr h)), if_pos hN]
      have hB : encB p = [] := by unfold encB; rw [if_neg (by rw [hE]; decide)]
      rw [hE, hB]
      unfold badN MAXP at hN
      have HH := hide (hh _ (hd.grown g0) (hs.grown g0))
      clear hh hE hB hbad hok
      go_enter Try.func11, Try.ntmps11
      go_wp2_with fail
      refine (unhide HH).mono ?_
      rintro e W1 ⟨v, rfl, o1, g1⟩
      have bW := b0.grown g1
      have x0 := bW.cell 0 (.int .i64 p.space) rfl
      have x3 := bW.cell 3 (.int .i64 p.number) rfl
      have GE := hide (g0.trans g1)
      clear o1 g1 bW hd hs hy b0 g0 HH
      by_cases n1 : p.number < 0
      · clear hN
        go_wp2_with fail
        go_ret2
        exact ⟨_, rfl, OwnB.nil _ _, unhide GE⟩
      by_cases n2 : 4611686018427387903 < p.number
      · clear hN
        go_wp2_with fail
        go_ret2
        exact ⟨_, rfl, OwnB.nil _ _, unhide GE⟩
      · have n3 : (p.space != 2) = true := by simp; omega
        have n4 : 16383 < p.width + (p.payload.length : Int) := by omega
        clear hN
        go_wp2_with fail
        go_ret2
        exact ⟨_, rfl, OwnB.nil _ _, unhide GE⟩
    · have hE : encE p = 0 := by unfold encE; rw [if_neg (fun h => hbad (.inl h)), if_neg (fun h => hbad (.inr h)), if_neg hN]
      have good := enc_good hE
      have hB : encB p = headP p p.number (p.width + p.payload.length) ++ p.payload := by unfold encB; rw [if_pos hE, head_bytes p good]
      have hlen : (headP p p.number (p.width + p.payload.length)).length + p.payload.length ≤ 140737488355328 := by
        have := bytesP_lt p good
        rw [← head_bytes p good, List.length_append] at this
        omega
      rw [hE]
      have HB := hide hB
      have HLEN := hide hlen
      unfold badN MAXP at hN
      have n1 : ¬ p.number < 0 := by omega
      have n2 : ¬ 4611686018427387903 < p.number := by omega
      have hdd := hd.grown g0
      have hss := hs.grown g0
      have HH := hide (hh _ hdd hss)
      have HY := hide (hy.grown g0)
      clear hh hE hB hbad hok hlen good hdd hss hd hs hy
      generalize encB p = EB at *
      generalize headP p p.number (p.width + p.payload.length) = HP at *
      go_enter Try.func11, Try.ntmps11
      go_wp2_with fail
      refine (unhide HH).mono ?_
      rintro e W1 ⟨v, rfl, o1, g1⟩
      have bW := b0.grown g1
      have x0 := bW.cell 0 (.int .i64 p.space) rfl
      have x3 := bW.cell 3 (.int .i64 p.number) rfl
      have x5 := bW.cell 5 (.slice a3 p.payload.length c3) rfl
      have S1 : Hid (RowU (w.alloc (.cells (p.cs (.slice a1 p.dst.length c1) (.slice a2 p.src.length c2) (.slice a3 p.payload.length c3)) 24)) W1 v HP) := ⟨o1, g1⟩
      have G0 := hide g0
      clear HH o1 bW b0 g0
      by_cases n3 : p.space = 2
      · have t3 : (p.space != 2) = false := by simpa using n3
        clear hN n3
        go_wp2_with (first
          | (at_builtin; refine wpList_app_st rfl (.tmp 41) (.tmp 43) rfl (unhide S1) rfl _ p.payload ((unhide HY).grown (unhide S1).gr) rfl (unhide HLEN) ?_; intro v2 U2 s2; have S2 := hide s2; clear s2)
          | fail)
        go_ret2
        exact ⟨_, rfl, by rw [unhide HB]; exact (unhide S2).own.mono (unhide G0).size, (unhide G0).trans (unhide S2).gr⟩
      · have t3 : (p.space != 2) = true := by simpa using n3
        have t4 : ¬ 16383 < p.width + (p.payload.length : Int) := by omega
        clear hN n3
        go_wp2_with (first
          | (at_builtin; refine wpList_app_st rfl (.tmp 41) (.tmp 43) rfl (unhide S1) rfl _ p.payload ((unhide HY).grown (unhide S1).gr) rfl (unhide HLEN) ?_; intro v2 U2 s2; have S2 := hide s2; clear s2)
          | fail)
        go_ret2
        exact ⟨_, rfl, by rw [unhide HB]; exact (unhide S2).own.mono (unhide G0).size, (unhide G0).trans (unhide S2).gr⟩

theorem rover_any (p : Pk) (d s y : Value) (w : World) (hd : InB w d p.dst) (hs : InB w s p.src) (hy1 : ∃ a n c, y = .slice a n c) (l1 : p.dst.length ≤ 140737488351232) (l2 : p.src.length ≤ 140737488351232) :
    Calls Try.prog 12 #[p.val d s y] w fun e w' => e = .returned (.tuple #[.int .i64 (ovF p).1, .int .i64 (ovF p).2]) ∧ w.grownBy w' none := by
  obtain ⟨a1, c1, rfl, -⟩ := id hd
  obtain ⟨a2, c2, rfl, -⟩ := id hs
  obtain ⟨a3, n3, c3, rfl⟩ := hy1
  have b0 := Blk.new w (p.cs (.slice a1 p.dst.length c1) (.slice a2 p.src.length c2) (.slice a3 n3 c3)) 24
  have g0 := World.grownBy_alloc w (.cells (p.cs (.slice a1 p.dst.length c1) (.slice a2 p.src.length c2) (.slice a3 n3 c3)) 24) none
  by_cases hbad : badK p ∨ badF p
  · have hO : ovF p = (0, if badK p then 53 else 54) := by
      unfold ovF
      split
      · rfl
      · rename_i hK; rw [if_pos (hbad.resolve_left hK)]
    have hh := fun W => head_err p (.slice a1 p.dst.length c1) (.slice a2 p.src.length c2) (.slice a3 n3 c3) W 0 0 a1 a2 c1 c2 rfl rfl (by omega) (by omega) hbad
    rw [hO]
    clear hO hbad hd hs
    generalize (if badK p then (53 : Int) else 54) = E at *
    go_enter Try.func12, Try.ntmps12
    go_wp2_with fail
    refine (hh _).mono ?_
    rintro e W1 ⟨rfl, g1⟩
    go_wp2_with fail
    go_ret2
    exact ⟨rfl, g0.trans g1⟩
  · have hok := okh_of (fun h => hbad (.inl h)) (fun h => hbad (.inr h))
    have hO : ovF p = (overP p, 0) := by unfold ovF; rw [if_neg (fun h => hbad (.inl h)), if_neg (fun h => hbad (.inr h))]
    have hl := headP_len p hok
    have hh := head_ok p hok (.slice a1 p.dst.length c1) (.slice a2 p.src.length c2) (.slice a3 n3 c3) _ 0 0 (hd.grown g0) (hs.grown g0)
    have hsm : (headP p 0 0).length ≤ 60 := by
      have h1 := hok.w; have h2 := hok.d; have h3 := hok.s
      have : overP p ≤ 60 := by unfold overP; (repeat' split) <;> omega
      omega
    rw [hO, ← hl]
    clear hO hl hbad hok hd hs
    generalize headP p 0 0 = HP at *
    go_enter Try.func12, Try.ntmps12
    go_wp2_with fail
    refine hh.mono ?_
    rintro e W1 ⟨v, rfl, o1, g1⟩
    obtain ⟨a4, c4, rfl⟩ := o1.shape
    have hml : ¬ (9223372036854775807 : Int) < (HP.length : Int) := by omega
    go_wp2_with fail
    go_ret2
    exact ⟨rfl, g0.trans g1⟩

end Go.Proofs.Ytdmjejfnohhpiaa
