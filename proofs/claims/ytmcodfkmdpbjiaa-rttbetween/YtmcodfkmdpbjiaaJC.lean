/- first, further, Sample. -/
import Derived.Test.YtmcodfkmdpbjiaaJB
namespace Go.Proofs.Ytmcodfkmdpbjiaa
open Go.RowKit
set_option linter.unusedVariables false
set_option maxRecDepth 100000
set_option maxHeartbeats 2000000

def leastF (rs : Bool) (l m : Int) : Int := if rs = true ∨ l < m then l else m
def varF (v s t : Int) : Int := (3 * v + distF s t) / 4
def smoF (s t : Int) : Int := (7 * s + t) / 8

theorem first_any (now l : Int) (hl : inT l) (w : World) : Calls Try.prog 26 #[.int .i64 now, .int .i64 l] w fun e w' => e = .returned (.agg (rtc true l l l (l / 2) now)) ∧ w.grownBy w' none := by
  obtain ⟨l1, l2⟩ := hl
  have F := hide (And.intro (Blk.new w (rtc true l l l (l / 2) now) 30) (World.grownBy_alloc w (.cells (rtc true l l l (l / 2) now) 30) none))
  go_enter Try.func26, Try.ntmps26
  go_wp2
  refine bodyPost_ret (results_cell_row rfl _ _ w.heap.size 30 _ (0, 0) _ rfl (unhide F).1 Try.underlying30 rfl Try.sizeR) rfl ?_
  exact ⟨rfl, (unhide F).2⟩

theorem adj_in {m l d : Int} (hm : inT m) (hl : inT l) (hd : inT d) : inT (adjF m l d) := by unfold adjF; split <;> omega
theorem least_in {rs : Bool} {l m : Int} (hl : inT l) (hm : inT m) : inT (leastF rs l m) := by unfold leastF; split <;> assumption
theorem dist_in {a b : Int} (ha : inT a) (hb : inT b) : inT (distF a b) := by unfold distF; omega
theorem var_in {v s t : Int} (hv : inT v) (hs : inT s) (ht : inT t) : inT (varF v s t) := by have := dist_in hs ht; unfold varF; omega
theorem smo_in {s t : Int} (hs : inT s) (ht : inT t) : inT (smoF s t) := by unfold smoF; omega

theorem further_any (h : Bool) (l0 m s v f l d : Int) (rs : Bool) (hm : inT m) (hs : inT s) (hv : inT v) (hl : inT l) (hd : inT d) (w : World) :
    Calls Try.prog 25 #[.agg (rtc h l0 m s v f), .int .i64 l, .int .i64 d, .bool rs] w fun e w' => e = .returned (.agg (rtc h l (leastF rs l m) (smoF s (adjF (leastF rs l m) l d)) (varF v s (adjF (leastF rs l m) l d)) f)) ∧ w.grownBy w' none := by
  have hlm := least_in (rs := rs) hl hm
  have hadj := fun W => adjusted_any (leastF rs l m) l d hlm hl hd W
  have ht := adj_in hlm hl hd
  have hdi := fun W => distance_any s (adjF (leastF rs l m) l d) hs ht W
  have hdd := dist_in hs ht
  unfold varF smoF
  have hl2 : Hid (leastF rs l m = if rs = true ∨ l < m then l else m) := rfl
  have dd1 := hdd.1
  have dd2 := hdd.2
  have t1 := ht.1
  have t2 := ht.2
  generalize distF s (adjF (leastF rs l m) l d) = di at *
  generalize adjF (leastF rs l m) l d = t at *
  obtain ⟨s1, s2⟩ := hs
  obtain ⟨v1, v2⟩ := hv
  clear hdd ht hlm
  generalize leastF rs l m = mm at *
  have F : Hid (World.grownBy w (((w.alloc (.cells (rtc h l mm ((7 * s + t) / 8) ((3 * v + di) / 4) f) 30)).alloc (.cells (rtc h l mm ((7 * s + t) / 8) ((3 * v + di) / 4) f) 30)).drew) none ∧ Blk (((w.alloc (.cells (rtc h l mm ((7 * s + t) / 8) ((3 * v + di) / 4) f) 30)).alloc (.cells (rtc h l mm ((7 * s + t) / 8) ((3 * v + di) / 4) f) 30)).drew) (w.heap.size + 1) (rtc h l mm ((7 * s + t) / 8) ((3 * v + di) / 4) f) 30) := ⟨grown_drew' ((Blk.two w _ _ _ _).2.2), ((Blk.two w _ _ _ _).2.1).drew⟩
  unfold rtc at *
  cases rs with
  | true =>
    have : mm = l := by rw [unhide hl2]; simp
    subst this
    go_enter Try.func25, Try.ntmps25
    go_wp2_with fail
    refine (hadj _).mono ?_
    rintro e W ⟨rfl, rfl⟩
    go_wp2_with fail
    go_region_with (go_at_call 30; refine (hdi _).mono ?_; rintro e W ⟨rfl, rfl⟩)
    all_goals go_wp2
    all_goals refine bodyPost_ret (results_cell_row rfl _ _ (w.heap.size + 1) 30 _ (0, 0) _ rfl (unhide F).2 Try.underlying30 rfl Try.sizeR) rfl ?_
    all_goals exact ⟨rfl, (unhide F).1⟩
  | false =>
    by_cases hlt : l < m
    · have : mm = l := by rw [unhide hl2]; simp [hlt]
      subst this
      go_enter Try.func25, Try.ntmps25
      go_wp2_with fail
      refine (hadj _).mono ?_
      rintro e W ⟨rfl, rfl⟩
      go_wp2_with fail
      go_region_with (go_at_call 30; refine (hdi _).mono ?_; rintro e W ⟨rfl, rfl⟩)
      all_goals go_wp2
      all_goals refine bodyPost_ret (results_cell_row rfl _ _ (w.heap.size + 1) 30 _ (0, 0) _ rfl (unhide F).2 Try.underlying30 rfl Try.sizeR) rfl ?_
      all_goals exact ⟨rfl, (unhide F).1⟩
    · have : mm = m := by rw [unhide hl2]; simp [hlt]
      subst this
      go_enter Try.func25, Try.ntmps25
      go_wp2_with fail
      refine (hadj _).mono ?_
      rintro e W ⟨rfl, rfl⟩
      go_wp2_with fail
      go_region_with (go_at_call 30; refine (hdi _).mono ?_; rintro e W ⟨rfl, rfl⟩)
      all_goals go_wp2
      all_goals refine bodyPost_ret (results_cell_row rfl _ _ (w.heap.size + 1) 30 _ (0, 0) _ rfl (unhide F).2 Try.underlying30 rfl Try.sizeR) rfl ?_
      all_goals exact ⟨rfl, (unhide F).1⟩
end Go.Proofs.Ytmcodfkmdpbjiaa
