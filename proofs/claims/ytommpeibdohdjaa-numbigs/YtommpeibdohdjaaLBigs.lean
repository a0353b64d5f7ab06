import Derived.Test.YtommpeibdohdjaaWS
import Derived.Test.YtommpeibdohdjaaWE
namespace Go.Proofs.Ytommpeibdohdjaa
open Go.RowKit
set_option linter.unusedVariables false

theorem rd_nil (w : World) (a : Option Addr) : Rd w a [] := ⟨by simp, by simp⟩
theorem nil_own (w : World) (B : Nat) : ∃ n xs, w.ownsRow B 5 1 (.slice none 0 0) n xs ∧ n ≤ 140737488350000 := ⟨0, [], World.ownsRow_nil _ _ _ _, by omega⟩

set_option maxHeartbeats 1600000 in
theorem bigs_arg (v n : Int) (w : World) (hn : n < 0 ∨ 8 < n) :
    Calls Try.prog 6 #[.int .u64 v, .int .i64 n] w fun e w' => e = .returned (.bool true) ∧ Below w.heap.size w w' := by
  go_enter Try.func6, Try.ntmps6
  go_wp2_with fail
  refine (awake_any _).mono ?_
  rintro e w1 ⟨rfl, b1⟩
  go_wp2_with fail
  refine (big_arg v n _ hn).mono ?_
  rintro e w' ⟨rfl, hw⟩; subst w'
  go_wp2_with fail
  refine (big_arg v n _ hn).mono ?_
  rintro e w' ⟨rfl, hw⟩; subst w'
  go_wp2_with fail
  refine (rbig_arg v n _ hn).mono ?_
  rintro e w' ⟨rfl, hw⟩; subst w'
  go_wp2_with fail
  refine (same_ok none none [] 0 0 _ (rd_nil _ _) (rd_nil _ _) (by decide)).mono ?_
  rintro e w2 ⟨rfl, q, rfl⟩
  have b2 := bel_drewN b1 q
  clear b1
  generalize w1.drewN q = W2 at b2 ⊢
  go_wp2_with fail
  refine (same_ok none none [] 0 0 _ (rd_nil _ _) (rd_nil _ _) (by decide)).mono ?_
  rintro e w2 ⟨rfl, q, rfl⟩
  have b3 := bel_drewN b2 q
  clear b2
  generalize W2.drewN q = W3 at b3 ⊢
  go_wp2_with (go_at_call 17; refine (code_any _ _).mono ?_; rintro e w' ⟨rfl, hw⟩; subst w')
  refine (apart_list [.slice none 0 0, .slice none 0 0] w _ w.heap.size W3.heap.size 2 b3.size (heap_alloc_new W3 _) (by intro v hv; simp at hv; subst hv; exact nil_own _ _) (by simp [Value.ownBlock]) (by decide) (b3.alloc b3.size _)).mono ?_
  rintro e w4 ⟨rfl, b4⟩
  clear b3
  go_wp2
  go_ret
  exact ⟨rfl, b4⟩

set_option maxHeartbeats 1600000 in
theorem bigs_no (v : Int) (n : Nat) (w : World) (v0 : 0 ≤ v) (v1 : v < 18446744073709551616) (hn : n ≤ 8) (hv : v / 256 ^ n ≠ 0) :
    Calls Try.prog 6 #[.int .u64 v, .int .i64 n] w fun e w' => e = .returned (.bool true) ∧ Below w.heap.size w w' := by
  have HV := hide hv
  clear hv
  go_enter Try.func6, Try.ntmps6
  go_wp2_with fail
  refine (awake_any _).mono ?_
  rintro e w1 ⟨rfl, b1⟩
  go_wp2_with fail
  refine (big_no v n _ v0 v1 hn (unhide HV)).mono ?_
  rintro e w2 ⟨rfl, rfl⟩
  have b2 := b1.alloc b1.size (bts (dig v n))
  clear b1
  generalize w1.alloc (bts (dig v n)) = W2 at b2 ⊢
  go_wp2_with fail
  refine (big_no v n _ v0 v1 hn (unhide HV)).mono ?_
  rintro e w2 ⟨rfl, rfl⟩
  have b3 := b2.alloc b2.size (bts (dig v n))
  clear b2
  generalize W2.alloc (bts (dig v n)) = W3 at b3 ⊢
  go_wp2_with fail
  refine (rbig_any v n _ v0 v1 hn).mono ?_
  rintro e W4 ⟨s, rfl, ho, bb⟩
  rw [decide_eq_false (unhide HV)]
  have b4 := b3.trans (bb.mono b3.size)
  clear b3 bb ho
  simp only [rbigR]
  go_wp2_with fail
  refine (same_ok none none [] 0 0 _ (rd_nil _ _) (rd_nil _ _) (by decide)).mono ?_
  rintro e w2 ⟨rfl, q, rfl⟩
  have b5 := bel_drewN b4 q
  clear b4
  generalize W4.drewN q = W5 at b5 ⊢
  go_wp2_with fail
  refine (same_ok none none [] 0 0 _ (rd_nil _ _) (rd_nil _ _) (by decide)).mono ?_
  rintro e w2 ⟨rfl, q, rfl⟩
  have b6 := bel_drewN b5 q
  clear b5
  generalize W5.drewN q = W6 at b6 ⊢
  go_wp2_with (go_at_call 17; refine (code_any _ _).mono ?_; rintro e w' ⟨rfl, hw⟩; subst w')
  refine (apart_list [.slice none 0 0, .slice none 0 0] w _ w.heap.size W6.heap.size 2 b6.size (heap_alloc_new W6 _) (by intro v hv; simp at hv; subst hv; exact nil_own _ _) (by simp [Value.ownBlock]) (by decide) (b6.alloc b6.size _)).mono ?_
  rintro e w4 ⟨rfl, b7⟩
  clear b6
  go_wp2
  go_ret
  exact ⟨rfl, b7⟩

set_option maxHeartbeats 1600000 in
theorem bigs_ok (v : Int) (n : Nat) (w : World) (v0 : 0 ≤ v) (v1 : v < 18446744073709551616) (hn : n ≤ 8) (hv : v / 256 ^ n = 0) :
    Calls Try.prog 6 #[.int .u64 v, .int .i64 n] w fun e w' => e = .returned (.bool true) ∧ Below w.heap.size w w' := by
  have HV := hide hv
  have hlen := dig_length v n
  have hby := dig_byte v n
  have HLEN := hide hlen; have HBY := hide hby
  clear hv hlen hby
  go_enter Try.func6, Try.ntmps6
  go_wp2_with fail
  refine (awake_any _).mono ?_
  rintro e w1 ⟨rfl, b1⟩
  go_wp2_with fail
  refine (big_ok v n _ v0 v1 hn (unhide HV)).mono ?_
  rintro e w2 ⟨rfl, rfl⟩
  have b2 := b1.alloc b1.size (bts (dig v n))
  have k1 := heap_alloc_new w1 (bts (dig v n))
  have hz1 := b1.size
  have hs2 : w1.heap.size < (w1.alloc (bts (dig v n))).heap.size := by simp
  generalize w1.heap.size = g1 at k1 hz1 hs2 ⊢
  generalize w1.alloc (bts (dig v n)) = W2 at b2 k1 hs2 ⊢
  have K1 := hide k1
  clear b1 k1
  go_wp2_with fail
  refine (big_ok v n _ v0 v1 hn (unhide HV)).mono ?_
  rintro e w2 ⟨rfl, rfl⟩
  have b3 := b2.alloc b2.size (bts (dig v n))
  have k1 : (W2.alloc (bts (dig v n))).heap[g1]? = some (bts (dig v n)) := by rw [Below.heap_alloc _ _ _ hs2]; exact unhide K1
  have k2 := heap_alloc_new W2 (bts (dig v n))
  have hs3 : W2.heap.size < (W2.alloc (bts (dig v n))).heap.size := by simp
  have hz2 := b2.size
  have hne : g1 ≠ W2.heap.size := by omega
  generalize W2.heap.size = g2 at k2 hs3 hs2 hz2 hne ⊢
  generalize W2.alloc (bts (dig v n)) = W3 at b3 k1 k2 hs3 ⊢
  have K2 := hide k2; have K3 := hide k1; have HNE := hide hne
  clear b2 k1 k2 hne K1
  go_wp2_with fail
  refine (rbig_any v n _ v0 v1 hn).mono ?_
  rintro e W4 ⟨s, rfl, ho, bb⟩
  rw [decide_eq_true (unhide HV)]
  have b4 := b3.trans (bb.mono b3.size)
  have q1 : W4.heap[g1]? = some (bts (dig v n)) := by rw [bb.block g1 (lt_of_block (unhide K3))]; exact unhide K3
  have q2 : W4.heap[g2]? = some (bts (dig v n)) := by rw [bb.block g2 (lt_of_block (unhide K2))]; exact unhide K2
  obtain ⟨-, a, c, rfl, hr⟩ := own_rd ho (unhide HBY)
  have r1 := rd_at q1 (unhide HBY); have r2 := rd_at q2 (unhide HBY)
  have Q1 := hide q1; have Q2 := hide q2; have R1 := hide r1; have R2 := hide r2; have R3 := hide hr
  clear b3 bb ho q1 q2 r1 r2 hr K2 K3
  simp only [rbigR]
  go_wp2_with fail
  have s1 := same_ok (some ⟨g1, 0, none⟩) a (dig v n) n c W4 (unhide R1) (unhide R3) (by rw [unhide HLEN]; unfold maxLen; omega)
  rw [unhide HLEN] at s1
  refine s1.mono ?_
  clear s1
  rintro e w2 ⟨rfl, q, rfl⟩
  have b5 := bel_drewN b4 q
  have Q1' : Hid ((W4.drewN q).heap[g1]? = some (bts (dig v n))) := Q1
  have Q2' : Hid ((W4.drewN q).heap[g2]? = some (bts (dig v n))) := Q2
  have R2' := hide (rd_drew (unhide R2) q); have R3' := hide (rd_drew (unhide R3) q)
  clear b4 Q1 Q2 R1 R2 R3
  generalize W4.drewN q = W5 at b5 Q1' Q2' R2' R3' ⊢
  go_wp2_with fail
  have s1 := same_ok (some ⟨g2, 0, none⟩) a (dig v n) n c W5 (unhide R2') (unhide R3') (by rw [unhide HLEN]; unfold maxLen; omega)
  rw [unhide HLEN] at s1
  refine s1.mono ?_
  clear s1
  rintro e w2 ⟨rfl, q, rfl⟩
  have b6 := bel_drewN b5 q
  have Q1 : Hid ((W5.drewN q).heap[g1]? = some (bts (dig v n))) := Q1'
  have Q2 : Hid ((W5.drewN q).heap[g2]? = some (bts (dig v n))) := Q2'
  clear b5 Q1' Q2' R2' R3'
  generalize W5.drewN q = W6 at b6 Q1 Q2 ⊢
  go_wp2_with (go_at_call 17; refine (code_any _ _).mono ?_; rintro e w' ⟨rfl, hw⟩; subst w')
  have o1 := bts_own w.heap.size (unhide Q1) hz1 (by rw [unhide HLEN]; unfold maxLen; omega)
  have o2 := bts_own w.heap.size (unhide Q2) hz2 (by rw [unhide HLEN]; unfold maxLen; omega)
  rw [unhide HLEN] at o1 o2
  refine (apart_list [.slice (some ⟨g1, 0, none⟩) n n, .slice (some ⟨g2, 0, none⟩) n n] w _ w.heap.size W6.heap.size 2 b6.size (heap_alloc_new W6 _) (by
    intro v hv
    simp only [List.mem_cons, List.not_mem_nil, or_false] at hv
    rcases hv with rfl | rfl
    · exact ⟨n, _, o1.alloc _, by omega⟩
    · exact ⟨n, _, o2.alloc _, by omega⟩) (by simpa [Value.ownBlock] using unhide HNE) (by simp) (b6.alloc b6.size _)).mono ?_
  rintro e w4 ⟨rfl, b7⟩
  clear b6 o1 o2
  go_wp2
  go_ret
  exact ⟨rfl, b7⟩
end Go.Proofs.Ytommpeibdohdjaa
