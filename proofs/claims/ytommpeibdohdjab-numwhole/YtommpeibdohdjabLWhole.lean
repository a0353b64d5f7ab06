import Derived.Test.YtommpeibdohdjabPB
import Derived.Test.YtommpeibdohdjabLOrder
import Derived.Test.YtommpeibdohdjabWE
namespace Go.Proofs.Ytommpeibdohdjab
open Go.RowKit
set_option linter.unusedVariables false

theorem str_cons (l : List Int) : strOfNums (0 :: l) = { data := #[0] } ++ strOfNums l := by
  apply ByteArray.ext
  simp [strOfNums]

theorem str_beq (l m : List Int) (hl : ∀ x ∈ l, IsB x) (hm : ∀ x ∈ m, IsB x) : ((strOfNums l).toList == (strOfNums m).toList) = decide (l = m) := by
  rw [str_toList, str_toList, Bool.eq_iff_iff, beq_iff_eq, decide_eq_true_iff]
  exact map_u8_inj _ _ hl hm

set_option maxHeartbeats 1600000 in
/-- The width may not be. -/
theorem whole_arg (v n : Int) (a : Option Addr) (l : List Int) (cap : Nat) (i : Int) (w : World) (hr : Rd w a l) (hm : l.length ≤ cap) (hm2 : cap ≤ maxLen) (hn : n < 0 ∨ 8 < n) :
    Calls Try.prog 5 #[.int .u64 v, .int .i64 n, .slice a l.length cap, .int .i64 i] w fun e w' => e = .returned (.bool true) ∧ Below w.heap.size w w' := by
  have HR := hide hr
  have e := readF_arg l i n (by omega)
  clear hr
  go_enter Try.func5, Try.ntmps5
  go_wp2_with fail
  refine (awake_any _).mono ?_
  rintro e w1 ⟨rfl, b1⟩
  go_wp2_with fail
  refine (big_arg v n _ hn).mono ?_
  rintro e w1 ⟨rfl, rfl⟩
  go_wp2_with fail
  refine (read_any a l cap i n _ (rd_below (unhide HR) b1) hm hm2).mono ?_
  rintro e w1 ⟨rfl, q, rfl⟩
  rw [e]
  go_wp2
  go_ret
  exact ⟨rfl, bel_drewN b1 _⟩

set_option maxHeartbeats 1600000 in
/-- The number does not stand in so many. -/
theorem whole_no (v : Int) (n : Nat) (a : Option Addr) (l : List Int) (cap : Nat) (i : Int) (w : World) (v0 : 0 ≤ v) (v1 : v < 18446744073709551616) (hr : Rd w a l) (hm : l.length ≤ cap) (hm2 : cap ≤ maxLen) (hn : n ≤ 8) (hv : v / 256 ^ n ≠ 0) :
    Calls Try.prog 5 #[.int .u64 v, .int .i64 n, .slice a l.length cap, .int .i64 i] w fun e w' => e = .returned (.bool true) ∧ Below w.heap.size w w' := by
  have HR := hide hr
  clear hr
  go_enter Try.func5, Try.ntmps5
  go_wp2_with fail
  refine (awake_any _).mono ?_
  rintro e w1 ⟨rfl, b1⟩
  go_wp2_with fail
  refine (big_no v n _ v0 v1 hn hv).mono ?_
  rintro e w2 ⟨rfl, rfl⟩
  have b2 := b1.alloc b1.size (bts (dig v n))
  clear b1 hv
  go_wp2_with fail
  generalize w1.alloc (bts (dig v n)) = WX at b2 ⊢
  refine (read_any a l cap i n _ (rd_below (unhide HR) b2) hm hm2).mono ?_
  rintro e w3 ⟨rfl, q, rfl⟩
  have b3 := bel_drewN b2 q
  clear b2
  generalize WX.drewN q = W3 at b3 ⊢
  rcases readF_cases l i n with ⟨c, hc, e⟩ | ⟨k, m, rfl, hmn, hm8, hkm, e⟩
  · rw [e]
    have hc0 : (c != 0) = true := by rw [bne_iff_ne]; omega
    clear hc e
    go_wp2
    go_ret
    exact ⟨rfl, b3⟩
  · obtain rfl : n = m := by omega
    rw [e]
    clear e hmn
    have hsl := sub_len l k n hkm
    have hsb : ∀ x ∈ (l.drop k).take n, IsB x := fun x hx => (unhide HR).1 x (List.mem_of_mem_drop (List.mem_of_mem_take hx))
    have jb := joinF_bound _ hsb (by rw [hsl]; exact hn)
    have jd := joinF_div _ hsb 0
    have dj := dig_joinF _ hsb 0
    rw [hsl] at jd dj
    have HD := hide dj
    have HJ := hide jd
    have HSL := hide hsl
    have HSB := hide hsb
    clear dj jd hsl hsb
    have hk0 : ¬ (k : Int) < 0 := by omega
    have hkl : ¬ (l.length : Int) < (k : Int) + n := by omega
    unfold maxLen at hm2
    go_wp2_with fail
    refine (big_ok _ n _ jb.1 jb.2 hn (unhide HJ)).mono ?_
    rintro e w4 ⟨rfl, rfl⟩
    rw [unhide HD]
    have b4 := b3.alloc b3.size (bts ((l.drop k).take n))
    generalize hS : (l.drop k).take n = S at *
    have hr4 := rd_below (unhide HR) b4
    have c1 : ∀ q, (convert 24 9 (.slice (some ⟨W3.heap.size, 0, none⟩) n n)).run Try.prog ((W3.alloc (bts S)).drewN q) = .ok (.string (strOfNums S)) ((W3.alloc (bts S)).drewN q) := fun q =>
      conv_rd _ _ S n n (unhide HSL) (rd_drew (rd_at (heap_alloc_new W3 _) (unhide HSB)) q)
    by_cases hn0 : n = 0
    · subst hn0
      have c2 : ∀ a c q, (convert 24 9 (.slice a 0 c)).run Try.prog ((W3.alloc (bts S)).drewN q) = .ok (.string (strOfNums [])) ((W3.alloc (bts S)).drewN q) := fun a c q =>
        conv_rd _ _ [] 0 c rfl ⟨by simp, by simp⟩
      have hS0 : S = [] := by rw [← hS]; simp
      subst hS0
      clear hS hr4 HD HJ c1
      go_wp2
      go_quiet (fail)
      all_goals go_wp2
      all_goals go_ret
      all_goals exact ⟨rfl, bel_drewN b4 _⟩
    · have hne : l ≠ [] := by intro h; subst h; simp at hkm; omega
      obtain ⟨b, off, rfl, hc⟩ := hr4.2 hne
      have c2 : ∀ q, (convert 24 9 (.slice (some ⟨b, off + k, none⟩) n (cap - k))).run Try.prog ((W3.alloc (bts S)).drewN q) = .ok (.string (strOfNums S)) ((W3.alloc (bts S)).drewN q) := fun q => by
        have := rd_sub hr4.1 hc k n hkm (some ⟨b, off + k, none⟩) (fun _ => rfl) q
        rw [hS] at this
        exact conv_rd _ _ S n (cap - k) (unhide HSL) this
      have hck : ¬ cap = k := by omega
      clear hS hr4 hc HD HJ hn0 hne
      go_wp2
      go_quiet (fail)
      all_goals go_wp2
      all_goals go_ret
      all_goals exact ⟨rfl, bel_drewN b4 _⟩

set_option maxHeartbeats 1600000 in
/-- The number stands in so many. -/
theorem whole_ok (v : Int) (n : Nat) (a : Option Addr) (l : List Int) (cap : Nat) (i : Int) (w : World) (v0 : 0 ≤ v) (v1 : v < 18446744073709551616) (hr : Rd w a l) (hm : l.length ≤ cap) (hm2 : cap ≤ maxLen) (hn : n ≤ 8) (hv : v / 256 ^ n = 0) :
    Calls Try.prog 5 #[.int .u64 v, .int .i64 n, .slice a l.length cap, .int .i64 i] w fun e w' => e = .returned (.bool true) ∧ Below w.heap.size w w' := by
  have HR := hide hr
  clear hr
  go_enter Try.func5, Try.ntmps5
  go_wp2_with fail
  refine (awake_any _).mono ?_
  rintro e w1 ⟨rfl, b1⟩
  go_wp2_with fail
  refine (big_ok v n _ v0 v1 hn hv).mono ?_
  rintro e w2 ⟨rfl, rfl⟩
  have b2 := b1.alloc b1.size (bts (dig v n))
  have hd := rd_at (heap_alloc_new w1 (bts (dig v n))) (dig_byte v n)
  have jb := joinF_back v n v0 hv
  have dz := dig_zero_head v n hv
  have HV := hide hv
  have hrf := readF_in (dig v n) 0 n hn (by rw [dig_length]; omega)
  rw [List.drop_zero, List.take_of_length_le (by rw [dig_length]; exact Nat.le_refl _), jb] at hrf
  have HRF := hide hrf
  have HJB := hide jb
  have HDZ := hide dz
  have HD1 := hide hd
  clear b1 hv hd jb dz hrf
  go_wp2_with fail
  have := read_any (some ⟨w1.heap.size, 0, none⟩) (dig v n) n 0 n _ (unhide HD1) (by rw [dig_length]; exact Nat.le_refl _) (by unfold maxLen; omega)
  rw [dig_length] at this
  refine this.mono ?_
  clear this
  rintro e w3 ⟨rfl, q, rfl⟩
  have e := unhide HRF
  simp only [Int.natCast_zero, Int.zero_add] at e
  rw [e]
  clear e
  have b3 := bel_drewN b2 q
  have HD2 := hide (rd_drew (unhide HD1) q)
  clear HD1 b2
  generalize hg : w1.heap.size = g at *
  have hgl : g < ((w1.alloc (bts (dig v n))).drewN q).heap.size := by simp; omega
  generalize (w1.alloc (bts (dig v n))).drewN q = W2 at *
  clear hg w1
  go_wp2_with fail
  by_cases h8 : n < 8
  · have hv1 : v / 256 ^ (n + 1) = 0 := by rw [Int.pow_succ, ← Int.ediv_ediv_of_nonneg (Int.le_of_lt (pow_pos256 _)), unhide HV]; rfl
    rw [show ((n : Int) + 1) = ((n + 1 : Nat) : Int) from by omega]
    refine (big_ok v (n + 1) _ v0 v1 (by omega) hv1).mono ?_
    rintro e w4 ⟨rfl, rfl⟩
    rw [unhide HDZ]
    have b4 := b3.alloc b3.size (bts (0 :: dig v n))
    have c1 : (convert 24 9 (.slice (some ⟨W2.heap.size, 0, none⟩) (n + 1) (n + 1))).run Try.prog (W2.alloc (bts (0 :: dig v n))) = .ok (.string (strOfNums (0 :: dig v n))) (W2.alloc (bts (0 :: dig v n))) :=
      conv_rd _ _ _ _ _ (by simp [dig_length]) (rd_at (heap_alloc_new W2 _) (by intro x hx; simp only [List.mem_cons] at hx; rcases hx with rfl | hx; exact ⟨by decide, by decide⟩; exact dig_byte v n x hx))
    have c2 : (convert 24 9 (.slice (some ⟨g, 0, none⟩) n n)).run Try.prog (W2.alloc (bts (0 :: dig v n))) = .ok (.string (strOfNums (dig v n))) (W2.alloc (bts (0 :: dig v n))) :=
      conv_rd _ _ _ _ _ (dig_length v n) (rd_old (unhide HD2) hgl _)
    have hsz : (strOfNums (dig v n)).size = n := by rw [strOfNums_size, dig_length]
    have heq : ((strOfNums (0 :: dig v n)).toList == ({ data := #[0] } ++ strOfNums (dig v n)).toList) = true := by rw [str_cons]; simp
    clear hv1 b3
    go_wp2_with fail
    clear c1 c2 hsz heq HD2 HV HRF HJB HDZ
    generalize W2.alloc (bts (0 :: dig v n)) = WX at b4 ⊢
    refine (read_any a l cap i n _ (rd_below (unhide HR) b4) hm hm2).mono ?_
    rintro e w3 ⟨rfl, q, rfl⟩
    have b3 := bel_drewN b4 q
    clear b4
    generalize WX.drewN q = W3 at b3 ⊢
    rcases readF_cases l i n with ⟨c, hc, e⟩ | ⟨k, m, rfl, hmn, hm8, hkm, e⟩
    · rw [e]
      have hc0 : (c != 0) = true := by rw [bne_iff_ne]; omega
      clear hc e
      go_wp2
      go_ret
      exact ⟨rfl, b3⟩
    · obtain rfl : n = m := by omega
      rw [e]
      clear e hmn
      have hsl := sub_len l k n hkm
      have hsb : ∀ x ∈ (l.drop k).take n, IsB x := fun x hx => (unhide HR).1 x (List.mem_of_mem_drop (List.mem_of_mem_take hx))
      have jb := joinF_bound _ hsb (by rw [hsl]; exact hn)
      have jd := joinF_div _ hsb 0
      have dj := dig_joinF _ hsb 0
      rw [hsl] at jd dj
      have HD := hide dj
      have HJ := hide jd
      have HSL := hide hsl
      have HSB := hide hsb
      clear dj jd hsl hsb
      have hk0 : ¬ (k : Int) < 0 := by omega
      have hkl : ¬ (l.length : Int) < (k : Int) + n := by omega
      unfold maxLen at hm2
      go_wp2_with fail
      refine (big_ok _ n _ jb.1 jb.2 hn (unhide HJ)).mono ?_
      rintro e w4 ⟨rfl, rfl⟩
      rw [unhide HD]
      have b4 := b3.alloc b3.size (bts ((l.drop k).take n))
      generalize hS : (l.drop k).take n = S at *
      have hr4 := rd_below (unhide HR) b4
      have c1 : ∀ q, (convert 24 9 (.slice (some ⟨W3.heap.size, 0, none⟩) n n)).run Try.prog ((W3.alloc (bts S)).drewN q) = .ok (.string (strOfNums S)) ((W3.alloc (bts S)).drewN q) := fun q =>
        conv_rd _ _ S n n (unhide HSL) (rd_drew (rd_at (heap_alloc_new W3 _) (unhide HSB)) q)
      by_cases hn0 : n = 0
      · subst hn0
        have c2 : ∀ a c q, (convert 24 9 (.slice a 0 c)).run Try.prog ((W3.alloc (bts S)).drewN q) = .ok (.string (strOfNums [])) ((W3.alloc (bts S)).drewN q) := fun a c q =>
          conv_rd _ _ [] 0 c rfl ⟨by simp, by simp⟩
        have hS0 : S = [] := by rw [← hS]; simp
        subst hS0
        clear hS hr4 HD HJ c1
        go_wp2
        go_quiet (fail)
        all_goals go_wp2
        all_goals go_ret
        all_goals exact ⟨rfl, bel_drewN b4 _⟩
      · have hne : l ≠ [] := by intro h; subst h; simp at hkm; omega
        obtain ⟨b, off, rfl, hc⟩ := hr4.2 hne
        have c2 : ∀ q, (convert 24 9 (.slice (some ⟨b, off + k, none⟩) n (cap - k))).run Try.prog ((W3.alloc (bts S)).drewN q) = .ok (.string (strOfNums S)) ((W3.alloc (bts S)).drewN q) := fun q => by
          have := rd_sub hr4.1 hc k n hkm (some ⟨b, off + k, none⟩) (fun _ => rfl) q
          rw [hS] at this
          exact conv_rd _ _ S n (cap - k) (unhide HSL) this
        have hck : ¬ cap = k := by omega
        clear hS hr4 hc HD HJ hn0 hne
        go_wp2
        go_quiet (fail)
        all_goals go_wp2
        all_goals go_ret
        all_goals exact ⟨rfl, bel_drewN b4 _⟩
  · refine (big_arg v _ _ (by omega)).mono ?_
    rintro e w4 ⟨rfl, rfl⟩
    go_wp2_with fail
    clear HD2 HV HRF HJB HDZ hgl
    refine (read_any a l cap i n _ (rd_below (unhide HR) b3) hm hm2).mono ?_
    rintro e w3 ⟨rfl, q, rfl⟩
    have b3 := bel_drewN b3 q
    generalize w4.drewN q = W3 at b3 ⊢
    rcases readF_cases l i n with ⟨c, hc, e⟩ | ⟨k, m, rfl, hmn, hm8, hkm, e⟩
    · rw [e]
      have hc0 : (c != 0) = true := by rw [bne_iff_ne]; omega
      clear hc e
      go_wp2
      go_ret
      exact ⟨rfl, b3⟩
    · obtain rfl : n = m := by omega
      rw [e]
      clear e hmn
      have hsl := sub_len l k n hkm
      have hsb : ∀ x ∈ (l.drop k).take n, IsB x := fun x hx => (unhide HR).1 x (List.mem_of_mem_drop (List.mem_of_mem_take hx))
      have jb := joinF_bound _ hsb (by rw [hsl]; exact hn)
      have jd := joinF_div _ hsb 0
      have dj := dig_joinF _ hsb 0
      rw [hsl] at jd dj
      have HD := hide dj
      have HJ := hide jd
      have HSL := hide hsl
      have HSB := hide hsb
      clear dj jd hsl hsb
      have hk0 : ¬ (k : Int) < 0 := by omega
      have hkl : ¬ (l.length : Int) < (k : Int) + n := by omega
      unfold maxLen at hm2
      go_wp2_with fail
      refine (big_ok _ n _ jb.1 jb.2 hn (unhide HJ)).mono ?_
      rintro e w4 ⟨rfl, rfl⟩
      rw [unhide HD]
      have b4 := b3.alloc b3.size (bts ((l.drop k).take n))
      generalize hS : (l.drop k).take n = S at *
      have hr4 := rd_below (unhide HR) b4
      have c1 : ∀ q, (convert 24 9 (.slice (some ⟨W3.heap.size, 0, none⟩) n n)).run Try.prog ((W3.alloc (bts S)).drewN q) = .ok (.string (strOfNums S)) ((W3.alloc (bts S)).drewN q) := fun q =>
        conv_rd _ _ S n n (unhide HSL) (rd_drew (rd_at (heap_alloc_new W3 _) (unhide HSB)) q)
      by_cases hn0 : n = 0
      · subst hn0
        have c2 : ∀ a c q, (convert 24 9 (.slice a 0 c)).run Try.prog ((W3.alloc (bts S)).drewN q) = .ok (.string (strOfNums [])) ((W3.alloc (bts S)).drewN q) := fun a c q =>
          conv_rd _ _ [] 0 c rfl ⟨by simp, by simp⟩
        have hS0 : S = [] := by rw [← hS]; simp
        subst hS0
        clear hS hr4 HD HJ c1
        go_wp2
        go_quiet (fail)
        all_goals go_wp2
        all_goals go_ret
        all_goals exact ⟨rfl, bel_drewN b4 _⟩
      · have hne : l ≠ [] := by intro h; subst h; simp at hkm; omega
        obtain ⟨b, off, rfl, hc⟩ := hr4.2 hne
        have c2 : ∀ q, (convert 24 9 (.slice (some ⟨b, off + k, none⟩) n (cap - k))).run Try.prog ((W3.alloc (bts S)).drewN q) = .ok (.string (strOfNums S)) ((W3.alloc (bts S)).drewN q) := fun q => by
          have := rd_sub hr4.1 hc k n hkm (some ⟨b, off + k, none⟩) (fun _ => rfl) q
          rw [hS] at this
          exact conv_rd _ _ S n (cap - k) (unhide HSL) this
        have hck : ¬ cap = k := by omega
        clear hS hr4 hc HD HJ hn0 hne
        go_wp2
        go_quiet (fail)
        all_goals go_wp2
        all_goals go_ret
        all_goals exact ⟨rfl, bel_drewN b4 _⟩
end Go.Proofs.Ytommpeibdohdjab
