/- Layer 3: what is nearest, by numbers alone. -/
import Derived.Test.YtpcnpdippnljpaaKQD
namespace Go.Proofs.Ytpcnpdippnljpaa
set_option linter.unusedVariables false
set_option maxRecDepth 100000

def Okn (x : Int) : Prop := 0 ≤ x ∧ x ≤ 4611686018427387903
def Bt (e v x : Int) : Prop := farF e v < farF e x ∨ (farF e v = farF e x ∧ x ≤ v)

theorem step_cases (e b x : Int) : (stepF e b x = x ∧ Okn x ∧ (b < 0 ∨ farF e x < farF e b ∨ (farF e x = farF e b ∧ b < x))) ∨ (stepF e b x = b ∧ ¬ (Okn x ∧ (b < 0 ∨ farF e x < farF e b ∨ (farF e x = farF e b ∧ b < x)))) := by
  unfold stepF Okn
  split
  · rename_i h; exact .inl ⟨rfl, ⟨h.1, h.2.1⟩, h.2.2⟩
  · rename_i h; exact .inr ⟨rfl, fun k => h ⟨k.1.1, k.1.2, k.2⟩⟩

theorem near_spec (e x y z : Int) (h : Okn x ∨ Okn y ∨ Okn z) :
    (nearF e x y z = x ∨ nearF e x y z = y ∨ nearF e x y z = z) ∧ Okn (nearF e x y z) ∧ (Okn x → Bt e (nearF e x y z) x) ∧ (Okn y → Bt e (nearF e x y z) y) ∧ (Okn z → Bt e (nearF e x y z) z) := by
  have s1 := step_cases e (-1) x
  have s2 := step_cases e (stepF e (-1) x) y
  have s3 := step_cases e (stepF e (stepF e (-1) x) y) z
  unfold nearF
  generalize stepF e (stepF e (stepF e (-1) x) y) z = b3 at *
  generalize stepF e (stepF e (-1) x) y = b2 at *
  generalize stepF e (-1) x = b1 at *
  unfold Okn Bt at *
  rcases s3 with ⟨rfl, s3⟩ | ⟨rfl, s3⟩ <;> rcases s2 with ⟨rfl, s2⟩ | ⟨rfl, s2⟩ <;> rcases s1 with ⟨rfl, s1⟩ | ⟨rfl, s1⟩
  all_goals refine ⟨?_, ?_, ?_, ?_, ?_⟩
  all_goals first | omega | (simp; done) | skip

/-- Only one can be the nearest. -/
theorem near_only (e x y z v : Int) (hv : v = x ∨ v = y ∨ v = z) (ho : Okn v) (hx : Okn x → Bt e v x) (hy : Okn y → Bt e v y) (hz : Okn z → Bt e v z) : nearF e x y z = v := by
  have hs := near_spec e x y z (by rcases hv with rfl | rfl | rfl <;> simp [ho])
  obtain ⟨a, b, c1, c2, c3⟩ := hs
  generalize nearF e x y z = u at *
  have k1 : Bt e u v := by
    rcases hv with rfl | rfl | rfl
    · exact c1 ho
    · exact c2 ho
    · exact c3 ho
  have k2 : Bt e v u := by
    rcases a with rfl | rfl | rfl
    · exact hx b
    · exact hy b
    · exact hz b
  unfold Bt at k1 k2
  omega

/-- The stretches: where e's own begins. -/
theorem own_facts (e s : Int) (hs : s = 256 ∨ s = 65536 ∨ s = 16777216 ∨ s = 4294967296) (h0 : 0 ≤ e) (h1 : e ≤ 4611686018427387904) :
    0 ≤ e % s ∧ e % s < s ∧ 0 ≤ e - e % s ∧ (e - e % s ≤ 4611686018427387903 → e - e % s + s ≤ 4611686018427387904) ∧ (0 < e - e % s → s ≤ e - e % s) := by
  rcases hs with rfl | rfl | rfl | rfl <;> omega

theorem st_cases (w : Int) : st w = 256 ∨ st w = 65536 ∨ st w = 16777216 ∨ st w = 4294967296 := by unfold st; (repeat' split) <;> simp

theorem up_cases (l low s : Int) (hs : s = 256 ∨ s = 65536 ∨ s = 16777216 ∨ s = 4294967296) (h0 : 0 ≤ low) (h1 : low < s) :
    upV l low s = if (l + 1) % s ≤ low then low - (l + 1) % s else low - (l + 1) % s + s := by
  unfold upV
  rcases hs with rfl | rfl | rfl | rfl <;> split <;> omega

theorem refV_cases (l low s : Int) : (4611686018427387903 < l + 1 + upV l low s ∧ refV l low s = l + 1 + upV l low s - s) ∨ (l + 1 + upV l low s ≤ 4611686018427387903 ∧ (l + 1 + upV l low s - s < 0 ∨ upV l low s ≤ l + 1 - (l + 1 + upV l low s - s)) ∧ refV l low s = l + 1 + upV l low s)
    ∨ (l + 1 + upV l low s ≤ 4611686018427387903 ∧ 0 ≤ l + 1 + upV l low s - s ∧ l + 1 - (l + 1 + upV l low s - s) < upV l low s ∧ refV l low s = l + 1 + upV l low s - s) := by
  unfold refV
  split
  · exact .inl ⟨by assumption, rfl⟩
  · split
    · exact .inr (.inl ⟨by omega, by assumption, rfl⟩)
    · exact .inr (.inr ⟨by omega, by omega, by omega, rfl⟩)

theorem ref_own (l low w : Int) (h1 : -1 ≤ l) (h2 : l ≤ 4611686018427387903) (h3 : 0 ≤ low) (h4 : low < st w) : wholeV l low w = refV l low (st w) := by
  unfold wholeV
  have hu := up_cases l low (st w) (st_cases w) h3 h4
  have hr := refV_cases l low (st w)
  obtain ⟨f1, f2, f3, f4, f5⟩ := own_facts (l + 1) (st w) (st_cases w) (by omega) (by omega)
  have hp := st_pos w
  generalize refV l low (st w) = V at *
  generalize upV l low (st w) = u at *
  generalize (l + 1) % st w = r at *
  generalize st w = s at *
  have hu' : (r ≤ low ∧ u = low - r) ∨ (low < r ∧ u = low - r + s) := by
    split at hu
    · exact .inl ⟨by assumption, hu⟩
    · exact .inr ⟨by omega, hu⟩
  clear hu
  refine near_only _ _ _ _ _ ?_ ?_ ?_ ?_ ?_
  · rcases hu' with ⟨k, rfl⟩ | ⟨k, rfl⟩ <;> rcases hr with ⟨m, rfl⟩ | ⟨m, n, rfl⟩ | ⟨m, n, o, rfl⟩ <;> omega
  · unfold Okn
    rcases hu' with ⟨k, rfl⟩ | ⟨k, rfl⟩ <;> rcases hr with ⟨m, rfl⟩ | ⟨m, n, rfl⟩ | ⟨m, n, o, rfl⟩ <;> omega
  all_goals
    unfold Okn Bt farF
    intro hk
    rcases hu' with ⟨k, rfl⟩ | ⟨k, rfl⟩ <;> rcases hr with ⟨m, rfl⟩ | ⟨m, n, rfl⟩ | ⟨m, n, o, rfl⟩ <;> omega

/-- What Whole tells, in the document's words. -/
theorem whole_spec (l low w : Int) (h1 : -1 ≤ l) (h2 : l ≤ 4611686018427387903) (h3 : 0 ≤ low) (h4 : low < st w) :
    Okn (wholeV l low w) ∧ wholeV l low w % st w = low
      ∧ (Okn (wholeV l low w + st w) → Bt (l + 1) (wholeV l low w) (wholeV l low w + st w)) ∧ (Okn (wholeV l low w - st w) → Bt (l + 1) (wholeV l low w) (wholeV l low w - st w)) := by
  obtain ⟨f1, f2, f3, f4, f5⟩ := own_facts (l + 1) (st w) (st_cases w) (by omega) (by omega)
  have hp := st_pos w
  have hc := st_cases w
  have hd : (l + 1 - (l + 1) % st w) % st w = 0 := by rcases hc with e | e | e | e <;> rw [e] <;> omega
  have hs := near_spec (l + 1) (l + 1 - (l + 1) % st w + low) (l + 1 - (l + 1) % st w + low + st w) (l + 1 - (l + 1) % st w + low - st w) (by unfold Okn; omega)
  unfold wholeV
  generalize nearF (l + 1) (l + 1 - (l + 1) % st w + low) (l + 1 - (l + 1) % st w + low + st w) (l + 1 - (l + 1) % st w + low - st w) = V at *
  generalize hr : (l + 1) % st w = r at *
  generalize st w = s at *
  obtain ⟨a, b, c1, c2, c3⟩ := hs
  refine ⟨b, ?_, ?_, ?_⟩
  · clear c1 c2 c3 b hr
    generalize l + 1 - r = q at *
    rcases hc with rfl | rfl | rfl | rfl <;> rcases a with rfl | rfl | rfl <;> omega
  · intro hk
    unfold Okn Bt farF at *
    rcases a with rfl | rfl | rfl
    · exact c2 hk
    · omega
    · have := c1; omega
  · intro hk
    unfold Okn Bt farF at *
    rcases a with rfl | rfl | rfl
    · exact c3 hk
    · have := c1; omega
    · omega

theorem back_cands (e n s : Int) (hs : s = 256 ∨ s = 65536 ∨ s = 16777216 ∨ s = 4294967296) (k1 : 2 * (e - n) < s) (k2 : 2 * (n - e) ≤ s) : n = e - e % s + n % s ∨ n = e - e % s + n % s + s ∨ n = e - e % s + n % s - s := by
  rcases hs with rfl | rfl | rfl | rfl <;> omega

/-- What Cut tells is made whole again. -/
theorem whole_back (n l w : Int) (h1 : -1 ≤ l) (h2 : l ≤ 4611686018427387903) (hn : 0 ≤ n ∧ n ≤ 4611686018427387903) (k1 : 2 * (l + 1 - n) < st w) (k2 : 2 * (n - (l + 1)) ≤ st w) : wholeV l (n % st w) w = n := by
  unfold wholeV
  obtain ⟨f1, f2, f3, f4, f5⟩ := own_facts (l + 1) (st w) (st_cases w) (by omega) (by omega)
  have hp := st_pos w
  have hc := st_cases w
  have h3 := back_cands (l + 1) n (st w) hc k1 k2
  have hm : 0 ≤ n % st w ∧ n % st w < st w := by
    rcases hc with e | e | e | e <;> rw [e] <;> omega
  generalize n % st w = low at *
  generalize (l + 1) % st w = r at *
  generalize st w = s at *
  refine near_only _ _ _ _ _ h3 hn ?_ ?_ ?_
  all_goals
    unfold Okn Bt farF
    intro hk
    clear f4 f5 hc
    omega
end Go.Proofs.Ytpcnpdippnljpaa
