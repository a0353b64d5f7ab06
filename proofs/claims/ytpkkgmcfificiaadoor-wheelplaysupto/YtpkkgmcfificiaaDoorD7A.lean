/- The document's wheel: Later, New, ahead, Next, find, When. -/
import Derived.Test.YtpkkgmcfificiaaDoorH6
namespace Go.Proofs.YtpkkgmcfificiaaDoor
open Go.RowKit Go.Shelf Go.Maps
set_option linter.unusedVariables false
set_option maxRecDepth 100000
set_option maxHeartbeats 1000000

/-- A list of deadlines that is read, in blocks of Q other than R. -/
structure RdT (w : World) (Q : Nat → Prop) (R : Nat) (a : Option Addr) (cp : Nat) (T : List Tm) : Prop where
  cap : T.length ≤ cp ∧ cp ≤ 9223372036854775807
  at_ : T = [] ∨ ∃ g off, a = some ⟨g, off, none⟩ ∧ g ≠ R ∧ Q g ∧ g < w.heap.size ∧ ∀ i p, T[i]? = some p → w.cell? ⟨g, off + i * 2, none⟩ = some (.int .i64 (p.1 : Int)) ∧ w.cell? ⟨g, off + i * 2 + 1, none⟩ = some (.int .i64 (p.2 : Int))

/-- The document's wheel at R. -/
structure RW (B : Nat) (w : World) (Q : Nat → Prop) (R c : Nat) (T : List Tm) : Prop where
  ex : ∃ a cp, Blk w R #[.int .i64 (c : Int), .slice a T.length cp] 62 ∧ RdT w Q R a cp T
  q : Q R
  lt : ∀ g, Q g → B ≤ g ∧ g < w.heap.size

theorem RdT.kept {w w' : World} {Q : Nat → Prop} {R : Nat} {a : Option Addr} {cp : Nat} {T : List Tm} (h : RdT w Q R a cp T) (hs : w.heap.size ≤ w'.heap.size) (hk : ∀ g, Q g → g ≠ R → g < w.heap.size → w'.heap[g]? = w.heap[g]?) : RdT w' Q R a cp T := by
  refine ⟨h.cap, ?_⟩
  rcases h.at_ with h1 | ⟨g, off, e, hn, hq, hl, hc⟩
  · exact .inl h1
  · refine .inr ⟨g, off, e, hn, hq, by omega, fun i p hp => ?_⟩
    have k := hk g hq hn hl
    obtain ⟨c1, c2⟩ := hc i p hp
    have cc : ∀ o, w'.cell? ⟨g, o, none⟩ = w.cell? ⟨g, o, none⟩ := fun o => by simp only [World.cell?, k]
    exact ⟨(cc _).trans c1, (cc _).trans c2⟩
theorem RW.kept {B : Nat} {w w' : World} {Q : Nat → Prop} {R c : Nat} {T : List Tm} (h : RW B w Q R c T) (hs : w.heap.size ≤ w'.heap.size) (hk : ∀ g, Q g → g < w.heap.size → w'.heap[g]? = w.heap[g]?) : RW B w' Q R c T := by
  obtain ⟨a, cp, b, r⟩ := h.ex
  exact ⟨⟨a, cp, (hk R h.q (h.lt R h.q).2).trans b, r.kept hs (fun g hq _ hl => hk g hq hl)⟩, h.q, fun g hq => ⟨(h.lt g hq).1, by have := (h.lt g hq).2; omega⟩⟩
theorem RW.grown {B : Nat} {w w' : World} {Q : Nat → Prop} {R c : Nat} {T : List Tm} (h : RW B w Q R c T) (g : w.grownBy w' none) : RW B w' Q R c T := h.kept g.size (fun i _ hi => g.block i hi (by simp))
theorem RW.other {B : Nat} {w w' : World} {Q S : Nat → Prop} {R c : Nat} {T : List Tm} (h : RW B w Q R c T) (k : Kp S w w') (hd : ∀ g, Q g → ¬ S g) : RW B w' Q R c T := h.kept k.size (fun i hq hi => k.block i hi (hd i hq))

theorem later_any (c : Nat) (now : Int) (hc : c ≤ 1125899906842624) (w : World) : Calls Tryd.prog 23 #[.int .i64 (c : Int), .int .i64 now] w fun e w' => e = .returned (.int .i64 (adv c now : Int)) ∧ w' = w := by
  by_cases h1 : (1125899906842624 : Int) < now
  · have e : ((adv c now : Nat) : Int) = 1125899906842624 := by unfold adv; omega
    rw [e]
    have h2 : ¬ (1125899906842624 : Int) < (c : Int) := by omega
    clear e
    go_enter Tryd.func23, Tryd.ntmps23
    go_wp2_with fail
    go_ret
    exact ⟨rfl, rfl⟩
  · by_cases h2 : now < (c : Int)
    · have e : ((adv c now : Nat) : Int) = c := by unfold adv; omega
      rw [e]
      clear e
      go_enter Tryd.func23, Tryd.ntmps23
      go_wp2_with fail
      go_ret
      exact ⟨rfl, rfl⟩
    · have e : ((adv c now : Nat) : Int) = now := by unfold adv; omega
      rw [e]
      clear e
      go_enter Tryd.func23, Tryd.ntmps23
      go_wp2_with fail
      go_ret
      exact ⟨rfl, rfl⟩

theorem rnew_any (B : Nat) (now : Int) (w : World) (hB : B ≤ w.heap.size) :
    Calls Tryd.prog 9 #[.int .i64 now] w fun e w' => ∃ R, e = .returned (ptr R) ∧ RW B w' (fun g => w.heap.size ≤ g ∧ g < w'.heap.size) R (clk now) [] ∧ w.grownBy w' none := by
  have hl := later_any 0 now (by omega) w
  have e0 : ((adv 0 now : Nat) : Int) = (clk now : Int) := by unfold adv clk; omega
  rw [e0] at hl
  have b := Blk.new w #[.int .i64 (clk now : Int), .slice none 0 0] 62
  have g := World.grownBy_alloc w (.cells #[.int .i64 (clk now : Int), .slice none 0 0] 62) none
  have sz : (w.alloc (.cells #[.int .i64 (clk now : Int), .slice none 0 0] 62)).heap.size = w.heap.size + 1 := by show (w.heap.push _).size = _; simp
  have E := hide (show ∃ R, Ending.returned (ptr w.heap.size) = .returned (ptr R) ∧ RW B (w.alloc (.cells #[.int .i64 (clk now : Int), .slice none 0 0] 62)) (fun g => w.heap.size ≤ g ∧ g < (w.alloc (.cells #[.int .i64 (clk now : Int), .slice none 0 0] 62)).heap.size) R (clk now) [] ∧ w.grownBy (w.alloc (.cells #[.int .i64 (clk now : Int), .slice none 0 0] 62)) none from
    ⟨_, rfl, ⟨⟨none, 0, b, ⟨Nat.le_refl _, by omega⟩, .inl rfl⟩, ⟨Nat.le_refl _, by omega⟩, fun g hg => ⟨by omega, hg.2⟩⟩, g⟩)
  clear b g sz e0
  generalize ((clk now : Nat) : Int) = C at *
  go_enter Tryd.func9, Tryd.ntmps9
  go_wp2_with fail
  refine hl.mono ?_
  rintro e w' ⟨rfl, hw⟩
  subst hw
  go_wp2_with fail
  go_ret
  exact unhide E

theorem ahead_doc (a b : Tm) (w : World) : Calls Tryd.prog 35 #[.agg #[.int .i64 (a.1 : Int), .int .i64 (a.2 : Int)], .agg #[.int .i64 (b.1 : Int), .int .i64 (b.2 : Int)]] w fun e w' => e = .returned (.bool (decide (ltT a b))) ∧ w.grownBy w' none := by
  obtain ⟨b1, b2, gA⟩ := Blk.two w #[.int .i64 (a.1 : Int), .int .i64 (a.2 : Int)] #[.int .i64 (b.1 : Int), .int .i64 (b.2 : Int)] 69 69
  have x0 := b1.cell 0 (.int .i64 (a.1 : Int)) rfl
  have x1 := b1.cell 1 (.int .i64 (a.2 : Int)) rfl
  have y0 := b2.cell 0 (.int .i64 (b.1 : Int)) rfl
  have y1 := b2.cell 1 (.int .i64 (b.2 : Int)) rfl
  have E := hide gA
  clear b1 b2 gA
  by_cases h : a.2 = b.2
  · have t : ((a.2 : Int) != (b.2 : Int)) = false := by simp [h]
    have F : Hid (decide (a.1 < b.1) = decide (ltT a b)) := by
      show _ = _
      by_cases c : a.1 < b.1
      · rw [decide_eq_true c, decide_eq_true (p := ltT a b) (by unfold ltT; omega)]
      · rw [decide_eq_false c, decide_eq_false (p := ltT a b) (by unfold ltT; omega)]
    clear h
    go_enter Tryd.func35, Tryd.ntmps35
    go_wp2_with fail
    go_ret
    exact ⟨by rw [← unhide F]; rfl, unhide E⟩
  · have t : ((a.2 : Int) != (b.2 : Int)) = true := by simp; omega
    have F : Hid (decide (a.2 < b.2) = decide (ltT a b)) := by
      show _ = _
      by_cases c : a.2 < b.2
      · rw [decide_eq_true c, decide_eq_true (p := ltT a b) (by unfold ltT; omega)]
      · rw [decide_eq_false c, decide_eq_false (p := ltT a b) (by unfold ltT; omega)]
    clear h
    go_enter Tryd.func35, Tryd.ntmps35
    go_wp2_with fail
    go_ret
    exact ⟨by rw [← unhide F]; rfl, unhide E⟩

theorem rnext_any {B : Nat} {w : World} {Q : Nat → Prop} {R c : Nat} {T : List Tm} (h : RW B w Q R c T) : Calls Tryd.prog 12 #[ptr R] w fun e w' => e = .returned (.int .i64 (nextT T : Int)) ∧ w' = w := by
  obtain ⟨a, cp, b, r⟩ := h.ex
  have cap := r.cap
  cases T with
  | nil =>
    have e : ((nextT [] : Nat) : Int) = 4611686018427387904 := rfl
    rw [e]
    have x1 := b.cell 1 (.slice a 0 cp) rfl
    clear e b r h
    go_enter Tryd.func12, Tryd.ntmps12
    go_wp2_with fail
    go_ret
    exact ⟨rfl, rfl⟩
  | cons p t =>
    obtain ⟨g, off, rfl, hn, hq, hl, hc⟩ := r.at_.resolve_left (by simp)
    have x1 := b.cell 1 (.slice (some ⟨g, off, none⟩) (p :: t).length cp) rfl
    have c1 := (hc 0 p rfl).2
    simp only [Nat.zero_mul, Nat.add_zero] at c1
    have e : ((nextT (p :: t) : Nat) : Int) = (p.2 : Int) := rfl
    rw [e]
    simp only [List.length_cons] at x1 cap
    have s0 : (((t.length + 1 : Nat) : Int) == 0) = false := by simp; omega
    have s1 : (0 : Int) < ((t.length + 1 : Nat) : Int) := by omega
    clear e b r h hc
    go_enter Tryd.func12, Tryd.ntmps12
    go_wp2_with fail
    go_ret
    exact ⟨rfl, rfl⟩

/-- The place of a number. -/
def placeT : List Tm → Int → Nat
  | [], _ => 0
  | p :: t, i => if (p.1 : Int) = i then 0 else placeT t i + 1
theorem place_le (i : Int) : ∀ T : List Tm, placeT T i ≤ T.length
  | [] => Nat.le_refl _
  | p :: t => by
    unfold placeT
    split
    · omega
    · have := place_le i t; simp; omega
theorem place_no (i : Int) : ∀ (T : List Tm) (k : Nat) (p : Tm), k < placeT T i → T[k]? = some p → (p.1 : Int) ≠ i
  | [], k, p, h, _ => by simp [placeT] at h
  | q :: t, k, p, h, hp => by
    unfold placeT at h
    split at h
    · omega
    · cases k with
      | zero => simp at hp; subst hp; assumption
      | succ k => exact place_no i t k p (by omega) (by simpa using hp)
theorem place_yes (i : Int) : ∀ (T : List Tm) (p : Tm), T[placeT T i]? = some p → (p.1 : Int) = i
  | [], p, h => by simp at h
  | q :: t, p, h => by
    unfold placeT at h
    split at h
    · rename_i e
      simp at h; subst h; exact e
    · exact place_yes i t p (by simpa using h)
theorem place_lt (i : Int) : ∀ (T : List Tm) (k : Nat), (∀ j p, j < k → T[j]? = some p → (p.1 : Int) ≠ i) → k ≤ T.length → k ≤ placeT T i
  | [], k, _, h => by simp at h; omega
  | q :: t, k, hn, h => by
    unfold placeT
    cases k with
    | zero => omega
    | succ k =>
      rw [if_neg (hn 0 q (by omega) rfl)]
      have := place_lt i t k (fun j p hj hp => hn (j + 1) p (by omega) (by simpa using hp)) (by simp at h; omega)
      omega

def findT (T : List Tm) (i : Int) : Int := if placeT T i < T.length then (placeT T i : Int) else -1
theorem find_any {B : Nat} {w : World} {Q : Nat → Prop} {R c : Nat} {T : List Tm} (h : RW B w Q R c T) (i : Int) : Calls Tryd.prog 36 #[ptr R, .int .i64 i] w fun e w' => e = .returned (.int .i64 (findT T i)) ∧ w' = w := by
  obtain ⟨a, cp, b, r⟩ := h.ex
  have cap := r.cap
  have x1 := b.cell 1 (.slice a T.length cp) rfl
  have RR := hide r
  have PL := place_le i T
  clear b r h
  have lI : ¬ (9223372036854775807 : Int) < (T.length : Int) := by omega
  go_enter Tryd.func36, Tryd.ntmps36
  go_wp2_with fail
  go_loopw [5] (fun iv wr => ∃ k : Nat, k ≤ placeT T i ∧ iv = .int .i64 k ∧ wr = w) (fun iv _ => T.length - (intOf iv).toNat)
  case atStart => exact ⟨0, Nat.zero_le _, rfl, rfl⟩
  case round =>
    obtain ⟨k, hk, rfl, hwr⟩ := hrel
    replace hwr := hwr.symm
    subst hwr
    by_cases hlt : k < T.length
    · have kN : (k : Int) < (T.length : Int) := by omega
      obtain ⟨p, hp⟩ : ∃ p, T[k]? = some p := ⟨T[k], by simp⟩
      obtain ⟨g, off, rfl, hn, hq, hl, hc⟩ := (unhide RR).at_.resolve_left (fun e => by subst e; simp at hlt)
      have c0 := (hc k p hp).1
      clear hc hn hq hl RR
      by_cases e : (p.1 : Int) = i
      · have E : Hid (findT T i = (k : Int)) := by
          have : placeT T i = k := by
            by_cases c : k < placeT T i
            · exact absurd e (place_no i T k p c hp)
            · omega
          show findT T i = _
          unfold findT
          rw [this, if_pos hlt]
        have t : ((p.1 : Int) == i) = true := by simpa using e
        clear hp e
        go_wp2_with fail
        go_ret
        exact ⟨by rw [unhide E]; rfl, rfl⟩
      · have t : ((p.1 : Int) == i) = false := by simpa using e
        have hk1 : k + 1 ≤ placeT T i := place_lt i T (k + 1) (fun j q hj hq => by
          by_cases c : j = k
          · subst c; rw [hp] at hq; cases hq; exact e
          · exact place_no i T j q (by omega) hq) (by omega)
        clear hp e
        go_wp2_with fail
        exact ⟨⟨k + 1, hk1, by go_num, trivial⟩, by simp [intOf]; omega⟩
    · have kN : ¬ (k : Int) < (T.length : Int) := by omega
      have E : Hid (findT T i = -1) := by
        show findT T i = _
        unfold findT
        rw [if_neg (by omega)]
      go_wp2_with fail
      go_ret
      exact ⟨by rw [unhide E]; rfl, rfl⟩

theorem when_find {T : List Tm} {i : Int} : (findT T i = -1 ∧ whenT T i = none) ∨ ∃ k p, findT T i = ((k : Nat) : Int) ∧ T[k]? = some p ∧ k < T.length ∧ (p.1 : Int) = i ∧ whenT T i = some p.2 := by
  by_cases h : placeT T i < T.length
  · right
    refine ⟨placeT T i, T[placeT T i], by unfold findT; rw [if_pos h], by simp, h, place_yes i T _ (by simp), ?_⟩
    have : T.find? (fun p => decide ((p.1 : Int) = i)) = some T[placeT T i] := by
      rw [List.find?_eq_some_iff_getElem]
      refine ⟨by simpa using place_yes i T _ (by simp), placeT T i, h, rfl, fun j hj => ?_⟩
      have := place_no i T j T[j] hj (by simp)
      simpa using this
    unfold whenT
    rw [this]; rfl
  · left
    refine ⟨by unfold findT; rw [if_neg h], ?_⟩
    have : T.find? (fun p => decide ((p.1 : Int) = i)) = none := by
      rw [List.find?_eq_none]
      intro p hp
      obtain ⟨j, hj⟩ := List.getElem?_of_mem hp
      have hl := (List.getElem?_eq_some_iff.1 hj).1
      have := place_no i T j p (by omega) hj
      simpa using this
    unfold whenT
    rw [this]; rfl

theorem rwhen_any {B : Nat} {w : World} {Q : Nat → Prop} {R c : Nat} {T : List Tm} (h : RW B w Q R c T) (i : Int) : Calls Tryd.prog 27 #[ptr R, .int .i64 i] w fun e w' => e = .returned (.tuple #[.int .i64 (match whenT T i with | some a => (a : Int) | none => 0), .int .i64 (match whenT T i with | some _ => 0 | none => 4)]) ∧ w' = w := by
  have f := find_any h i
  obtain ⟨a, cp, b, r⟩ := h.ex
  have cap := r.cap
  have x1 := b.cell 1 (.slice a T.length cp) rfl
  rcases when_find (T := T) (i := i) with ⟨e1, e2⟩ | ⟨k, p, e1, hp, hk, -, e2⟩
  · rw [e2]
    rw [e1] at f
    clear b r h e1 e2
    go_enter Tryd.func27, Tryd.ntmps27
    go_wp2_with fail
    refine f.mono ?_
    rintro e w' ⟨rfl, hw⟩
    subst hw
    go_wp2_with fail
    go_ret2
    exact ⟨rfl, rfl⟩
  · rw [e2]
    rw [e1] at f
    obtain ⟨g, off, rfl, hn, hq, hl, hc⟩ := r.at_.resolve_left (fun e => by subst e; simp at hk)
    have c1 := (hc k p hp).2
    have kN : (k : Int) < (T.length : Int) := by omega
    clear b r h e1 e2 hc hp
    go_enter Tryd.func27, Tryd.ntmps27
    go_wp2_with fail
    refine f.mono ?_
    rintro e w' ⟨rfl, hw⟩
    subst hw
    go_wp2_with fail
    go_ret2
    exact ⟨rfl, rfl⟩
end Go.Proofs.YtpkkgmcfificiaaDoor
