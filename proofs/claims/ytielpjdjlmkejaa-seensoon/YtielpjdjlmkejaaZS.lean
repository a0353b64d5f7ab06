/- SeenSoon. -/
import Derived.Test.YtielpjdjlmkejaaZR
namespace Go.Proofs.Ytielpjdjlmkejaa
open Go.RowKit
set_option linter.unusedVariables false
set_option maxRecDepth 100000
set_option maxHeartbeats 4000000

theorem qs_take2 {w wr W1 : World} {b : Nat} {s : Sn} (h : QS w wr b s) (g1 : wr.grownBy W1 none) (ok : SOk s) {k : Nat} (hc : Cb k s) (hk : (k : Int) < 9223372036854775807) (now n : Int) (el : Bool) (mark : Int) :
    Calls Try.prog 13 #[ptr b, .int .i64 now, .int .i64 n, .bool el, .int .i64 mark] W1 fun e W2 => e = .returned (.bool (freshF (goF now s) n)) ∧ QS w W2 b (takeF now n el mark s) ∧ ∀ g, wr.heap.size ≤ g → g < W1.heap.size → W2.heap[g]? = W1.heap[g]? := by
  obtain ⟨bs, v, h1, h2⟩ := h.at_
  have far : ∀ g, wr.heap.size ≤ g → ¬ Mine b bs v g := fun g hg hm => by have := h1.mine_lt g hm; omega
  have hgr := grown_trans h.grown g1
  cases hf : freshF (goF now s) n with
  | false =>
    refine (stale_any b bs v s now n mark el W1 (h1.grown g1) ok.ok hf).mono fun e wr' ⟨he, ht⟩ => ⟨he, ?_, ?_⟩
    · unfold takeF
      rw [hf]
      exact QS.to hgr h2 ht
    · obtain ⟨-, -, -, k3⟩ := ht
      exact fun g a c => k3.block g c (far g a)
  | true =>
    refine (take_any b bs v s now n mark el W1 (h1.grown g1) (take_ok ok hc hk now n hf) ok.floor.1).mono fun e wr' ⟨he, ht⟩ => ⟨by rw [he, hf], QS.to hgr h2 ht, ?_⟩
    obtain ⟨-, -, -, k3⟩ := ht
    exact fun g a c => k3.block g c (far g a)

/-- What SeenSoon holds between rounds. -/
structure SI (space delay : Int) (s : Sn) (cl fi ma : Int) : Prop where
  ok : SOk s
  sp : s.space = space
  dl : s.delay = delay
  cl : cl = s.clock
  m : 0 ≤ ma
  zero : ma = 0 → fi = -1 ∧ s.due = never
  pos : 0 < ma → 0 ≤ fi ∧ fi ≤ s.clock ∧ s.due ≤ fi + delay ∧ s.due ≠ never ∧ (1 < ma ∨ space ≠ 2 → s.due ≤ s.clock)

theorem lat_go (s : Sn) (now : Int) : lat s.clock now = (goF now s).clock := rfl

theorem si_go {space delay : Int} {s : Sn} {cl fi ma : Int} (h : SI space delay s cl fi ma) (now : Int) : SI space delay (goF now s) (lat cl now) fi ma := by
  have hm : s.clock ≤ (goF now s).clock := by
    have := h.ok.clock
    show s.clock ≤ min (max now s.clock) 1125899906842624
    omega
  refine ⟨sok_go h.ok now, h.sp, h.dl, by rw [h.cl]; rfl, h.m, h.zero, fun hp => ?_⟩
  obtain ⟨p1, p2, p3, p4, p5⟩ := h.pos hp
  exact ⟨p1, by omega, p3, p4, fun c => by have := p5 c; show s.due ≤ (goF now s).clock; omega⟩

theorem si_rest {space delay : Int} {s : Sn} {cl fi ma : Int} (h : SI space delay s cl fi ma) : SI space delay (restF0 s) cl (-1) 0 :=
  ⟨sok_rest h.ok, h.sp, h.dl, h.cl, Int.le_refl _, fun _ => ⟨rfl, rfl⟩, fun h => absurd h (by decide)⟩

theorem si_ack1 {space delay : Int} {s : Sn} {cl fi ma : Int} (h : SI space delay s cl fi ma) (now : Int) (hL : s.L ≠ []) : SI space delay (ackF now s) (lat cl now) (-1) 0 := by
  unfold ackF
  rw [if_neg hL]
  exact si_rest (si_go h now)
theorem si_ack0 {space delay : Int} {s : Sn} {cl fi ma : Int} (h : SI space delay s cl fi ma) (now : Int) (hL : s.L = []) : SI space delay (ackF now s) (lat cl now) fi ma := by
  unfold ackF
  rw [if_pos hL]
  exact si_go h now

theorem si_raise {space delay : Int} {s : Sn} {cl fi ma : Int} (h : SI space delay s cl fi ma) {f : Int} (hf : f ≤ s.largest) : SI space delay (raiseF f s) cl fi ma := ⟨sok_raise h.ok hf, h.sp, h.dl, h.cl, h.m, h.zero, h.pos⟩
theorem si_forget1 {space delay : Int} {s : Sn} {cl fi ma : Int} (h : SI space delay s cl fi ma) (n : Int) (hL : (forgetF n s).L = []) : SI space delay (forgetF n s) cl (-1) 0 := by
  have hr := si_raise h (f := min n s.largest) (by omega)
  unfold forgetF at *
  split
  · exact si_rest hr
  · rename_i hc
    rw [if_neg hc] at hL
    exact absurd hL hc
theorem si_forget0 {space delay : Int} {s : Sn} {cl fi ma : Int} (h : SI space delay s cl fi ma) (n : Int) (hL : (forgetF n s).L ≠ []) : SI space delay (forgetF n s) cl fi ma := by
  have hr := si_raise h (f := min n s.largest) (by omega)
  unfold forgetF at *
  split
  · rename_i hc
    rw [if_pos hc] at hL
    exact absurd hc hL
  · exact hr

theorem took_f (n : Int) (el : Bool) (mark : Int) (s : Sn) : (tookF n el mark s).space = s.space ∧ (tookF n el mark s).delay = s.delay ∧ (tookF n el mark s).clock = s.clock ∧ (tookF n el mark s).due = (w1F n el mark s).due := by
  have k : ∀ t : Sn, (keepF n t).space = t.space ∧ (keepF n t).delay = t.delay ∧ (keepF n t).clock = t.clock ∧ (keepF n t).due = t.due := fun t => by unfold keepF; split <;> exact ⟨rfl, rfl, rfl, rfl⟩
  have p : ∀ t : Sn, (topF n t).space = t.space ∧ (topF n t).delay = t.delay ∧ (topF n t).clock = t.clock ∧ (topF n t).due = t.due := fun t => by unfold topF; split <;> exact ⟨rfl, rfl, rfl, rfl⟩
  have w : (w1F n el mark s).space = s.space ∧ (w1F n el mark s).delay = s.delay ∧ (w1F n el mark s).clock = s.clock := by unfold w1F; split <;> exact ⟨rfl, rfl, rfl⟩
  have c : ∀ t : Sn, (countF mark t).space = t.space ∧ (countF mark t).delay = t.delay ∧ (countF mark t).clock = t.clock ∧ (countF mark t).due = t.due := fun t => ⟨rfl, rfl, rfl, rfl⟩
  refine ⟨?_, ?_, ?_, ?_⟩
  · exact (k _).1.trans ((c _).1.trans ((p _).1.trans w.1))
  · exact (k _).2.1.trans ((c _).2.1.trans ((p _).2.1.trans w.2.1))
  · exact (k _).2.2.1.trans ((c _).2.2.1.trans ((p _).2.2.1.trans w.2.2))
  · exact (k _).2.2.2.trans ((c _).2.2.2.trans (p _).2.2.2)

/-- One that isn't taken, or doesn't elicit. -/
theorem si_take0 {space delay : Int} {s : Sn} {cl fi ma : Int} (h : SI space delay s cl fi ma) (now n : Int) (el : Bool) (mark : Int) (hn : (freshF (goF now s) n && el) = false) : SI space delay (takeF now n el mark s) (lat cl now) fi ma := by
  have g := si_go h now
  unfold takeF
  cases hf : freshF (goF now s) n with
  | false => exact g
  | true =>
    rw [hf, Bool.true_and] at hn
    subst hn
    obtain ⟨f1, f2, f3, f4⟩ := took_f n false mark (goF now s)
    rw [if_pos rfl]
    refine ⟨sok_took g.ok hf false mark, by rw [f1]; exact g.sp, by rw [f2]; exact g.dl, by rw [f3]; exact g.cl, g.m, by rw [f4]; exact g.zero, fun hp => ?_⟩
    rw [f3, f4]
    exact g.pos hp
/-- One that waits: the first. -/
theorem si_take1 {space delay : Int} {s : Sn} {cl fi ma : Int} (h : SI space delay s cl fi ma) (now n : Int) (mark : Int) (hf : freshF (goF now s) n = true) (hz : fi < 0) : SI space delay (takeF now n true mark s) (lat cl now) (lat cl now) (ma + 1) := by
  have g := si_go h now
  have m0 : ma = 0 := by
    by_cases c : 0 < ma
    · have := (h.pos c).1; omega
    · have := h.m; omega
  obtain ⟨z1, z2⟩ := g.zero m0
  unfold takeF
  rw [hf, if_pos rfl]
  obtain ⟨f1, f2, f3, f4⟩ := took_f n true mark (goF now s)
  have hd : (w1F n true mark (goF now s)).due = if (arrF n mark (goF now s)).hurries = true then (goF now s).clock else (goF now s).clock + (goF now s).delay := by
    show min (goF now s).due _ = _
    rw [z2]
    have := g.ok.clock; have := g.ok.delay
    simp only [never]
    split <;> omega
  have hdl := g.dl
  refine ⟨sok_took g.ok hf true mark, by rw [f1]; exact g.sp, by rw [f2]; exact g.dl, by rw [f3]; exact g.cl, by omega, fun c => by omega, fun _ => ?_⟩
  rw [f3, f4, hd, g.cl]
  have hc := g.ok.clock; have hdd := g.ok.delay
  refine ⟨hc.1, Int.le_refl _, ?_, ?_, fun c => ?_⟩
  · split <;> omega
  · simp only [never]
    split <;> omega
  · have hs : space ≠ 2 := by rcases c with c | c <;> omega
    rw [if_pos]
    · exact Int.le_refl _
    · unfold Arr.hurries Arr.why arrF
      have := g.sp
      simp [this, hs]
/-- One that waits: another. -/
theorem si_take2 {space delay : Int} {s : Sn} {cl fi ma : Int} (h : SI space delay s cl fi ma) (now n : Int) (mark : Int) (hf : freshF (goF now s) n = true) (hz : ¬ fi < 0) : SI space delay (takeF now n true mark s) (lat cl now) fi (ma + 1) := by
  have g := si_go h now
  have m0 : 0 < ma := by
    by_cases c : ma = 0
    · have := (h.zero c).1; omega
    · have := h.m; omega
  obtain ⟨p1, p2, p3, p4, p5⟩ := g.pos m0
  unfold takeF
  rw [hf, if_pos rfl]
  obtain ⟨f1, f2, f3, f4⟩ := took_f n true mark (goF now s)
  have hh : (arrF n mark (goF now s)).hurries = true := by
    unfold Arr.hurries Arr.why arrF
    simp [p4]
  have hd : (w1F n true mark (goF now s)).due = min (goF now s).due (goF now s).clock := by
    show min (goF now s).due (if (arrF n mark (goF now s)).hurries = true then (goF now s).clock else (goF now s).clock + (goF now s).delay) = _
    rw [if_pos hh]
  refine ⟨sok_took g.ok hf true mark, by rw [f1]; exact g.sp, by rw [f2]; exact g.dl, by rw [f3]; exact g.cl, by omega, fun c => by omega, fun _ => ?_⟩
  rw [f3, f4, hd]
  have hc := g.ok.clock
  have hdu := g.ok.due
  simp only [never] at *
  refine ⟨p1, p2, by omega, by omega, fun _ => by omega⟩

theorem SI.cases {space delay : Int} {s : Sn} {cl fi ma : Int} (h : SI space delay s cl fi ma) : (ma = 0 ∧ s.due = 4611686018427387904) ∨ (ma = 1 ∧ space = 2 ∧ s.due ≤ fi + delay) ∨ (ma = 1 ∧ space ≠ 2 ∧ s.due ≤ fi + delay ∧ s.due ≤ cl) ∨ (1 < ma ∧ s.due ≤ fi + delay ∧ s.due ≤ cl) := by
  have hm := h.m
  by_cases c : ma = 0
  · exact .inl ⟨c, (h.zero c).2⟩
  · obtain ⟨p1, p2, p3, p4, p5⟩ := h.pos (by omega)
    have hc := h.cl
    by_cases c1 : 1 < ma
    · exact .inr (.inr (.inr ⟨c1, p3, by have := p5 (.inl c1); omega⟩))
    · by_cases c2 : space = 2
      · exact .inr (.inl ⟨by omega, c2, p3⟩)
      · exact .inr (.inr (.inl ⟨by omega, c2, p3, by have := p5 (.inr c2); omega⟩))

theorem ack_cb {s : Sn} {k : Nat} (h : Cb k s) (now : Int) : Cb (k + 1) (ackF now s) := by
  unfold ackF
  split <;> exact cb_mono (show Cb k _ from h) (Nat.le_succ k)
theorem forget_cb {s : Sn} {k : Nat} (h : Cb k s) (n : Int) : Cb (k + 1) (forgetF n s) := by
  unfold forgetF
  split <;> exact cb_mono (show Cb k _ from h) (Nat.le_succ k)

def SR (w : World) (b : Nat) (space delay : Int) (k : Nat) (wr : World) (s : Sn) (cl fi ma : Int) : Prop := QS w wr b s ∧ SI space delay s cl fi ma ∧ Cb k s ∧ ma ≤ (k : Int)

theorem soon_walk (space delay : Int) (a0 : Option Addr) (len cap : Nat) (ol : List OpE) (w : World) (h : IsOps w a0 len cap ol) :
    Calls Try.prog 5 #[.int .i64 space, .int .i64 delay, .slice a0 len cap] w fun e w' => e = .returned (.bool true) ∧ w.grownBy w' none := by
  have sh := shown_ok w
  have HO := hide h
  have hl := h.hlen
  have hcap := h.hcap
  have lenI : ¬ (9223372036854775807 : Int) < (len : Int) := by omega
  clear h
  by_cases hr : rightF space delay
  · go_enter Try.func5, Try.ntmps5
    go_wp2_with fail
    refine sh.mono ?_
    rintro e w1 ⟨rfl, g1⟩
    have hn := qs_new g1 hr
    have S0 : Hid (SI space delay (sn0 space delay) 0 (-1) 0) := ⟨sok0 hr, rfl, rfl, rfl, Int.le_refl _, fun _ => ⟨rfl, rfl⟩, fun h => absurd h (by decide)⟩
    clear sh g1
    go_wp2_with fail
    refine hn.mono ?_
    rintro e w2 ⟨rfl, q0⟩
    generalize w1.heap.size + 1 = b at *
    have R0 : Hid (SR w b space delay 0 w2 (sn0 space delay) 0 (-1) 0) := ⟨q0, unhide S0, ⟨Int.le_refl _, Int.le_refl _⟩, Int.le_refl _⟩
    have hrD : 0 ≤ delay ∧ delay ≤ 68719476736 := hr.2.2
    clear hn q0 S0 hr
    go_wp2_with fail
    go_loopw [10, 11, 12, 13] (fun c f m i wr => ∃ (k : Nat) (s : Sn) (cl fi ma : Int), k ≤ len ∧ i = .int .i64 k ∧ c = .int .i64 cl ∧ f = .int .i64 fi ∧ m = .int .i64 ma ∧ Hid (SR w b space delay k wr s cl fi ma)) (fun _ _ _ i _ => len - (intOf i).toNat)
    case atStart => exact ⟨0, _, 0, -1, 0, Nat.zero_le _, rfl, rfl, rfl, rfl, R0⟩
    case round =>
      clear R0
      obtain ⟨k, s, cl, fi, ma, hk, rfl, rfl, rfl, rfl, H⟩ := hrel
      by_cases hlt : k < len
      · obtain ⟨bo, off, rfl, hcs⟩ := (unhide HO).cell.resolve_left (by omega)
        have hx : ol[k]? = some ol[k] := List.getElem?_eq_getElem _
        have hxo := (unhide HO).ok _ (List.mem_of_getElem? hx)
        have hcx := hcs k _ hx
        generalize ol[k] = x at *
        have gr := (unhide H).1.grown
        have c0 : wr.cell? ⟨bo, off + k * 6, none⟩ = some (.int .i64 x.kind) := cell_grown_none gr (hcx 0 _ rfl)
        have c1 : wr.cell? ⟨bo, off + k * 6 + 1, none⟩ = some (.bool x.other) := cell_grown_none gr (hcx 1 _ rfl)
        have c2 : wr.cell? ⟨bo, off + k * 6 + 2, none⟩ = some (.int .i64 x.now) := cell_grown_none gr (hcx 2 _ rfl)
        have c3 : wr.cell? ⟨bo, off + k * 6 + 3, none⟩ = some (.int .i64 x.number) := cell_grown_none gr (hcx 3 _ rfl)
        have c4 : wr.cell? ⟨bo, off + k * 6 + 4, none⟩ = some (.bool x.el) := cell_grown_none gr (hcx 4 _ rfl)
        have c5 : wr.cell? ⟨bo, off + k * 6 + 5, none⟩ = some (.int .i64 x.mark) := cell_grown_none gr (hcx 5 _ rfl)
        have kn : (k : Int) < (len : Int) := by omega
        have pr := pk_range x.kind
        have hp := fun W => pick_any x.kind 6 hxo.k (by decide) W
        have hclk : cl ≤ 1125899906842624 := by have := (unhide H).2.1.ok.clock; have := (unhide H).2.1.cl; omega
        have HKK : Hid ((k : Int) < 9223372036854775807) := show _ < _ by omega
        have mak := (unhide H).2.2.2
        have ma0 := (unhide H).2.1.m
        have GA := hide (grown_alloc wr (.cells #[.int .i64 x.kind, .bool x.other, .int .i64 x.now, .int .i64 x.number, .bool x.el, .int .i64 x.mark] 37))
        have BA := hide (Blk.new wr #[.int .i64 x.kind, .bool x.other, .int .i64 x.now, .int .i64 x.number, .bool x.el, .int .i64 x.mark] 37)
        have HLT := hide hlt
        clear hcs hcx hx gr hxo hlt hk
        go_wp2_with fail
        refine (hp _).mono ?_
        rintro e W1 ⟨rfl, hW1⟩
        clear hp
        rw [← hW1] at GA BA
        have b2 := (unhide BA).cell 2 _ rfl
        have b3 := (unhide BA).cell 3 _ rfl
        have b4 := (unhide BA).cell 4 _ rfl
        have b5 := (unhide BA).cell 5 _ rfl
        have la := later_any cl x.now hclk W1
        clear hW1 c0 c1 c2 c3 c4 c5 hclk
        generalize pk x.kind 6 = p at *
        by_cases p3 : p = 3
        · subst p3
          have ak := qs_ack ((unhide H).1.keep (unhide GA)) (unhide H).2.1.ok x.now x.mark
          go_wp2_with fail
          refine la.mono ?_
          rintro e W1' ⟨rfl, rfl⟩
          clear la
          go_wp2_with fail
          refine ak.mono ?_
          rintro e W2 ⟨cs, rfl, ⟨z1, z2⟩, -, q2⟩
          have q3 := hide (q2.keep (grown_alloc W2 (.cells cs 48)))
          clear ak q2 b2 b3 b4 b5
          by_cases hL : s.L = []
          · have dz : decide (s.L ≠ []) = false := by simp [hL]
            rw [dz]
            have R : Hid (SR w b space delay (k + 1) (W2.alloc (.cells cs 48)) (ackF x.now s) (lat cl x.now) fi ma) := ⟨unhide q3, si_ack0 (unhide H).2.1 x.now hL, ack_cb (unhide H).2.2.1 x.now, by omega⟩
            clear dz hL q3 H
            go_wp2_with (refine wpList_store_row rfl _ _ _ rfl W2.heap.size cs rfl rfl 48 _ (Blk.new W2 fr0 48) (by rw [z1]; exact Try.sizeFr) (by rw [z1]; rfl) z2 ?_; rw [World.setRow_alloc_new])
            generalize W2.alloc (.cells cs 48) = W3 at *
            have du := qs_due (unhide R).1
            have hcs := (unhide R).2.1.cases
            have fb : Hid ((ackF x.now s).due ≤ fi + delay → -1 ≤ fi ∧ fi ≤ 1125899906842624) := by
              intro _
              have o := (unhide R).2.1.ok.clock
              by_cases c : 0 < ma
              · have := (unhide R).2.1.pos c; omega
              · have := ((unhide R).2.1.zero (by have := (unhide R).2.1.m; omega)).1; omega
            have ru := qs_runs (unhide R).1 (unhide R).2.1.ok
            have ln := (unhide R).2.1.ok.len
            have NX : Hid (∀ Y, W3.grownBy Y none → SR w b space delay (k + 1) Y (ackF x.now s) (lat cl x.now) (fi) (ma)) := fun Y hg => ⟨(unhide R).1.keep hg, (unhide R).2⟩
            clear R
            generalize ackF x.now s = s' at *
            generalize lat cl x.now = cl' at *
            refine du.mono ?_
            rintro e W4 ⟨rfl, hW4⟩
            subst hW4
            clear du
            generalize s'.due = dd at *
            generalize s'.L = L' at *
            rcases hcs with ⟨m0, dn⟩ | ⟨m1, sp, d1⟩ | ⟨m1, sp, d1, d2⟩ | ⟨m1, d1, d2⟩
            all_goals skip
            case inl =>
              subst dn
              have mb : (ma == 0) = true := by rw [beq_iff_eq]; omega
              have mg : ¬ (0 < ma) := by omega
              have mgd : decide (0 < ma) = false := decide_eq_false mg
              clear fb m0
              go_wp2_with fail
              refine ru.mono ?_
              rintro e W5 ⟨ra5, rc5, rfl, hnc5, hcm5, -, g5⟩
              have E5 := hide (unhide NX _ g5)
              clear ru g5 NX hnc5 hcm5
              have hl5 : ¬ (32 : Int) < (L'.length : Int) := by omega
              generalize L'.length = q5 at *
              clear ln
              have hl5d : decide ((32 : Int) < (q5 : Int)) = false := decide_eq_false hl5
              go_wp2_with fail
              go_roundw
              case rel => exact ⟨k + 1, _, _, _, _, unhide HLT, by go_num, rfl, rfl, rfl, E5⟩
              case measure => have := unhide HLT; simp [intOf]; omega
            case inr.inl =>
              have mb : (ma == 0) = false := by rw [beq_eq_false_iff_ne]; omega
              have mg : 0 < ma := by omega
              have mgd : decide (0 < ma) = true := decide_eq_true mg
              have m2 : ¬ 1 < ma := by omega
              have m2d : decide (1 < ma) = false := decide_eq_false m2
              have bb := unhide fb d1
              have wf : IntKind.i64.wrap (fi + delay) = fi + delay := by rw [IntKind.wrap_i64]; omega
              have dg : ¬ fi + delay < dd := by omega
              have dgd : decide (fi + delay < dd) = false := decide_eq_false dg
              subst sp
              clear fb m1 bb
              go_wp2_with fail
              refine ru.mono ?_
              rintro e W5 ⟨ra5, rc5, rfl, hnc5, hcm5, -, g5⟩
              have E5 := hide (unhide NX _ g5)
              clear ru g5 NX hnc5 hcm5
              have hl5 : ¬ (32 : Int) < (L'.length : Int) := by omega
              generalize L'.length = q5 at *
              clear ln
              have hl5d : decide ((32 : Int) < (q5 : Int)) = false := decide_eq_false hl5
              go_wp2_with fail
              go_roundw
              case rel => exact ⟨k + 1, _, _, _, _, unhide HLT, by go_num, rfl, rfl, rfl, E5⟩
              case measure => have := unhide HLT; simp [intOf]; omega
            case inr.inr.inl =>
              have mb : (ma == 0) = false := by rw [beq_eq_false_iff_ne]; omega
              have mg : 0 < ma := by omega
              have mgd : decide (0 < ma) = true := decide_eq_true mg
              have m2 : ¬ 1 < ma := by omega
              have m2d : decide (1 < ma) = false := decide_eq_false m2
              have bb := unhide fb d1
              have wf : IntKind.i64.wrap (fi + delay) = fi + delay := by rw [IntKind.wrap_i64]; omega
              have dg : ¬ fi + delay < dd := by omega
              have dgd : decide (fi + delay < dd) = false := decide_eq_false dg
              have spb : (space != 2) = true := by rw [bne_iff_ne]; exact sp
              have dc : ¬ cl' < dd := by omega
              have dcd : decide (cl' < dd) = false := decide_eq_false dc
              clear fb m1 bb
              go_wp2_with fail
              refine ru.mono ?_
              rintro e W5 ⟨ra5, rc5, rfl, hnc5, hcm5, -, g5⟩
              have E5 := hide (unhide NX _ g5)
              clear ru g5 NX hnc5 hcm5
              have hl5 : ¬ (32 : Int) < (L'.length : Int) := by omega
              generalize L'.length = q5 at *
              clear ln
              have hl5d : decide ((32 : Int) < (q5 : Int)) = false := decide_eq_false hl5
              go_wp2_with fail
              go_roundw
              case rel => exact ⟨k + 1, _, _, _, _, unhide HLT, by go_num, rfl, rfl, rfl, E5⟩
              case measure => have := unhide HLT; simp [intOf]; omega
            case inr.inr.inr =>
              have mb : (ma == 0) = false := by rw [beq_eq_false_iff_ne]; omega
              have mg : 0 < ma := by omega
              have mgd : decide (0 < ma) = true := decide_eq_true mg
              have m2 : 1 < ma := by omega
              have m2d : decide (1 < ma) = true := decide_eq_true m2
              have bb := unhide fb d1
              have wf : IntKind.i64.wrap (fi + delay) = fi + delay := by rw [IntKind.wrap_i64]; omega
              have dg : ¬ fi + delay < dd := by omega
              have dgd : decide (fi + delay < dd) = false := decide_eq_false dg
              have dc : ¬ cl' < dd := by omega
              have dcd : decide (cl' < dd) = false := decide_eq_false dc
              clear fb bb
              go_wp2_with fail
              refine ru.mono ?_
              rintro e W5 ⟨ra5, rc5, rfl, hnc5, hcm5, -, g5⟩
              have E5 := hide (unhide NX _ g5)
              clear ru g5 NX hnc5 hcm5
              have hl5 : ¬ (32 : Int) < (L'.length : Int) := by omega
              generalize L'.length = q5 at *
              clear ln
              have hl5d : decide ((32 : Int) < (q5 : Int)) = false := decide_eq_false hl5
              go_wp2_with fail
              go_roundw
              case rel => exact ⟨k + 1, _, _, _, _, unhide HLT, by go_num, rfl, rfl, rfl, E5⟩
              case measure => have := unhide HLT; simp [intOf]; omega
          · have dz : decide (s.L ≠ []) = true := by simp [hL]
            rw [dz]
            have R : Hid (SR w b space delay (k + 1) (W2.alloc (.cells cs 48)) (ackF x.now s) (lat cl x.now) (-1) 0) := ⟨unhide q3, si_ack1 (unhide H).2.1 x.now hL, ack_cb (unhide H).2.2.1 x.now, by omega⟩
            clear dz hL q3 H
            go_wp2_with (refine wpList_store_row rfl _ _ _ rfl W2.heap.size cs rfl rfl 48 _ (Blk.new W2 fr0 48) (by rw [z1]; exact Try.sizeFr) (by rw [z1]; rfl) z2 ?_; rw [World.setRow_alloc_new])
            generalize W2.alloc (.cells cs 48) = W3 at *
            have du := qs_due (unhide R).1
            have dn := ((unhide R).2.1.zero rfl).2
            have ru := qs_runs (unhide R).1 (unhide R).2.1.ok
            have ln := (unhide R).2.1.ok.len
            have NX : Hid (∀ Y, W3.grownBy Y none → SR w b space delay (k + 1) Y (ackF x.now s) (lat cl x.now) (-1) 0) := fun Y hg => ⟨(unhide R).1.keep hg, (unhide R).2⟩
            clear R
            generalize ackF x.now s = s' at *
            generalize lat cl x.now = cl' at *
            rw [dn] at du
            refine du.mono ?_
            rintro e W4 ⟨rfl, hW4⟩
            subst hW4
            clear du dn
            generalize s'.L = L' at *
            go_wp2_with fail
            refine ru.mono ?_
            rintro e W5 ⟨ra5, rc5, rfl, hnc5, hcm5, -, g5⟩
            have E5 := hide (unhide NX _ g5)
            clear ru g5 NX hnc5 hcm5
            have hl5 : ¬ (32 : Int) < (L'.length : Int) := by omega
            generalize L'.length = q5 at *
            clear ln
            have hl5d : decide ((32 : Int) < (q5 : Int)) = false := decide_eq_false hl5
            go_wp2_with fail
            go_roundw
            case rel => exact ⟨k + 1, _, _, _, _, unhide HLT, by go_num, rfl, rfl, rfl, E5⟩
            case measure => have := unhide HLT; simp [intOf]; omega
        · by_cases p4 : p = 4
          · subst p4
            have fk := qs_forget ((unhide H).1.keep (unhide GA)) (unhide H).2.1.ok x.number
            clear p3 la
            go_wp2_with fail
            refine fk.mono ?_
            rintro e W2 ⟨rfl, q2⟩
            have ru := qs_runs q2 (sok_forget (unhide H).2.1.ok x.number)
            have Q2 := hide q2
            clear fk q2 b2 b3 b4 b5
            go_wp2_with fail
            refine ru.mono ?_
            rintro e W3 ⟨ra, rc, rfl, hnc, hcm, -, g3⟩
            have q3 := hide ((unhide Q2).keep g3)
            clear ru g3 Q2
            by_cases hL : (forgetF x.number s).L = []
            · have R : Hid (SR w b space delay (k + 1) W3 (forgetF x.number s) cl (-1) 0) := ⟨unhide q3, si_forget1 (unhide H).2.1 x.number hL, forget_cb (unhide H).2.2.1 x.number, by omega⟩
              have z0 : (forgetF x.number s).L.length = 0 := by rw [hL]; rfl
              rw [z0] at hnc ⊢
              clear hL q3 H z0
              go_wp2_with fail
              have du := qs_due (unhide R).1
              have dn := ((unhide R).2.1.zero rfl).2
              have ru := qs_runs (unhide R).1 (unhide R).2.1.ok
              have ln := (unhide R).2.1.ok.len
              have NX : Hid (∀ Y, W3.grownBy Y none → SR w b space delay (k + 1) Y (forgetF x.number s) (cl) (-1) 0) := fun Y hg => ⟨(unhide R).1.keep hg, (unhide R).2⟩
              clear R
              generalize forgetF x.number s = s' at *
              rw [dn] at du
              refine du.mono ?_
              rintro e W4 ⟨rfl, hW4⟩
              subst hW4
              clear du dn
              generalize s'.L = L' at *
              go_wp2_with fail
              refine ru.mono ?_
              rintro e W5 ⟨ra5, rc5, rfl, hnc5, hcm5, -, g5⟩
              have E5 := hide (unhide NX _ g5)
              clear ru g5 NX hnc5 hcm5
              have hl5 : ¬ (32 : Int) < (L'.length : Int) := by omega
              generalize L'.length = q5 at *
              clear ln
              have hl5d : decide ((32 : Int) < (q5 : Int)) = false := decide_eq_false hl5
              go_wp2_with fail
              go_roundw
              case rel => exact ⟨k + 1, _, _, _, _, unhide HLT, by go_num, rfl, rfl, rfl, E5⟩
              case measure => have := unhide HLT; simp [intOf]; omega
            · have R : Hid (SR w b space delay (k + 1) W3 (forgetF x.number s) cl fi ma) := ⟨unhide q3, si_forget0 (unhide H).2.1 x.number hL, forget_cb (unhide H).2.2.1 x.number, by omega⟩
              have z0 : 0 < (forgetF x.number s).L.length := List.length_pos_iff.2 hL
              have z0b : (((forgetF x.number s).L.length : Int) == 0) = false := by rw [beq_eq_false_iff_ne]; omega
              clear hL q3 H
              generalize hq0 : (forgetF x.number s).L.length = q0 at *
              clear hq0
              go_wp2_with fail
              have du := qs_due (unhide R).1
              have hcs := (unhide R).2.1.cases
              have fb : Hid ((forgetF x.number s).due ≤ fi + delay → -1 ≤ fi ∧ fi ≤ 1125899906842624) := by
                intro _
                have o := (unhide R).2.1.ok.clock
                by_cases c : 0 < ma
                · have := (unhide R).2.1.pos c; omega
                · have := ((unhide R).2.1.zero (by have := (unhide R).2.1.m; omega)).1; omega
              have ru := qs_runs (unhide R).1 (unhide R).2.1.ok
              have ln := (unhide R).2.1.ok.len
              have NX : Hid (∀ Y, W3.grownBy Y none → SR w b space delay (k + 1) Y (forgetF x.number s) (cl) (fi) (ma)) := fun Y hg => ⟨(unhide R).1.keep hg, (unhide R).2⟩
              clear R
              generalize forgetF x.number s = s' at *
              refine du.mono ?_
              rintro e W4 ⟨rfl, hW4⟩
              subst hW4
              clear du
              generalize s'.due = dd at *
              generalize s'.L = L' at *
              rcases hcs with ⟨m0, dn⟩ | ⟨m1, sp, d1⟩ | ⟨m1, sp, d1, d2⟩ | ⟨m1, d1, d2⟩
              all_goals skip
              case inl =>
                subst dn
                have mb : (ma == 0) = true := by rw [beq_iff_eq]; omega
                have mg : ¬ (0 < ma) := by omega
                have mgd : decide (0 < ma) = false := decide_eq_false mg
                clear fb m0
                go_wp2_with fail
                refine ru.mono ?_
                rintro e W5 ⟨ra5, rc5, rfl, hnc5, hcm5, -, g5⟩
                have E5 := hide (unhide NX _ g5)
                clear ru g5 NX hnc5 hcm5
                have hl5 : ¬ (32 : Int) < (L'.length : Int) := by omega
                generalize L'.length = q5 at *
                clear ln
                have hl5d : decide ((32 : Int) < (q5 : Int)) = false := decide_eq_false hl5
                go_wp2_with fail
                go_roundw
                case rel => exact ⟨k + 1, _, _, _, _, unhide HLT, by go_num, rfl, rfl, rfl, E5⟩
                case measure => have := unhide HLT; simp [intOf]; omega
              case inr.inl =>
                have mb : (ma == 0) = false := by rw [beq_eq_false_iff_ne]; omega
                have mg : 0 < ma := by omega
                have mgd : decide (0 < ma) = true := decide_eq_true mg
                have m2 : ¬ 1 < ma := by omega
                have m2d : decide (1 < ma) = false := decide_eq_false m2
                have bb := unhide fb d1
                have wf : IntKind.i64.wrap (fi + delay) = fi + delay := by rw [IntKind.wrap_i64]; omega
                have dg : ¬ fi + delay < dd := by omega
                have dgd : decide (fi + delay < dd) = false := decide_eq_false dg
                subst sp
                clear fb m1 bb
                go_wp2_with fail
                refine ru.mono ?_
                rintro e W5 ⟨ra5, rc5, rfl, hnc5, hcm5, -, g5⟩
                have E5 := hide (unhide NX _ g5)
                clear ru g5 NX hnc5 hcm5
                have hl5 : ¬ (32 : Int) < (L'.length : Int) := by omega
                generalize L'.length = q5 at *
                clear ln
                have hl5d : decide ((32 : Int) < (q5 : Int)) = false := decide_eq_false hl5
                go_wp2_with fail
                go_roundw
                case rel => exact ⟨k + 1, _, _, _, _, unhide HLT, by go_num, rfl, rfl, rfl, E5⟩
                case measure => have := unhide HLT; simp [intOf]; omega
              case inr.inr.inl =>
                have mb : (ma == 0) = false := by rw [beq_eq_false_iff_ne]; omega
                have mg : 0 < ma := by omega
                have mgd : decide (0 < ma) = true := decide_eq_true mg
                have m2 : ¬ 1 < ma := by omega
                have m2d : decide (1 < ma) = false := decide_eq_false m2
                have bb := unhide fb d1
                have wf : IntKind.i64.wrap (fi + delay) = fi + delay := by rw [IntKind.wrap_i64]; omega
                have dg : ¬ fi + delay < dd := by omega
                have dgd : decide (fi + delay < dd) = false := decide_eq_false dg
                have spb : (space != 2) = true := by rw [bne_iff_ne]; exact sp
                have dc : ¬ cl < dd := by omega
                have dcd : decide (cl < dd) = false := decide_eq_false dc
                clear fb m1 bb
                go_wp2_with fail
                refine ru.mono ?_
                rintro e W5 ⟨ra5, rc5, rfl, hnc5, hcm5, -, g5⟩
                have E5 := hide (unhide NX _ g5)
                clear ru g5 NX hnc5 hcm5
                have hl5 : ¬ (32 : Int) < (L'.length : Int) := by omega
                generalize L'.length = q5 at *
                clear ln
                have hl5d : decide ((32 : Int) < (q5 : Int)) = false := decide_eq_false hl5
                go_wp2_with fail
                go_roundw
                case rel => exact ⟨k + 1, _, _, _, _, unhide HLT, by go_num, rfl, rfl, rfl, E5⟩
                case measure => have := unhide HLT; simp [intOf]; omega
              case inr.inr.inr =>
                have mb : (ma == 0) = false := by rw [beq_eq_false_iff_ne]; omega
                have mg : 0 < ma := by omega
                have mgd : decide (0 < ma) = true := decide_eq_true mg
                have m2 : 1 < ma := by omega
                have m2d : decide (1 < ma) = true := decide_eq_true m2
                have bb := unhide fb d1
                have wf : IntKind.i64.wrap (fi + delay) = fi + delay := by rw [IntKind.wrap_i64]; omega
                have dg : ¬ fi + delay < dd := by omega
                have dgd : decide (fi + delay < dd) = false := decide_eq_false dg
                have dc : ¬ cl < dd := by omega
                have dcd : decide (cl < dd) = false := decide_eq_false dc
                clear fb bb
                go_wp2_with fail
                refine ru.mono ?_
                rintro e W5 ⟨ra5, rc5, rfl, hnc5, hcm5, -, g5⟩
                have E5 := hide (unhide NX _ g5)
                clear ru g5 NX hnc5 hcm5
                have hl5 : ¬ (32 : Int) < (L'.length : Int) := by omega
                generalize L'.length = q5 at *
                clear ln
                have hl5d : decide ((32 : Int) < (q5 : Int)) = false := decide_eq_false hl5
                go_wp2_with fail
                go_roundw
                case rel => exact ⟨k + 1, _, _, _, _, unhide HLT, by go_num, rfl, rfl, rfl, E5⟩
                case measure => have := unhide HLT; simp [intOf]; omega
          · have p3b : (p == 3) = false := by rw [beq_eq_false_iff_ne]; exact p3
            have p4b : (p == 4) = false := by rw [beq_eq_false_iff_ne]; exact p4
            have tk := qs_take2 (unhide H).1 (unhide GA) (unhide H).2.1.ok (unhide H).2.2.1 (unhide HKK) x.now x.number x.el x.mark
            go_wp2_with fail
            refine la.mono ?_
            rintro e W1' ⟨rfl, rfl⟩
            clear la
            go_wp2_with fail
            refine tk.mono ?_
            rintro e W2 ⟨rfl, q2, hfar⟩
            have d4 : W2.cell? ⟨wr.heap.size, 4, none⟩ = some (.bool x.el) := by
              rw [World.cell?_of_block (hfar wr.heap.size (Nat.le_refl _) (unhide BA).lt)]
              exact b4
            have CB := hide (cb_take (unhide H).2.2.1 x.now x.number x.el x.mark)
            have q3 := hide q2
            obtain ⟨W3, hW3⟩ : ∃ W3, W3 = W2 := ⟨_, rfl⟩
            rw [← hW3] at q3 d4 ⊢
            clear tk q2 hfar b2 b3 b4 b5 hW3
            cases hfe : (freshF (goF x.now s) x.number && x.el) with
            | false =>
              have R : Hid (SR w b space delay (k + 1) W3 (takeF x.now x.number x.el x.mark s) (lat cl x.now) fi ma) := ⟨unhide q3, si_take0 (unhide H).2.1 x.now x.number x.el x.mark hfe, unhide CB, by omega⟩
              clear q3 CB H
              generalize freshF (goF x.now s) x.number = fr at *
              generalize hel : x.el = el at *
              cases fr with
              | false =>
                go_wp2_with fail
                have du := qs_due (unhide R).1
                have hcs := (unhide R).2.1.cases
                have fb : Hid ((takeF x.now x.number el x.mark s).due ≤ fi + delay → -1 ≤ fi ∧ fi ≤ 1125899906842624) := by
                  intro _
                  have o := (unhide R).2.1.ok.clock
                  by_cases c : 0 < ma
                  · have := (unhide R).2.1.pos c; omega
                  · have := ((unhide R).2.1.zero (by have := (unhide R).2.1.m; omega)).1; omega
                have ru := qs_runs (unhide R).1 (unhide R).2.1.ok
                have ln := (unhide R).2.1.ok.len
                have NX : Hid (∀ Y, W3.grownBy Y none → SR w b space delay (k + 1) Y (takeF x.now x.number el x.mark s) (lat cl x.now) (fi) (ma)) := fun Y hg => ⟨(unhide R).1.keep hg, (unhide R).2⟩
                clear R
                generalize takeF x.now x.number el x.mark s = s' at *
                generalize lat cl x.now = cl' at *
                refine du.mono ?_
                rintro e W4 ⟨rfl, hW4⟩
                subst hW4
                clear du
                generalize s'.due = dd at *
                generalize s'.L = L' at *
                rcases hcs with ⟨m0, dn⟩ | ⟨m1, sp, d1⟩ | ⟨m1, sp, d1, d2⟩ | ⟨m1, d1, d2⟩
                all_goals skip
                case inl =>
                  subst dn
                  have mb : (ma == 0) = true := by rw [beq_iff_eq]; omega
                  have mg : ¬ (0 < ma) := by omega
                  have mgd : decide (0 < ma) = false := decide_eq_false mg
                  clear fb m0
                  go_wp2_with fail
                  refine ru.mono ?_
                  rintro e W5 ⟨ra5, rc5, rfl, hnc5, hcm5, -, g5⟩
                  have E5 := hide (unhide NX _ g5)
                  clear ru g5 NX hnc5 hcm5
                  have hl5 : ¬ (32 : Int) < (L'.length : Int) := by omega
                  generalize L'.length = q5 at *
                  clear ln
                  have hl5d : decide ((32 : Int) < (q5 : Int)) = false := decide_eq_false hl5
                  go_wp2_with fail
                  go_roundw
                  case rel => exact ⟨k + 1, _, _, _, _, unhide HLT, by go_num, rfl, rfl, rfl, E5⟩
                  case measure => have := unhide HLT; simp [intOf]; omega
                case inr.inl =>
                  have mb : (ma == 0) = false := by rw [beq_eq_false_iff_ne]; omega
                  have mg : 0 < ma := by omega
                  have mgd : decide (0 < ma) = true := decide_eq_true mg
                  have m2 : ¬ 1 < ma := by omega
                  have m2d : decide (1 < ma) = false := decide_eq_false m2
                  have bb := unhide fb d1
                  have wf : IntKind.i64.wrap (fi + delay) = fi + delay := by rw [IntKind.wrap_i64]; omega
                  have dg : ¬ fi + delay < dd := by omega
                  have dgd : decide (fi + delay < dd) = false := decide_eq_false dg
                  subst sp
                  clear fb m1 bb
                  go_wp2_with fail
                  refine ru.mono ?_
                  rintro e W5 ⟨ra5, rc5, rfl, hnc5, hcm5, -, g5⟩
                  have E5 := hide (unhide NX _ g5)
                  clear ru g5 NX hnc5 hcm5
                  have hl5 : ¬ (32 : Int) < (L'.length : Int) := by omega
                  generalize L'.length = q5 at *
                  clear ln
                  have hl5d : decide ((32 : Int) < (q5 : Int)) = false := decide_eq_false hl5
                  go_wp2_with fail
                  go_roundw
                  case rel => exact ⟨k + 1, _, _, _, _, unhide HLT, by go_num, rfl, rfl, rfl, E5⟩
                  case measure => have := unhide HLT; simp [intOf]; omega
                case inr.inr.inl =>
                  have mb : (ma == 0) = false := by rw [beq_eq_false_iff_ne]; omega
                  have mg : 0 < ma := by omega
                  have mgd : decide (0 < ma) = true := decide_eq_true mg
                  have m2 : ¬ 1 < ma := by omega
                  have m2d : decide (1 < ma) = false := decide_eq_false m2
                  have bb := unhide fb d1
                  have wf : IntKind.i64.wrap (fi + delay) = fi + delay := by rw [IntKind.wrap_i64]; omega
                  have dg : ¬ fi + delay < dd := by omega
                  have dgd : decide (fi + delay < dd) = false := decide_eq_false dg
                  have spb : (space != 2) = true := by rw [bne_iff_ne]; exact sp
                  have dc : ¬ cl' < dd := by omega
                  have dcd : decide (cl' < dd) = false := decide_eq_false dc
                  clear fb m1 bb
                  go_wp2_with fail
                  refine ru.mono ?_
                  rintro e W5 ⟨ra5, rc5, rfl, hnc5, hcm5, -, g5⟩
                  have E5 := hide (unhide NX _ g5)
                  clear ru g5 NX hnc5 hcm5
                  have hl5 : ¬ (32 : Int) < (L'.length : Int) := by omega
                  generalize L'.length = q5 at *
                  clear ln
                  have hl5d : decide ((32 : Int) < (q5 : Int)) = false := decide_eq_false hl5
                  go_wp2_with fail
                  go_roundw
                  case rel => exact ⟨k + 1, _, _, _, _, unhide HLT, by go_num, rfl, rfl, rfl, E5⟩
                  case measure => have := unhide HLT; simp [intOf]; omega
                case inr.inr.inr =>
                  have mb : (ma == 0) = false := by rw [beq_eq_false_iff_ne]; omega
                  have mg : 0 < ma := by omega
                  have mgd : decide (0 < ma) = true := decide_eq_true mg
                  have m2 : 1 < ma := by omega
                  have m2d : decide (1 < ma) = true := decide_eq_true m2
                  have bb := unhide fb d1
                  have wf : IntKind.i64.wrap (fi + delay) = fi + delay := by rw [IntKind.wrap_i64]; omega
                  have dg : ¬ fi + delay < dd := by omega
                  have dgd : decide (fi + delay < dd) = false := decide_eq_false dg
                  have dc : ¬ cl' < dd := by omega
                  have dcd : decide (cl' < dd) = false := decide_eq_false dc
                  clear fb bb
                  go_wp2_with fail
                  refine ru.mono ?_
                  rintro e W5 ⟨ra5, rc5, rfl, hnc5, hcm5, -, g5⟩
                  have E5 := hide (unhide NX _ g5)
                  clear ru g5 NX hnc5 hcm5
                  have hl5 : ¬ (32 : Int) < (L'.length : Int) := by omega
                  generalize L'.length = q5 at *
                  clear ln
                  have hl5d : decide ((32 : Int) < (q5 : Int)) = false := decide_eq_false hl5
                  go_wp2_with fail
                  go_roundw
                  case rel => exact ⟨k + 1, _, _, _, _, unhide HLT, by go_num, rfl, rfl, rfl, E5⟩
                  case measure => have := unhide HLT; simp [intOf]; omega
              | true =>
                obtain rfl : el = false := by simpa using hfe
                go_wp2_with fail
                have du := qs_due (unhide R).1
                have hcs := (unhide R).2.1.cases
                have fb : Hid ((takeF x.now x.number false x.mark s).due ≤ fi + delay → -1 ≤ fi ∧ fi ≤ 1125899906842624) := by
                  intro _
                  have o := (unhide R).2.1.ok.clock
                  by_cases c : 0 < ma
                  · have := (unhide R).2.1.pos c; omega
                  · have := ((unhide R).2.1.zero (by have := (unhide R).2.1.m; omega)).1; omega
                have ru := qs_runs (unhide R).1 (unhide R).2.1.ok
                have ln := (unhide R).2.1.ok.len
                have NX : Hid (∀ Y, W3.grownBy Y none → SR w b space delay (k + 1) Y (takeF x.now x.number false x.mark s) (lat cl x.now) (fi) (ma)) := fun Y hg => ⟨(unhide R).1.keep hg, (unhide R).2⟩
                clear R
                generalize takeF x.now x.number false x.mark s = s' at *
                generalize lat cl x.now = cl' at *
                refine du.mono ?_
                rintro e W4 ⟨rfl, hW4⟩
                subst hW4
                clear du
                generalize s'.due = dd at *
                generalize s'.L = L' at *
                rcases hcs with ⟨m0, dn⟩ | ⟨m1, sp, d1⟩ | ⟨m1, sp, d1, d2⟩ | ⟨m1, d1, d2⟩
                all_goals skip
                case inl =>
                  subst dn
                  have mb : (ma == 0) = true := by rw [beq_iff_eq]; omega
                  have mg : ¬ (0 < ma) := by omega
                  have mgd : decide (0 < ma) = false := decide_eq_false mg
                  clear fb m0
                  go_wp2_with fail
                  refine ru.mono ?_
                  rintro e W5 ⟨ra5, rc5, rfl, hnc5, hcm5, -, g5⟩
                  have E5 := hide (unhide NX _ g5)
                  clear ru g5 NX hnc5 hcm5
                  have hl5 : ¬ (32 : Int) < (L'.length : Int) := by omega
                  generalize L'.length = q5 at *
                  clear ln
                  have hl5d : decide ((32 : Int) < (q5 : Int)) = false := decide_eq_false hl5
                  go_wp2_with fail
                  go_roundw
                  case rel => exact ⟨k + 1, _, _, _, _, unhide HLT, by go_num, rfl, rfl, rfl, E5⟩
                  case measure => have := unhide HLT; simp [intOf]; omega
                case inr.inl =>
                  have mb : (ma == 0) = false := by rw [beq_eq_false_iff_ne]; omega
                  have mg : 0 < ma := by omega
                  have mgd : decide (0 < ma) = true := decide_eq_true mg
                  have m2 : ¬ 1 < ma := by omega
                  have m2d : decide (1 < ma) = false := decide_eq_false m2
                  have bb := unhide fb d1
                  have wf : IntKind.i64.wrap (fi + delay) = fi + delay := by rw [IntKind.wrap_i64]; omega
                  have dg : ¬ fi + delay < dd := by omega
                  have dgd : decide (fi + delay < dd) = false := decide_eq_false dg
                  subst sp
                  clear fb m1 bb
                  go_wp2_with fail
                  refine ru.mono ?_
                  rintro e W5 ⟨ra5, rc5, rfl, hnc5, hcm5, -, g5⟩
                  have E5 := hide (unhide NX _ g5)
                  clear ru g5 NX hnc5 hcm5
                  have hl5 : ¬ (32 : Int) < (L'.length : Int) := by omega
                  generalize L'.length = q5 at *
                  clear ln
                  have hl5d : decide ((32 : Int) < (q5 : Int)) = false := decide_eq_false hl5
                  go_wp2_with fail
                  go_roundw
                  case rel => exact ⟨k + 1, _, _, _, _, unhide HLT, by go_num, rfl, rfl, rfl, E5⟩
                  case measure => have := unhide HLT; simp [intOf]; omega
                case inr.inr.inl =>
                  have mb : (ma == 0) = false := by rw [beq_eq_false_iff_ne]; omega
                  have mg : 0 < ma := by omega
                  have mgd : decide (0 < ma) = true := decide_eq_true mg
                  have m2 : ¬ 1 < ma := by omega
                  have m2d : decide (1 < ma) = false := decide_eq_false m2
                  have bb := unhide fb d1
                  have wf : IntKind.i64.wrap (fi + delay) = fi + delay := by rw [IntKind.wrap_i64]; omega
                  have dg : ¬ fi + delay < dd := by omega
                  have dgd : decide (fi + delay < dd) = false := decide_eq_false dg
                  have spb : (space != 2) = true := by rw [bne_iff_ne]; exact sp
                  have dc : ¬ cl' < dd := by omega
                  have dcd : decide (cl' < dd) = false := decide_eq_false dc
                  clear fb m1 bb
                  go_wp2_with fail
                  refine ru.mono ?_
                  rintro e W5 ⟨ra5, rc5, rfl, hnc5, hcm5, -, g5⟩
                  have E5 := hide (unhide NX _ g5)
                  clear ru g5 NX hnc5 hcm5
                  have hl5 : ¬ (32 : Int) < (L'.length : Int) := by omega
                  generalize L'.length = q5 at *
                  clear ln
                  have hl5d : decide ((32 : Int) < (q5 : Int)) = false := decide_eq_false hl5
                  go_wp2_with fail
                  go_roundw
                  case rel => exact ⟨k + 1, _, _, _, _, unhide HLT, by go_num, rfl, rfl, rfl, E5⟩
                  case measure => have := unhide HLT; simp [intOf]; omega
                case inr.inr.inr =>
                  have mb : (ma == 0) = false := by rw [beq_eq_false_iff_ne]; omega
                  have mg : 0 < ma := by omega
                  have mgd : decide (0 < ma) = true := decide_eq_true mg
                  have m2 : 1 < ma := by omega
                  have m2d : decide (1 < ma) = true := decide_eq_true m2
                  have bb := unhide fb d1
                  have wf : IntKind.i64.wrap (fi + delay) = fi + delay := by rw [IntKind.wrap_i64]; omega
                  have dg : ¬ fi + delay < dd := by omega
                  have dgd : decide (fi + delay < dd) = false := decide_eq_false dg
                  have dc : ¬ cl' < dd := by omega
                  have dcd : decide (cl' < dd) = false := decide_eq_false dc
                  clear fb bb
                  go_wp2_with fail
                  refine ru.mono ?_
                  rintro e W5 ⟨ra5, rc5, rfl, hnc5, hcm5, -, g5⟩
                  have E5 := hide (unhide NX _ g5)
                  clear ru g5 NX hnc5 hcm5
                  have hl5 : ¬ (32 : Int) < (L'.length : Int) := by omega
                  generalize L'.length = q5 at *
                  clear ln
                  have hl5d : decide ((32 : Int) < (q5 : Int)) = false := decide_eq_false hl5
                  go_wp2_with fail
                  go_roundw
                  case rel => exact ⟨k + 1, _, _, _, _, unhide HLT, by go_num, rfl, rfl, rfl, E5⟩
                  case measure => have := unhide HLT; simp [intOf]; omega
            | true =>
              obtain ⟨hf, he⟩ : freshF (goF x.now s) x.number = true ∧ x.el = true := by simpa using hfe
              have mw : IntKind.i64.wrap (ma + 1) = ma + 1 := by have := unhide HKK; rw [IntKind.wrap_i64]; omega
              rw [he] at q3 CB d4
              rw [hf]
              by_cases hz : fi < 0
              · have R : Hid (SR w b space delay (k + 1) W3 (takeF x.now x.number true x.mark s) (lat cl x.now) (lat cl x.now) (ma + 1)) := ⟨unhide q3, si_take1 (unhide H).2.1 x.now x.number x.mark hf hz, unhide CB, by omega⟩
                clear q3 CB H hfe hf he
                go_wp2_with fail
                have du := qs_due (unhide R).1
                have hcs := (unhide R).2.1.cases
                have fb : Hid ((takeF x.now x.number true x.mark s).due ≤ (lat cl x.now) + delay → -1 ≤ (lat cl x.now) ∧ (lat cl x.now) ≤ 1125899906842624) := by
                  intro _
                  have o := (unhide R).2.1.ok.clock
                  by_cases c : 0 < (ma + 1)
                  · have := (unhide R).2.1.pos c; omega
                  · have := ((unhide R).2.1.zero (by have := (unhide R).2.1.m; omega)).1; omega
                have ru := qs_runs (unhide R).1 (unhide R).2.1.ok
                have ln := (unhide R).2.1.ok.len
                have NX : Hid (∀ Y, W3.grownBy Y none → SR w b space delay (k + 1) Y (takeF x.now x.number true x.mark s) (lat cl x.now) ((lat cl x.now)) ((ma + 1))) := fun Y hg => ⟨(unhide R).1.keep hg, (unhide R).2⟩
                clear R
                generalize takeF x.now x.number true x.mark s = s' at *
                generalize lat cl x.now = cl' at *
                refine du.mono ?_
                rintro e W4 ⟨rfl, hW4⟩
                subst hW4
                clear du
                generalize s'.due = dd at *
                generalize s'.L = L' at *
                rcases hcs with ⟨m0, dn⟩ | ⟨m1, sp, d1⟩ | ⟨m1, sp, d1, d2⟩ | ⟨m1, d1, d2⟩
                all_goals skip
                case inl =>
                  subst dn
                  have mb : ((ma + 1) == 0) = true := by rw [beq_iff_eq]; omega
                  have mg : ¬ (0 < (ma + 1)) := by omega
                  have mgd : decide (0 < (ma + 1)) = false := decide_eq_false mg
                  clear fb m0
                  go_wp2_with fail
                  refine ru.mono ?_
                  rintro e W5 ⟨ra5, rc5, rfl, hnc5, hcm5, -, g5⟩
                  have E5 := hide (unhide NX _ g5)
                  clear ru g5 NX hnc5 hcm5
                  have hl5 : ¬ (32 : Int) < (L'.length : Int) := by omega
                  generalize L'.length = q5 at *
                  clear ln
                  have hl5d : decide ((32 : Int) < (q5 : Int)) = false := decide_eq_false hl5
                  go_wp2_with fail
                  go_roundw
                  case rel => exact ⟨k + 1, _, _, _, _, unhide HLT, by go_num, rfl, rfl, rfl, E5⟩
                  case measure => have := unhide HLT; simp [intOf]; omega
                case inr.inl =>
                  have mb : ((ma + 1) == 0) = false := by rw [beq_eq_false_iff_ne]; omega
                  have mg : 0 < (ma + 1) := by omega
                  have mgd : decide (0 < (ma + 1)) = true := decide_eq_true mg
                  have m2 : ¬ 1 < (ma + 1) := by omega
                  have m2d : decide (1 < (ma + 1)) = false := decide_eq_false m2
                  have bb := unhide fb d1
                  have wf : IntKind.i64.wrap (cl' + delay) = cl' + delay := by rw [IntKind.wrap_i64]; omega
                  have dg : ¬ cl' + delay < dd := by omega
                  have dgd : decide (cl' + delay < dd) = false := decide_eq_false dg
                  subst sp
                  clear fb m1 bb
                  go_wp2_with fail
                  refine ru.mono ?_
                  rintro e W5 ⟨ra5, rc5, rfl, hnc5, hcm5, -, g5⟩
                  have E5 := hide (unhide NX _ g5)
                  clear ru g5 NX hnc5 hcm5
                  have hl5 : ¬ (32 : Int) < (L'.length : Int) := by omega
                  generalize L'.length = q5 at *
                  clear ln
                  have hl5d : decide ((32 : Int) < (q5 : Int)) = false := decide_eq_false hl5
                  go_wp2_with fail
                  go_roundw
                  case rel => exact ⟨k + 1, _, _, _, _, unhide HLT, by go_num, rfl, rfl, rfl, E5⟩
                  case measure => have := unhide HLT; simp [intOf]; omega
                case inr.inr.inl =>
                  have mb : ((ma + 1) == 0) = false := by rw [beq_eq_false_iff_ne]; omega
                  have mg : 0 < (ma + 1) := by omega
                  have mgd : decide (0 < (ma + 1)) = true := decide_eq_true mg
                  have m2 : ¬ 1 < (ma + 1) := by omega
                  have m2d : decide (1 < (ma + 1)) = false := decide_eq_false m2
                  have bb := unhide fb d1
                  have wf : IntKind.i64.wrap (cl' + delay) = cl' + delay := by rw [IntKind.wrap_i64]; omega
                  have dg : ¬ cl' + delay < dd := by omega
                  have dgd : decide (cl' + delay < dd) = false := decide_eq_false dg
                  have spb : (space != 2) = true := by rw [bne_iff_ne]; exact sp
                  have dc : ¬ cl' < dd := by omega
                  have dcd : decide (cl' < dd) = false := decide_eq_false dc
                  clear fb m1 bb
                  go_wp2_with fail
                  refine ru.mono ?_
                  rintro e W5 ⟨ra5, rc5, rfl, hnc5, hcm5, -, g5⟩
                  have E5 := hide (unhide NX _ g5)
                  clear ru g5 NX hnc5 hcm5
                  have hl5 : ¬ (32 : Int) < (L'.length : Int) := by omega
                  generalize L'.length = q5 at *
                  clear ln
                  have hl5d : decide ((32 : Int) < (q5 : Int)) = false := decide_eq_false hl5
                  go_wp2_with fail
                  go_roundw
                  case rel => exact ⟨k + 1, _, _, _, _, unhide HLT, by go_num, rfl, rfl, rfl, E5⟩
                  case measure => have := unhide HLT; simp [intOf]; omega
                case inr.inr.inr =>
                  have mb : ((ma + 1) == 0) = false := by rw [beq_eq_false_iff_ne]; omega
                  have mg : 0 < (ma + 1) := by omega
                  have mgd : decide (0 < (ma + 1)) = true := decide_eq_true mg
                  have m2 : 1 < (ma + 1) := by omega
                  have m2d : decide (1 < (ma + 1)) = true := decide_eq_true m2
                  have bb := unhide fb d1
                  have wf : IntKind.i64.wrap (cl' + delay) = cl' + delay := by rw [IntKind.wrap_i64]; omega
                  have dg : ¬ cl' + delay < dd := by omega
                  have dgd : decide (cl' + delay < dd) = false := decide_eq_false dg
                  have dc : ¬ cl' < dd := by omega
                  have dcd : decide (cl' < dd) = false := decide_eq_false dc
                  clear fb bb
                  go_wp2_with fail
                  refine ru.mono ?_
                  rintro e W5 ⟨ra5, rc5, rfl, hnc5, hcm5, -, g5⟩
                  have E5 := hide (unhide NX _ g5)
                  clear ru g5 NX hnc5 hcm5
                  have hl5 : ¬ (32 : Int) < (L'.length : Int) := by omega
                  generalize L'.length = q5 at *
                  clear ln
                  have hl5d : decide ((32 : Int) < (q5 : Int)) = false := decide_eq_false hl5
                  go_wp2_with fail
                  go_roundw
                  case rel => exact ⟨k + 1, _, _, _, _, unhide HLT, by go_num, rfl, rfl, rfl, E5⟩
                  case measure => have := unhide HLT; simp [intOf]; omega
              · have R : Hid (SR w b space delay (k + 1) W3 (takeF x.now x.number true x.mark s) (lat cl x.now) fi (ma + 1)) := ⟨unhide q3, si_take2 (unhide H).2.1 x.now x.number x.mark hf hz, unhide CB, by omega⟩
                have hzd : decide (fi < 0) = false := decide_eq_false hz
                have HZ := hide hz
                clear q3 CB H hfe hf he hz
                go_wp2_with fail
                clear hzd
                have du := qs_due (unhide R).1
                have hcs := (unhide R).2.1.cases
                have fb : Hid ((takeF x.now x.number true x.mark s).due ≤ fi + delay → -1 ≤ fi ∧ fi ≤ 1125899906842624) := by
                  intro _
                  have o := (unhide R).2.1.ok.clock
                  by_cases c : 0 < (ma + 1)
                  · have := (unhide R).2.1.pos c; omega
                  · have := ((unhide R).2.1.zero (by have := (unhide R).2.1.m; omega)).1; omega
                have ru := qs_runs (unhide R).1 (unhide R).2.1.ok
                have ln := (unhide R).2.1.ok.len
                have NX : Hid (∀ Y, W3.grownBy Y none → SR w b space delay (k + 1) Y (takeF x.now x.number true x.mark s) (lat cl x.now) (fi) ((ma + 1))) := fun Y hg => ⟨(unhide R).1.keep hg, (unhide R).2⟩
                clear R
                generalize takeF x.now x.number true x.mark s = s' at *
                generalize lat cl x.now = cl' at *
                refine du.mono ?_
                rintro e W4 ⟨rfl, hW4⟩
                subst hW4
                clear du
                generalize s'.due = dd at *
                generalize s'.L = L' at *
                rcases hcs with ⟨m0, dn⟩ | ⟨m1, sp, d1⟩ | ⟨m1, sp, d1, d2⟩ | ⟨m1, d1, d2⟩
                all_goals skip
                case inl =>
                  subst dn
                  have mb : ((ma + 1) == 0) = true := by rw [beq_iff_eq]; omega
                  have mg : ¬ (0 < (ma + 1)) := by omega
                  have mgd : decide (0 < (ma + 1)) = false := decide_eq_false mg
                  clear fb m0
                  go_wp2_with fail
                  refine ru.mono ?_
                  rintro e W5 ⟨ra5, rc5, rfl, hnc5, hcm5, -, g5⟩
                  have E5 := hide (unhide NX _ g5)
                  clear ru g5 NX hnc5 hcm5
                  have hl5 : ¬ (32 : Int) < (L'.length : Int) := by omega
                  generalize L'.length = q5 at *
                  clear ln
                  have hl5d : decide ((32 : Int) < (q5 : Int)) = false := decide_eq_false hl5
                  go_wp2_with fail
                  go_roundw
                  case rel => exact ⟨k + 1, _, _, _, _, unhide HLT, by go_num, rfl, rfl, rfl, E5⟩
                  case measure => have := unhide HLT; simp [intOf]; omega
                case inr.inl =>
                  have mb : ((ma + 1) == 0) = false := by rw [beq_eq_false_iff_ne]; omega
                  have mg : 0 < (ma + 1) := by omega
                  have mgd : decide (0 < (ma + 1)) = true := decide_eq_true mg
                  have m2 : ¬ 1 < (ma + 1) := by omega
                  have m2d : decide (1 < (ma + 1)) = false := decide_eq_false m2
                  have bb := unhide fb d1
                  have wf : IntKind.i64.wrap (fi + delay) = fi + delay := by rw [IntKind.wrap_i64]; omega
                  have dg : ¬ fi + delay < dd := by omega
                  have dgd : decide (fi + delay < dd) = false := decide_eq_false dg
                  subst sp
                  clear fb m1 bb
                  go_wp2_with fail
                  refine ru.mono ?_
                  rintro e W5 ⟨ra5, rc5, rfl, hnc5, hcm5, -, g5⟩
                  have E5 := hide (unhide NX _ g5)
                  clear ru g5 NX hnc5 hcm5
                  have hl5 : ¬ (32 : Int) < (L'.length : Int) := by omega
                  generalize L'.length = q5 at *
                  clear ln
                  have hl5d : decide ((32 : Int) < (q5 : Int)) = false := decide_eq_false hl5
                  go_wp2_with fail
                  go_roundw
                  case rel => exact ⟨k + 1, _, _, _, _, unhide HLT, by go_num, rfl, rfl, rfl, E5⟩
                  case measure => have := unhide HLT; simp [intOf]; omega
                case inr.inr.inl =>
                  have mb : ((ma + 1) == 0) = false := by rw [beq_eq_false_iff_ne]; omega
                  have mg : 0 < (ma + 1) := by omega
                  have mgd : decide (0 < (ma + 1)) = true := decide_eq_true mg
                  have m2 : ¬ 1 < (ma + 1) := by omega
                  have m2d : decide (1 < (ma + 1)) = false := decide_eq_false m2
                  have bb := unhide fb d1
                  have wf : IntKind.i64.wrap (fi + delay) = fi + delay := by rw [IntKind.wrap_i64]; omega
                  have dg : ¬ fi + delay < dd := by omega
                  have dgd : decide (fi + delay < dd) = false := decide_eq_false dg
                  have spb : (space != 2) = true := by rw [bne_iff_ne]; exact sp
                  have dc : ¬ cl' < dd := by omega
                  have dcd : decide (cl' < dd) = false := decide_eq_false dc
                  clear fb m1 bb
                  go_wp2_with fail
                  refine ru.mono ?_
                  rintro e W5 ⟨ra5, rc5, rfl, hnc5, hcm5, -, g5⟩
                  have E5 := hide (unhide NX _ g5)
                  clear ru g5 NX hnc5 hcm5
                  have hl5 : ¬ (32 : Int) < (L'.length : Int) := by omega
                  generalize L'.length = q5 at *
                  clear ln
                  have hl5d : decide ((32 : Int) < (q5 : Int)) = false := decide_eq_false hl5
                  go_wp2_with fail
                  go_roundw
                  case rel => exact ⟨k + 1, _, _, _, _, unhide HLT, by go_num, rfl, rfl, rfl, E5⟩
                  case measure => have := unhide HLT; simp [intOf]; omega
                case inr.inr.inr =>
                  have mb : ((ma + 1) == 0) = false := by rw [beq_eq_false_iff_ne]; omega
                  have mg : 0 < (ma + 1) := by omega
                  have mgd : decide (0 < (ma + 1)) = true := decide_eq_true mg
                  have m2 : 1 < (ma + 1) := by omega
                  have m2d : decide (1 < (ma + 1)) = true := decide_eq_true m2
                  have bb := unhide fb d1
                  have wf : IntKind.i64.wrap (fi + delay) = fi + delay := by rw [IntKind.wrap_i64]; omega
                  have dg : ¬ fi + delay < dd := by omega
                  have dgd : decide (fi + delay < dd) = false := decide_eq_false dg
                  have dc : ¬ cl' < dd := by omega
                  have dcd : decide (cl' < dd) = false := decide_eq_false dc
                  clear fb bb
                  go_wp2_with fail
                  refine ru.mono ?_
                  rintro e W5 ⟨ra5, rc5, rfl, hnc5, hcm5, -, g5⟩
                  have E5 := hide (unhide NX _ g5)
                  clear ru g5 NX hnc5 hcm5
                  have hl5 : ¬ (32 : Int) < (L'.length : Int) := by omega
                  generalize L'.length = q5 at *
                  clear ln
                  have hl5d : decide ((32 : Int) < (q5 : Int)) = false := decide_eq_false hl5
                  go_wp2_with fail
                  go_roundw
                  case rel => exact ⟨k + 1, _, _, _, _, unhide HLT, by go_num, rfl, rfl, rfl, E5⟩
                  case measure => have := unhide HLT; simp [intOf]; omega
      · have kn : ¬ (k : Int) < (len : Int) := by omega
        have G := hide (unhide H).1.grown
        clear H
        go_wp2_with fail
        go_ret
        exact ⟨rfl, unhide G⟩
  · have hn := fun W => new_wrong space delay W hr
    go_enter Try.func5, Try.ntmps5
    go_wp2_with fail
    refine sh.mono ?_
    rintro e w1 ⟨rfl, g1⟩
    have G := hide g1
    clear sh g1
    go_wp2_with fail
    refine (hn _).mono ?_
    rintro e w2 ⟨rfl, rfl⟩
    clear hn
    unfold rightF at hr
    by_cases h1 : space < 0
    · have d1 : decide (space < 0) = true := decide_eq_true h1
      go_wp2_with fail
      go_ret
      exact ⟨rfl, unhide G⟩
    · have d1 : decide (space < 0) = false := decide_eq_false h1
      by_cases h2 : 2 < space
      · have d2 : decide (2 < space) = true := decide_eq_true h2
        go_wp2_with fail
        go_ret
        exact ⟨rfl, unhide G⟩
      · have d2 : decide (2 < space) = false := decide_eq_false h2
        by_cases h3 : delay < 0
        · have d3 : decide (delay < 0) = true := decide_eq_true h3
          go_wp2_with fail
          go_ret
          exact ⟨rfl, unhide G⟩
        · have d3 : decide (delay < 0) = false := decide_eq_false h3
          have h4 : 68719476736 < delay := by omega
          have d4 : decide (68719476736 < delay) = true := decide_eq_true h4
          go_wp2_with fail
          go_ret
          exact ⟨rfl, unhide G⟩
end Go.Proofs.Ytielpjdjlmkejaa
