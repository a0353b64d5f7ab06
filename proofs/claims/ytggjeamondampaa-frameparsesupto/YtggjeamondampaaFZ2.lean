/- Decode, the reader's frame being given. -/
import Derived.Test.YtggjeamondampaaFZ1
import Derived.Test.YtggjeamondampaaFW
import Derived.Deep.Cut
import Derived.Laws.Tables
import Derived.Deep.RegionHeld
import Derived.OrdersHeld
namespace Go.Proofs.Ytggjeamondampaa
open Go.RowKit
set_option linter.unusedVariables false
set_option linter.unusedSimpArgs false
set_option maxRecDepth 100000
set_option maxHeartbeats 8000000
theorem results_cvv {P : Program} {fn : Func} {p q u : Tmp} {tp tq tu : TypeId} (h : fn.results = #[.cell p tp, .cell q tq, .cell u tu]) (tmps : Array Value) (w : World) (g1 g2 g3 : Nat) (c1 : Array Value) (d1 : TypeDesc) (v2 v3 : Value)
    (hp : tmps.getD p undef = .pointer (some ⟨g1, 0, none⟩)) (hq : tmps.getD q undef = .pointer (some ⟨g2, 0, none⟩)) (hu : tmps.getD u undef = .pointer (some ⟨g3, 0, none⟩)) (b1 : Blk w g1 c1 tp)
    (hu1 : P.underlying tp = some d1) (hd1 : (match d1 with | .struct _ | .array _ _ => true | _ => false) = true) (hi1 : (P.info? tp).map (·.size) = some c1.size)
    (l2 : (loadVar tq ⟨g2, 0, none⟩).run P w = .ok v2 w) (l3 : (loadVar tu ⟨g3, 0, none⟩).run P w = .ok v3 w) :
    (results fn tmps).run P w = .ok (.tuple #[.agg c1, v2, v3]) w := by
  have hp' : tmps[p]?.getD undef = .pointer (some ⟨g1, 0, none⟩) := by simpa using hp
  have hq' : tmps[q]?.getD undef = .pointer (some ⟨g2, 0, none⟩) := by simpa using hq
  have hu' : tmps[u]?.getD undef = .pointer (some ⟨g3, 0, none⟩) := by simpa using hu
  simp [results, h, hp', hq', hu', asAddr, run_loadVar_row w g1 tp tp c1 (0, 0) d1 b1 hu1 hd1 hi1, l2, l3]
/-- The five blocks that Decode makes. -/
theorem dec_made (w : World) (a : Option Addr) (l : List Int) (c k : Nat) : ∃ W5, W5 = (((((w.alloc (.cells #[.int .i64 0, .int .i64 0, .int .i64 0, .slice none 0 0, .int .i64 0, .bool false, .bool false, .int .i64 0, .bool false, .int .i64 0, .bool false, .int .i64 0, .slice none 0 0, .bool false, .int .i64 0, .int .i64 0, .int .i64 0] 26)).alloc (.cells #[.int .i64 0] 3)).alloc (.cells #[.int .i64 0] 32)).alloc (.cells #[.slice a l.length c, .int .i64 (k : Int), .int .i64 0] 105)).alloc (.cells #[.pointer (some ⟨w.heap.size + 1 + 1 + 1, 0, none⟩)] 103)) ∧
    Blk W5 w.heap.size #[.int .i64 0, .int .i64 0, .int .i64 0, .slice none 0 0, .int .i64 0, .bool false, .bool false, .int .i64 0, .bool false, .int .i64 0, .bool false, .int .i64 0, .slice none 0 0, .bool false, .int .i64 0, .int .i64 0, .int .i64 0] 26 ∧ Blk W5 (w.heap.size + 1) #[.int .i64 0] 3 ∧ Blk W5 (w.heap.size + 1 + 1) #[.int .i64 0] 32 ∧ Blk W5 (w.heap.size + 1 + 1 + 1) (rdr (.slice a l.length c) k 0) 105 ∧ Blk W5 (w.heap.size + 1 + 1 + 1 + 1) #[.pointer (some ⟨w.heap.size + 1 + 1 + 1, 0, none⟩)] 103 ∧ w.grownBy W5 none := by
  refine ⟨_, rfl, ?_, ?_, ?_, ?_, ?_, ?_⟩
  · exact (((((Blk.new w _ _).alloc _).alloc _).alloc _).alloc _)
  · have h := Blk.new (w.alloc (.cells #[.int .i64 0, .int .i64 0, .int .i64 0, .slice none 0 0, .int .i64 0, .bool false, .bool false, .int .i64 0, .bool false, .int .i64 0, .bool false, .int .i64 0, .slice none 0 0, .bool false, .int .i64 0, .int .i64 0, .int .i64 0] 26)) #[.int .i64 0] 3
    rw [show (w.alloc (.cells #[.int .i64 0, .int .i64 0, .int .i64 0, .slice none 0 0, .int .i64 0, .bool false, .bool false, .int .i64 0, .bool false, .int .i64 0, .bool false, .int .i64 0, .slice none 0 0, .bool false, .int .i64 0, .int .i64 0, .int .i64 0] 26)).heap.size = w.heap.size + 1 by simp] at h
    exact (((h.alloc _).alloc _).alloc _)
  · have h := Blk.new ((w.alloc (.cells #[.int .i64 0, .int .i64 0, .int .i64 0, .slice none 0 0, .int .i64 0, .bool false, .bool false, .int .i64 0, .bool false, .int .i64 0, .bool false, .int .i64 0, .slice none 0 0, .bool false, .int .i64 0, .int .i64 0, .int .i64 0] 26)).alloc (.cells #[.int .i64 0] 3)) #[.int .i64 0] 32
    rw [show ((w.alloc (.cells #[.int .i64 0, .int .i64 0, .int .i64 0, .slice none 0 0, .int .i64 0, .bool false, .bool false, .int .i64 0, .bool false, .int .i64 0, .bool false, .int .i64 0, .slice none 0 0, .bool false, .int .i64 0, .int .i64 0, .int .i64 0] 26)).alloc (.cells #[.int .i64 0] 3)).heap.size = w.heap.size + 1 + 1 by simp] at h
    exact ((h.alloc _).alloc _)
  · have h := Blk.new (((w.alloc (.cells #[.int .i64 0, .int .i64 0, .int .i64 0, .slice none 0 0, .int .i64 0, .bool false, .bool false, .int .i64 0, .bool false, .int .i64 0, .bool false, .int .i64 0, .slice none 0 0, .bool false, .int .i64 0, .int .i64 0, .int .i64 0] 26)).alloc (.cells #[.int .i64 0] 3)).alloc (.cells #[.int .i64 0] 32)) #[.slice a l.length c, .int .i64 (k : Int), .int .i64 0] 105
    rw [show (((w.alloc (.cells #[.int .i64 0, .int .i64 0, .int .i64 0, .slice none 0 0, .int .i64 0, .bool false, .bool false, .int .i64 0, .bool false, .int .i64 0, .bool false, .int .i64 0, .slice none 0 0, .bool false, .int .i64 0, .int .i64 0, .int .i64 0] 26)).alloc (.cells #[.int .i64 0] 3)).alloc (.cells #[.int .i64 0] 32)).heap.size = w.heap.size + 1 + 1 + 1 by simp] at h
    exact h.alloc _
  · have h := Blk.new ((((w.alloc (.cells #[.int .i64 0, .int .i64 0, .int .i64 0, .slice none 0 0, .int .i64 0, .bool false, .bool false, .int .i64 0, .bool false, .int .i64 0, .bool false, .int .i64 0, .slice none 0 0, .bool false, .int .i64 0, .int .i64 0, .int .i64 0] 26)).alloc (.cells #[.int .i64 0] 3)).alloc (.cells #[.int .i64 0] 32)).alloc (.cells #[.slice a l.length c, .int .i64 (k : Int), .int .i64 0] 105)) #[.pointer (some ⟨w.heap.size + 1 + 1 + 1, 0, none⟩)] 103
    rw [show ((((w.alloc (.cells #[.int .i64 0, .int .i64 0, .int .i64 0, .slice none 0 0, .int .i64 0, .bool false, .bool false, .int .i64 0, .bool false, .int .i64 0, .bool false, .int .i64 0, .slice none 0 0, .bool false, .int .i64 0, .int .i64 0, .int .i64 0] 26)).alloc (.cells #[.int .i64 0] 3)).alloc (.cells #[.int .i64 0] 32)).alloc (.cells #[.slice a l.length c, .int .i64 (k : Int), .int .i64 0] 105)).heap.size = w.heap.size + 1 + 1 + 1 + 1 by simp] at h
    exact h
  · exact ((((World.grownBy_alloc w _ none).trans (World.grownBy_alloc _ _ none)).trans (World.grownBy_alloc _ _ none)).trans (World.grownBy_alloc _ _ none)).trans (World.grownBy_alloc _ _ none)
/-- What Decode answers. -/
def DecPost (w : World) (l : List Int) (k : Nat) (e : Ending) (w' : World) : Prop :=
  (∃ f' l1 d' r', decF (l.drop k) = .inl (f', l1) ∧ e = .returned (.tuple #[f'.val d' r', .int .i64 ((l.length - l1.length : Nat) : Int), .int .i64 0]) ∧ OwnB w.heap.size w' d' f'.data ∧ OwnR w.heap.size w' r' f'.runs ∧ w.grownBy w' none) ∨
  (∃ e', decF (l.drop k) = .inr e' ∧ e = .returned (.tuple #[Fr.zero.val nilS nilS, .int .i64 0, .int .i64 e']) ∧ w.grownBy w' none)
theorem grown_since {w w1 w' : World} {g : Nat} (hg : w.grownBy w1 none) (h : w1.grownBy w' (some g)) (hr : w.heap.size ≤ g) : w.grownBy w' none :=
  ⟨h.os.trans hg.os, h.tape.trans hg.tape, h.output.trans hg.output, Nat.le_trans hg.size h.size, fun k hk _ => by
    rw [h.block k (Nat.lt_of_lt_of_le hk hg.size) (fun e => by injection e with e; omega)]
    exact hg.block k hk (by simp)⟩
theorem load3 {W : World} {g : Nat} {v : Value} (h : W.cell? ⟨g, 0, none⟩ = some v) : (loadVar 3 ⟨g, 0, none⟩).run Try.prog W = .ok v W := by
  simp [go_sem, h]
theorem loadE {W : World} {g : Nat} {v : Value} (h : W.cell? ⟨g, 0, none⟩ = some v) : (loadVar 32 ⟨g, 0, none⟩).run Try.prog W = .ok v W := by
  simp [go_sem, h]
theorem decode_of {w : World} {a : Option Addr} {l : List Int} {c k : Nat} (hk : k ≤ l.length) (hlen : l.length ≤ 4000000000000)
    (hfr : ∀ (W : World) (g : Nat), w.grownBy W none → w.heap.size ≤ g → Blk W g (rdr (.slice a l.length c) k 0) 105 → Calls Try.prog 58 #[.pointer (some ⟨g, 0, none⟩)] W fun e w' =>
      (∃ f' l1 d' r', decF (l.drop k) = .inl (f', l1) ∧ e = .returned (f'.val d' r') ∧ l1 = l.drop (l.length - l1.length) ∧ Blk w' g (rdr (.slice a l.length c) (l.length - l1.length : Nat) 0) 105 ∧ OwnB W.heap.size w' d' f'.data ∧ OwnR W.heap.size w' r' f'.runs ∧ W.grownBy w' (some g)) ∨
      (∃ e', decF (l.drop k) = .inr e' ∧ (∃ v : Int, e = .panicked [{ v := .iface 32 (.int .i64 v), recovered := false }]) ∧ (∃ at_ : Int, Blk w' g (rdr (.slice a l.length c) at_ e') 105) ∧ W.grownBy w' (some g))) :
    Calls Try.prog 23 #[.slice a l.length c, .int .i64 (k : Int)] w (DecPost w l k) := by
  have hmf : ∀ (fn : Fn) (first cap : Array Value) (w : World), (Instr.makeFunc fn first cap).run Try.prog w = .ok (.func fn first cap) w := fun _ _ _ _ => rfl
  obtain ⟨W5, hW5, b1, b2, b3, b4, b5, g5⟩ := dec_made w a l c k
  have hcall := hfr W5 (w.heap.size + 1 + 1 + 1) g5 (by omega) b4
  have HB := hide (And.intro b1 (And.intro b2 (And.intro b3 (And.intro b5 g5))))
  have k0 : ¬ (k : Int) < 0 := by omega
  have k1 : decide ((k : Int) < 0) = false := decide_eq_false k0
  have k2 : ¬ (l.length : Int) < (k : Int) := by omega
  have k3 : decide ((l.length : Int) < (k : Int)) = false := decide_eq_false k2
  have k4 : decide (l.length < k) = false := decide_eq_false (by omega)
  have k5 : ¬ l.length < k := by omega
  have HL := hide (And.intro hk hlen)
  rw [hW5] at hcall HB
  clear hfr b1 b2 b3 b4 b5 g5 hW5
  go_enter_defers Try.func23, Try.ntmps23
  go_wp2_with fail
  refine hcall.mono ?_
  have gne : ∀ j, j < 3 → w.heap.size + j ≠ w.heap.size + 1 + 1 + 1 := by omega
  clear hcall
  generalize (((((w.alloc (.cells #[.int .i64 0, .int .i64 0, .int .i64 0, .slice none 0 0, .int .i64 0, .bool false, .bool false, .int .i64 0, .bool false, .int .i64 0, .bool false, .int .i64 0, .slice none 0 0, .bool false, .int .i64 0, .int .i64 0, .int .i64 0] 26)).alloc (.cells #[.int .i64 0] 3)).alloc (.cells #[.int .i64 0] 32)).alloc (.cells #[.slice a l.length c, .int .i64 (k : Int), .int .i64 0] 105)).alloc (.cells #[.pointer (some ⟨w.heap.size + 1 + 1 + 1, 0, none⟩)] 103)) = W5 at HB ⊢
  rintro e W6 (⟨f', l1, d', r', hd, rfl, hl1, hb, ho, hru, hg⟩ | ⟨e', hd, ⟨pv, rfl⟩, ⟨at_, hb⟩, hg⟩)
  case inr =>
    obtain ⟨b1, b2, b3, b5, g5⟩ := unhide HB
    have b1' := b1.far hg (by omega)
    have b2' := b2.far hg (by omega)
    have b3' := b3.far hg (by omega)
    have b5' := b5.far hg (by omega)
    have gw := grown_since g5 hg (by omega)
    clear b1 b2 b3 b5 g5 HB
    refine leaves_cons (f := 57) (args := #[.pointer (some ⟨w.heap.size + 1 + 1 + 1 + 1, 0, none⟩), .pointer (some ⟨w.heap.size, 0, none⟩), .pointer (some ⟨w.heap.size + 1, 0, none⟩), .pointer (some ⟨w.heap.size + 1 + 1, 0, none⟩)]) (by simp) (by simp [go_sem]) ?_
    refine (catch_panicking (w.heap.size + 1 + 1 + 1 + 1) (w.heap.size + 1 + 1 + 1) w.heap.size (w.heap.size + 1) (w.heap.size + 1 + 1) 0 0 e' at_ _ _ rfl _ _ [] W6 (b5'.cell 0 _ rfl) hb b1' b2' b3' (by omega) (by omega) (by omega)).mono ?_
    rintro e u' w'' ⟨rfl, rfl, rfl⟩
    refine ⟨_, results_cvv (p := 4) (q := 5) (u := 6) (tp := 26) (tq := 3) (tu := 32) Try.results23 _ _ w.heap.size (w.heap.size + 1) (w.heap.size + 1 + 1) (Fr.zero.cs nilS nilS) _ (.int .i64 0) (.int .i64 e') rfl rfl rfl (((b1'.row _).setO (w.heap.size + 1) 0 _ (by omega)).setO (w.heap.size + 1 + 1) 0 _ (by omega)) Try.underlying26 rfl Try.size26 (load3 ((((b2'.rowO w.heap.size _ (by omega)).setC 0 _).setO (w.heap.size + 1 + 1) 0 _ (by omega)).cell 0 _ rfl)) (loadE ((((b3'.rowO w.heap.size _ (by omega)).setO (w.heap.size + 1) 0 _ (by omega)).setC 0 _).cell 0 _ rfl)), ?_⟩
    exact .inr ⟨e', hd, rfl, grown_setS (grown_setS (grown_row gw _ _ (by omega)) _ 0 _ (by omega)) _ 0 _ (by omega)⟩
  obtain ⟨b1, b2, b3, b5, g5⟩ := unhide HB
  have b1' := b1.far hg (by omega)
  have b2' := b2.far hg (by omega)
  have b3' := b3.far hg (by omega)
  have b5' := b5.far hg (by omega)
  have gw := grown_since g5 hg (by omega)
  have sz5 := g5.size
  clear b1 b2 b3 HB gne
  obtain ⟨C, hC⟩ : ∃ C, C = f'.cs d' r' := ⟨_, rfl⟩
  have C17 : C.size = 17 := by rw [hC]; rfl
  have od : d'.oneCell' = true := by rcases ho.2 with ⟨e, -⟩ | ⟨_, _, _, e, -⟩ <;> (rw [e]; rfl)
  have or : r'.oneCell' = true := by rcases hru.2 with ⟨e, -⟩ | ⟨_, _, _, e, -⟩ <;> (rw [e]; rfl)
  have C1 : C.all (·.oneCell') = true := by rw [hC]; exact one17 f' d' r' od or
  have iC : (Try.prog.info? 26).map (·.size) = some C.size := by rw [C17]; exact Try.size26
  have eV : f'.val d' r' = .agg C := by rw [hC]
  rw [eV]
  obtain ⟨K0, hK0⟩ : ∃ K0 : Nat, K0 = l.length - l1.length := ⟨_, rfl⟩
  rw [← hK0] at hb
  have lt5 := b5.lt
  have HC := hide (And.intro C17 hC)
  have HK := hide hK0
  have HD := hide hd
  have HO := hide (And.intro ho hru)
  have G6 := hide (And.intro gw (And.intro sz5 lt5))
  have HB1 := hide b1'
  have d2 := (b2'.rowO w.heap.size C (by omega))
  have d3 := (b3'.rowO w.heap.size C (by omega))
  have d4 := (hb.rowO w.heap.size C (by omega))
  have d5 := (b5'.rowO w.heap.size C (by omega))
  have c4 := d4.cell 1 (.int .i64 (K0 : Int)) rfl
  have c5 := d5.cell 0 (.pointer (some ⟨w.heap.size + 1 + 1 + 1, 0, none⟩)) rfl
  have c2 := d2.cell 0 (.int .i64 0) rfl
  have t2 := d2.thaws
  have d3' := d3.setO (w.heap.size + 1) 0 (.int .i64 (K0 : Int)) (by omega)
  have c3 := d3'.cell 0 (.int .i64 0) rfl
  have t3 := d3'.thaws
  have D1 := hide (And.intro (b1'.row C) (And.intro d2 (And.intro d3 (And.intro d4 d5))))
  have FIN : Hid (DecPost w l k (.returned (.tuple #[.agg C, .int .i64 (K0 : Int), .int .i64 0])) (((W6.setRow w.heap.size C).setCell ⟨w.heap.size + 1, 0, none⟩ (.int .i64 (K0 : Int))).setCell ⟨w.heap.size + 1 + 1, 0, none⟩ (.int .i64 0)).drew) := by
    have hh : ∀ g, W5.heap.size ≤ g → ((((W6.setRow w.heap.size C).setCell ⟨w.heap.size + 1, 0, none⟩ (.int .i64 (K0 : Int))).setCell ⟨w.heap.size + 1 + 1, 0, none⟩ (.int .i64 0)).drew).heap[g]? = W6.heap[g]? := fun g hg' => by
      show ((((W6.setRow w.heap.size C).setCell ⟨w.heap.size + 1, 0, none⟩ (.int .i64 (K0 : Int))).setCell ⟨w.heap.size + 1 + 1, 0, none⟩ (.int .i64 0))).heap[g]? = W6.heap[g]?
      simp only [World.setCell, World.setRow, Array.getElem?_modify]
      rw [if_neg (by omega), if_neg (by omega), if_neg (by omega)]
    refine .inl ⟨f', l1, d', r', hd, by rw [hC, hK0], ?_, ?_, grown_drew' (grown_setS (grown_setS (grown_row gw _ _ (by omega)) _ 0 _ (by omega)) _ 0 _ (by omega))⟩
    · refine ⟨ho.1, ho.2.imp id ?_⟩
      rintro ⟨g, cp, cur, e1, q1, q2, q3⟩
      exact ⟨g, cp, cur, e1, by omega, (hh g q1).trans q2, q3⟩
    · refine ⟨hru.1, hru.2.imp id ?_⟩
      rintro ⟨g, cp, cur, e1, q1, q2, q3⟩
      exact ⟨g, cp, cur, e1, by omega, (hh g q1).trans q2, q3⟩
  clear C17 hC od or eV hK0 hd ho hru gw b1' b2' b3' b5' hb hg d2 d3 d4 d5 d3' g5 hl1 hk hlen b5 sz5 lt5
  go_upto_region 6 with (refine wpList_store_row rfl _ _ _ rfl w.heap.size C rfl rfl 26 _ (unhide HB1) iC (by rw [(unhide HC).1]; rfl) C1 ?_)
  refine wp_region_any (by kernel_rfl) ?_
  change wpAny _ _ _ _ _ _ _ (World.drew _)
  refine wpAny_ready (rs := [0, 1]) (by kernel_rfl) (by simp) ?_
  refine AllReady.cons rfl (fun K hK => ?_) (AllReady.cons rfl (fun K hK => ?_) AllReady.nil)
  · skip
    refine step_load_row rfl _ _ rfl w.heap.size rfl C 26 _ ((unhide D1).1.drew) Try.underlying26 rfl iC ?_
    refine hK _ _ ?_
    clear hK K
    try simp only [Act.put, List.setIfInBounds_toArray, List.set_cons_zero, List.set_cons_succ]
    refine wpAny_ready (rs := [1, 5]) (by kernel_rfl) (by simp) ?_
    refine AllReady.cons rfl (fun K hK => ?_) (AllReady.cons rfl (fun K hK => ?_) AllReady.nil)
    · skip
      go_simp
      refine hK _ _ ?_
      clear hK K
      try simp only [Act.put, List.setIfInBounds_toArray, List.set_cons_zero, List.set_cons_succ]
      refine wpAny_ready (rs := [2, 5]) (by kernel_rfl) (by simp) ?_
      refine AllReady.cons rfl (fun K hK => ?_) (AllReady.cons rfl (fun K hK => ?_) AllReady.nil)
      · skip
        go_simp
        refine hK _ _ ?_
        clear hK K
        try simp only [Act.put, List.setIfInBounds_toArray, List.set_cons_zero, List.set_cons_succ]
        refine wpAny_ready (rs := [3, 5]) (by kernel_rfl) (by simp) ?_
        refine AllReady.cons rfl (fun K hK => ?_) (AllReady.cons rfl (fun K hK => ?_) AllReady.nil)
        · skip
          go_simp
          refine hK _ _ ?_
          clear hK K
          try simp only [Act.put, List.setIfInBounds_toArray, List.set_cons_zero, List.set_cons_succ]
          refine wpAny_ready (rs := [4, 5]) (by kernel_rfl) (by simp) ?_
          refine AllReady.cons rfl (fun K hK => ?_) (AllReady.cons rfl (fun K hK => ?_) AllReady.nil)
          · skip
            go_simp
            refine hK _ _ ?_
            clear hK K
            try simp only [Act.put, List.setIfInBounds_toArray, List.set_cons_zero, List.set_cons_succ]
            refine wpAny_ready (rs := [5]) (by kernel_rfl) (by simp) ?_
            refine AllReady.cons rfl (fun K hK => ?_) AllReady.nil
            refine step_store_same rfl _ _ _ rfl w.heap.size C rfl rfl 26 ((unhide D1).1.drew) iC C1 ?_
            refine hK _ _ ?_
            clear hK K
            try simp only [Act.put, List.setIfInBounds_toArray, List.set_cons_zero, List.set_cons_succ]
            refine wpAny_ready (rs := [6]) (by kernel_rfl) (by simp) ?_
            refine AllReady.cons rfl (fun K hK => ?_) AllReady.nil
            go_simp
            refine hK _ _ ?_
            clear hK K
            try simp only [Act.put, List.setIfInBounds_toArray, List.set_cons_zero, List.set_cons_succ]
            refine wpAny_ready (rs := [7]) (by kernel_rfl) (by simp) ?_
            refine AllReady.cons rfl (fun K hK => ?_) AllReady.nil
            go_simp
            refine hK _ _ ?_
            clear hK K
            try simp only [Act.put, List.setIfInBounds_toArray, List.set_cons_zero, List.set_cons_succ]
            refine wpAny_done (by kernel_rfl) ?_ _
            go_wp2_with fail
            refine leaves_cons (f := 57) (args := #[.pointer (some ⟨w.heap.size + 1 + 1 + 1 + 1, 0, none⟩), .pointer (some ⟨w.heap.size, 0, none⟩), .pointer (some ⟨w.heap.size + 1, 0, none⟩), .pointer (some ⟨w.heap.size + 1 + 1, 0, none⟩)]) (by simp) (by simp [go_sem]) ?_
            refine (catch_idle _ _ _ _ _).mono ?_
            rintro e u' w'' ⟨rfl, rfl, rfl⟩
            refine ⟨_, results_cvv (p := 4) (q := 5) (u := 6) (tp := 26) (tq := 3) (tu := 32) Try.results23 _ _ w.heap.size (w.heap.size + 1) (w.heap.size + 1 + 1) C _ (.int .i64 (K0 : Int)) (.int .i64 0) rfl rfl rfl (((unhide D1).1.setO (w.heap.size + 1) 0 _ (by omega)).setO (w.heap.size + 1 + 1) 0 _ (by omega)) Try.underlying26 rfl iC (load3 ((((unhide D1).2.1.setC 0 (.int .i64 (K0 : Int))).setO (w.heap.size + 1 + 1) 0 _ (by omega)).cell 0 _ rfl)) (loadE ((((unhide D1).2.2.1.setO (w.heap.size + 1) 0 _ (by omega)).setC 0 (.int .i64 0)).cell 0 _ rfl)), unhide FIN⟩
          · skip
            refine step_store_same rfl _ _ _ rfl w.heap.size C rfl rfl 26 ((unhide D1).1.drew) iC C1 ?_
            refine hK _ _ ?_
            clear hK K
            try simp only [Act.put, List.setIfInBounds_toArray, List.set_cons_zero, List.set_cons_succ]
            refine wpAny_ready (rs := [4]) (by kernel_rfl) (by simp) ?_
            refine AllReady.cons rfl (fun K hK => ?_) AllReady.nil
            go_simp
            refine hK _ _ ?_
            clear hK K
            try simp only [Act.put, List.setIfInBounds_toArray, List.set_cons_zero, List.set_cons_succ]
            refine wpAny_ready (rs := [6]) (by kernel_rfl) (by simp) ?_
            refine AllReady.cons rfl (fun K hK => ?_) AllReady.nil
            go_simp
            refine hK _ _ ?_
            clear hK K
            try simp only [Act.put, List.setIfInBounds_toArray, List.set_cons_zero, List.set_cons_succ]
            refine wpAny_ready (rs := [7]) (by kernel_rfl) (by simp) ?_
            refine AllReady.cons rfl (fun K hK => ?_) AllReady.nil
            go_simp
            refine hK _ _ ?_
            clear hK K
            try simp only [Act.put, List.setIfInBounds_toArray, List.set_cons_zero, List.set_cons_succ]
            refine wpAny_done (by kernel_rfl) ?_ _
            go_wp2_with fail
            refine leaves_cons (f := 57) (args := #[.pointer (some ⟨w.heap.size + 1 + 1 + 1 + 1, 0, none⟩), .pointer (some ⟨w.heap.size, 0, none⟩), .pointer (some ⟨w.heap.size + 1, 0, none⟩), .pointer (some ⟨w.heap.size + 1 + 1, 0, none⟩)]) (by simp) (by simp [go_sem]) ?_
            refine (catch_idle _ _ _ _ _).mono ?_
            rintro e u' w'' ⟨rfl, rfl, rfl⟩
            refine ⟨_, results_cvv (p := 4) (q := 5) (u := 6) (tp := 26) (tq := 3) (tu := 32) Try.results23 _ _ w.heap.size (w.heap.size + 1) (w.heap.size + 1 + 1) C _ (.int .i64 (K0 : Int)) (.int .i64 0) rfl rfl rfl (((unhide D1).1.setO (w.heap.size + 1) 0 _ (by omega)).setO (w.heap.size + 1 + 1) 0 _ (by omega)) Try.underlying26 rfl iC (load3 ((((unhide D1).2.1.setC 0 (.int .i64 (K0 : Int))).setO (w.heap.size + 1 + 1) 0 _ (by omega)).cell 0 _ rfl)) (loadE ((((unhide D1).2.2.1.setO (w.heap.size + 1) 0 _ (by omega)).setC 0 (.int .i64 0)).cell 0 _ rfl)), unhide FIN⟩
        · skip
          refine step_store_same rfl _ _ _ rfl w.heap.size C rfl rfl 26 ((unhide D1).1.drew) iC C1 ?_
          refine hK _ _ ?_
          clear hK K
          try simp only [Act.put, List.setIfInBounds_toArray, List.set_cons_zero, List.set_cons_succ]
          refine wpAny_ready (rs := [3]) (by kernel_rfl) (by simp) ?_
          refine AllReady.cons rfl (fun K hK => ?_) AllReady.nil
          go_simp
          refine hK _ _ ?_
          clear hK K
          try simp only [Act.put, List.setIfInBounds_toArray, List.set_cons_zero, List.set_cons_succ]
          refine wpAny_ready (rs := [4]) (by kernel_rfl) (by simp) ?_
          refine AllReady.cons rfl (fun K hK => ?_) AllReady.nil
          go_simp
          refine hK _ _ ?_
          clear hK K
          try simp only [Act.put, List.setIfInBounds_toArray, List.set_cons_zero, List.set_cons_succ]
          refine wpAny_ready (rs := [6]) (by kernel_rfl) (by simp) ?_
          refine AllReady.cons rfl (fun K hK => ?_) AllReady.nil
          go_simp
          refine hK _ _ ?_
          clear hK K
          try simp only [Act.put, List.setIfInBounds_toArray, List.set_cons_zero, List.set_cons_succ]
          refine wpAny_ready (rs := [7]) (by kernel_rfl) (by simp) ?_
          refine AllReady.cons rfl (fun K hK => ?_) AllReady.nil
          go_simp
          refine hK _ _ ?_
          clear hK K
          try simp only [Act.put, List.setIfInBounds_toArray, List.set_cons_zero, List.set_cons_succ]
          refine wpAny_done (by kernel_rfl) ?_ _
          go_wp2_with fail
          refine leaves_cons (f := 57) (args := #[.pointer (some ⟨w.heap.size + 1 + 1 + 1 + 1, 0, none⟩), .pointer (some ⟨w.heap.size, 0, none⟩), .pointer (some ⟨w.heap.size + 1, 0, none⟩), .pointer (some ⟨w.heap.size + 1 + 1, 0, none⟩)]) (by simp) (by simp [go_sem]) ?_
          refine (catch_idle _ _ _ _ _).mono ?_
          rintro e u' w'' ⟨rfl, rfl, rfl⟩
          refine ⟨_, results_cvv (p := 4) (q := 5) (u := 6) (tp := 26) (tq := 3) (tu := 32) Try.results23 _ _ w.heap.size (w.heap.size + 1) (w.heap.size + 1 + 1) C _ (.int .i64 (K0 : Int)) (.int .i64 0) rfl rfl rfl (((unhide D1).1.setO (w.heap.size + 1) 0 _ (by omega)).setO (w.heap.size + 1 + 1) 0 _ (by omega)) Try.underlying26 rfl iC (load3 ((((unhide D1).2.1.setC 0 (.int .i64 (K0 : Int))).setO (w.heap.size + 1 + 1) 0 _ (by omega)).cell 0 _ rfl)) (loadE ((((unhide D1).2.2.1.setO (w.heap.size + 1) 0 _ (by omega)).setC 0 (.int .i64 0)).cell 0 _ rfl)), unhide FIN⟩
      · skip
        refine step_store_same rfl _ _ _ rfl w.heap.size C rfl rfl 26 ((unhide D1).1.drew) iC C1 ?_
        refine hK _ _ ?_
        clear hK K
        try simp only [Act.put, List.setIfInBounds_toArray, List.set_cons_zero, List.set_cons_succ]
        refine wpAny_ready (rs := [2]) (by kernel_rfl) (by simp) ?_
        refine AllReady.cons rfl (fun K hK => ?_) AllReady.nil
        go_simp
        refine hK _ _ ?_
        clear hK K
        try simp only [Act.put, List.setIfInBounds_toArray, List.set_cons_zero, List.set_cons_succ]
        refine wpAny_ready (rs := [3]) (by kernel_rfl) (by simp) ?_
        refine AllReady.cons rfl (fun K hK => ?_) AllReady.nil
        go_simp
        refine hK _ _ ?_
        clear hK K
        try simp only [Act.put, List.setIfInBounds_toArray, List.set_cons_zero, List.set_cons_succ]
        refine wpAny_ready (rs := [4]) (by kernel_rfl) (by simp) ?_
        refine AllReady.cons rfl (fun K hK => ?_) AllReady.nil
        go_simp
        refine hK _ _ ?_
        clear hK K
        try simp only [Act.put, List.setIfInBounds_toArray, List.set_cons_zero, List.set_cons_succ]
        refine wpAny_ready (rs := [6]) (by kernel_rfl) (by simp) ?_
        refine AllReady.cons rfl (fun K hK => ?_) AllReady.nil
        go_simp
        refine hK _ _ ?_
        clear hK K
        try simp only [Act.put, List.setIfInBounds_toArray, List.set_cons_zero, List.set_cons_succ]
        refine wpAny_ready (rs := [7]) (by kernel_rfl) (by simp) ?_
        refine AllReady.cons rfl (fun K hK => ?_) AllReady.nil
        go_simp
        refine hK _ _ ?_
        clear hK K
        try simp only [Act.put, List.setIfInBounds_toArray, List.set_cons_zero, List.set_cons_succ]
        refine wpAny_done (by kernel_rfl) ?_ _
        go_wp2_with fail
        refine leaves_cons (f := 57) (args := #[.pointer (some ⟨w.heap.size + 1 + 1 + 1 + 1, 0, none⟩), .pointer (some ⟨w.heap.size, 0, none⟩), .pointer (some ⟨w.heap.size + 1, 0, none⟩), .pointer (some ⟨w.heap.size + 1 + 1, 0, none⟩)]) (by simp) (by simp [go_sem]) ?_
        refine (catch_idle _ _ _ _ _).mono ?_
        rintro e u' w'' ⟨rfl, rfl, rfl⟩
        refine ⟨_, results_cvv (p := 4) (q := 5) (u := 6) (tp := 26) (tq := 3) (tu := 32) Try.results23 _ _ w.heap.size (w.heap.size + 1) (w.heap.size + 1 + 1) C _ (.int .i64 (K0 : Int)) (.int .i64 0) rfl rfl rfl (((unhide D1).1.setO (w.heap.size + 1) 0 _ (by omega)).setO (w.heap.size + 1 + 1) 0 _ (by omega)) Try.underlying26 rfl iC (load3 ((((unhide D1).2.1.setC 0 (.int .i64 (K0 : Int))).setO (w.heap.size + 1 + 1) 0 _ (by omega)).cell 0 _ rfl)) (loadE ((((unhide D1).2.2.1.setO (w.heap.size + 1) 0 _ (by omega)).setC 0 (.int .i64 0)).cell 0 _ rfl)), unhide FIN⟩
    · skip
      refine step_store_same rfl _ _ _ rfl w.heap.size C rfl rfl 26 ((unhide D1).1.drew) iC C1 ?_
      refine hK _ _ ?_
      clear hK K
      try simp only [Act.put, List.setIfInBounds_toArray, List.set_cons_zero, List.set_cons_succ]
      refine wpAny_ready (rs := [1]) (by kernel_rfl) (by simp) ?_
      refine AllReady.cons rfl (fun K hK => ?_) AllReady.nil
      go_simp
      refine hK _ _ ?_
      clear hK K
      try simp only [Act.put, List.setIfInBounds_toArray, List.set_cons_zero, List.set_cons_succ]
      refine wpAny_ready (rs := [2]) (by kernel_rfl) (by simp) ?_
      refine AllReady.cons rfl (fun K hK => ?_) AllReady.nil
      go_simp
      refine hK _ _ ?_
      clear hK K
      try simp only [Act.put, List.setIfInBounds_toArray, List.set_cons_zero, List.set_cons_succ]
      refine wpAny_ready (rs := [3]) (by kernel_rfl) (by simp) ?_
      refine AllReady.cons rfl (fun K hK => ?_) AllReady.nil
      go_simp
      refine hK _ _ ?_
      clear hK K
      try simp only [Act.put, List.setIfInBounds_toArray, List.set_cons_zero, List.set_cons_succ]
      refine wpAny_ready (rs := [4]) (by kernel_rfl) (by simp) ?_
      refine AllReady.cons rfl (fun K hK => ?_) AllReady.nil
      go_simp
      refine hK _ _ ?_
      clear hK K
      try simp only [Act.put, List.setIfInBounds_toArray, List.set_cons_zero, List.set_cons_succ]
      refine wpAny_ready (rs := [6]) (by kernel_rfl) (by simp) ?_
      refine AllReady.cons rfl (fun K hK => ?_) AllReady.nil
      go_simp
      refine hK _ _ ?_
      clear hK K
      try simp only [Act.put, List.setIfInBounds_toArray, List.set_cons_zero, List.set_cons_succ]
      refine wpAny_ready (rs := [7]) (by kernel_rfl) (by simp) ?_
      refine AllReady.cons rfl (fun K hK => ?_) AllReady.nil
      go_simp
      refine hK _ _ ?_
      clear hK K
      try simp only [Act.put, List.setIfInBounds_toArray, List.set_cons_zero, List.set_cons_succ]
      refine wpAny_done (by kernel_rfl) ?_ _
      go_wp2_with fail
      refine leaves_cons (f := 57) (args := #[.pointer (some ⟨w.heap.size + 1 + 1 + 1 + 1, 0, none⟩), .pointer (some ⟨w.heap.size, 0, none⟩), .pointer (some ⟨w.heap.size + 1, 0, none⟩), .pointer (some ⟨w.heap.size + 1 + 1, 0, none⟩)]) (by simp) (by simp [go_sem]) ?_
      refine (catch_idle _ _ _ _ _).mono ?_
      rintro e u' w'' ⟨rfl, rfl, rfl⟩
      refine ⟨_, results_cvv (p := 4) (q := 5) (u := 6) (tp := 26) (tq := 3) (tu := 32) Try.results23 _ _ w.heap.size (w.heap.size + 1) (w.heap.size + 1 + 1) C _ (.int .i64 (K0 : Int)) (.int .i64 0) rfl rfl rfl (((unhide D1).1.setO (w.heap.size + 1) 0 _ (by omega)).setO (w.heap.size + 1 + 1) 0 _ (by omega)) Try.underlying26 rfl iC (load3 ((((unhide D1).2.1.setC 0 (.int .i64 (K0 : Int))).setO (w.heap.size + 1 + 1) 0 _ (by omega)).cell 0 _ rfl)) (loadE ((((unhide D1).2.2.1.setO (w.heap.size + 1) 0 _ (by omega)).setC 0 (.int .i64 0)).cell 0 _ rfl)), unhide FIN⟩
  · skip
    go_simp
    refine hK _ _ ?_
    clear hK K
    try simp only [Act.put, List.setIfInBounds_toArray, List.set_cons_zero, List.set_cons_succ]
    refine wpAny_ready (rs := [0, 2]) (by kernel_rfl) (by simp) ?_
    refine AllReady.cons rfl (fun K hK => ?_) (AllReady.cons rfl (fun K hK => ?_) AllReady.nil)
    · skip
      refine step_load_row rfl _ _ rfl w.heap.size rfl C 26 _ ((unhide D1).1.drew) Try.underlying26 rfl iC ?_
      refine hK _ _ ?_
      clear hK K
      try simp only [Act.put, List.setIfInBounds_toArray, List.set_cons_zero, List.set_cons_succ]
      refine wpAny_ready (rs := [2, 5]) (by kernel_rfl) (by simp) ?_
      refine AllReady.cons rfl (fun K hK => ?_) (AllReady.cons rfl (fun K hK => ?_) AllReady.nil)
      · skip
        go_simp
        refine hK _ _ ?_
        clear hK K
        try simp only [Act.put, List.setIfInBounds_toArray, List.set_cons_zero, List.set_cons_succ]
        refine wpAny_ready (rs := [3, 5]) (by kernel_rfl) (by simp) ?_
        refine AllReady.cons rfl (fun K hK => ?_) (AllReady.cons rfl (fun K hK => ?_) AllReady.nil)
        · skip
          go_simp
          refine hK _ _ ?_
          clear hK K
          try simp only [Act.put, List.setIfInBounds_toArray, List.set_cons_zero, List.set_cons_succ]
          refine wpAny_ready (rs := [4, 5]) (by kernel_rfl) (by simp) ?_
          refine AllReady.cons rfl (fun K hK => ?_) (AllReady.cons rfl (fun K hK => ?_) AllReady.nil)
          · skip
            go_simp
            refine hK _ _ ?_
            clear hK K
            try simp only [Act.put, List.setIfInBounds_toArray, List.set_cons_zero, List.set_cons_succ]
            refine wpAny_ready (rs := [5]) (by kernel_rfl) (by simp) ?_
            refine AllReady.cons rfl (fun K hK => ?_) AllReady.nil
            refine step_store_same rfl _ _ _ rfl w.heap.size C rfl rfl 26 ((unhide D1).1.drew) iC C1 ?_
            refine hK _ _ ?_
            clear hK K
            try simp only [Act.put, List.setIfInBounds_toArray, List.set_cons_zero, List.set_cons_succ]
            refine wpAny_ready (rs := [6]) (by kernel_rfl) (by simp) ?_
            refine AllReady.cons rfl (fun K hK => ?_) AllReady.nil
            go_simp
            refine hK _ _ ?_
            clear hK K
            try simp only [Act.put, List.setIfInBounds_toArray, List.set_cons_zero, List.set_cons_succ]
            refine wpAny_ready (rs := [7]) (by kernel_rfl) (by simp) ?_
            refine AllReady.cons rfl (fun K hK => ?_) AllReady.nil
            go_simp
            refine hK _ _ ?_
            clear hK K
            try simp only [Act.put, List.setIfInBounds_toArray, List.set_cons_zero, List.set_cons_succ]
            refine wpAny_done (by kernel_rfl) ?_ _
            go_wp2_with fail
            refine leaves_cons (f := 57) (args := #[.pointer (some ⟨w.heap.size + 1 + 1 + 1 + 1, 0, none⟩), .pointer (some ⟨w.heap.size, 0, none⟩), .pointer (some ⟨w.heap.size + 1, 0, none⟩), .pointer (some ⟨w.heap.size + 1 + 1, 0, none⟩)]) (by simp) (by simp [go_sem]) ?_
            refine (catch_idle _ _ _ _ _).mono ?_
            rintro e u' w'' ⟨rfl, rfl, rfl⟩
            refine ⟨_, results_cvv (p := 4) (q := 5) (u := 6) (tp := 26) (tq := 3) (tu := 32) Try.results23 _ _ w.heap.size (w.heap.size + 1) (w.heap.size + 1 + 1) C _ (.int .i64 (K0 : Int)) (.int .i64 0) rfl rfl rfl (((unhide D1).1.setO (w.heap.size + 1) 0 _ (by omega)).setO (w.heap.size + 1 + 1) 0 _ (by omega)) Try.underlying26 rfl iC (load3 ((((unhide D1).2.1.setC 0 (.int .i64 (K0 : Int))).setO (w.heap.size + 1 + 1) 0 _ (by omega)).cell 0 _ rfl)) (loadE ((((unhide D1).2.2.1.setO (w.heap.size + 1) 0 _ (by omega)).setC 0 (.int .i64 0)).cell 0 _ rfl)), unhide FIN⟩
          · skip
            refine step_store_same rfl _ _ _ rfl w.heap.size C rfl rfl 26 ((unhide D1).1.drew) iC C1 ?_
            refine hK _ _ ?_
            clear hK K
            try simp only [Act.put, List.setIfInBounds_toArray, List.set_cons_zero, List.set_cons_succ]
            refine wpAny_ready (rs := [4]) (by kernel_rfl) (by simp) ?_
            refine AllReady.cons rfl (fun K hK => ?_) AllReady.nil
            go_simp
            refine hK _ _ ?_
            clear hK K
            try simp only [Act.put, List.setIfInBounds_toArray, List.set_cons_zero, List.set_cons_succ]
            refine wpAny_ready (rs := [6]) (by kernel_rfl) (by simp) ?_
            refine AllReady.cons rfl (fun K hK => ?_) AllReady.nil
            go_simp
            refine hK _ _ ?_
            clear hK K
            try simp only [Act.put, List.setIfInBounds_toArray, List.set_cons_zero, List.set_cons_succ]
            refine wpAny_ready (rs := [7]) (by kernel_rfl) (by simp) ?_
            refine AllReady.cons rfl (fun K hK => ?_) AllReady.nil
            go_simp
            refine hK _ _ ?_
            clear hK K
            try simp only [Act.put, List.setIfInBounds_toArray, List.set_cons_zero, List.set_cons_succ]
            refine wpAny_done (by kernel_rfl) ?_ _
            go_wp2_with fail
            refine leaves_cons (f := 57) (args := #[.pointer (some ⟨w.heap.size + 1 + 1 + 1 + 1, 0, none⟩), .pointer (some ⟨w.heap.size, 0, none⟩), .pointer (some ⟨w.heap.size + 1, 0, none⟩), .pointer (some ⟨w.heap.size + 1 + 1, 0, none⟩)]) (by simp) (by simp [go_sem]) ?_
            refine (catch_idle _ _ _ _ _).mono ?_
            rintro e u' w'' ⟨rfl, rfl, rfl⟩
            refine ⟨_, results_cvv (p := 4) (q := 5) (u := 6) (tp := 26) (tq := 3) (tu := 32) Try.results23 _ _ w.heap.size (w.heap.size + 1) (w.heap.size + 1 + 1) C _ (.int .i64 (K0 : Int)) (.int .i64 0) rfl rfl rfl (((unhide D1).1.setO (w.heap.size + 1) 0 _ (by omega)).setO (w.heap.size + 1 + 1) 0 _ (by omega)) Try.underlying26 rfl iC (load3 ((((unhide D1).2.1.setC 0 (.int .i64 (K0 : Int))).setO (w.heap.size + 1 + 1) 0 _ (by omega)).cell 0 _ rfl)) (loadE ((((unhide D1).2.2.1.setO (w.heap.size + 1) 0 _ (by omega)).setC 0 (.int .i64 0)).cell 0 _ rfl)), unhide FIN⟩
        · skip
          refine step_store_same rfl _ _ _ rfl w.heap.size C rfl rfl 26 ((unhide D1).1.drew) iC C1 ?_
          refine hK _ _ ?_
          clear hK K
          try simp only [Act.put, List.setIfInBounds_toArray, List.set_cons_zero, List.set_cons_succ]
          refine wpAny_ready (rs := [3]) (by kernel_rfl) (by simp) ?_
          refine AllReady.cons rfl (fun K hK => ?_) AllReady.nil
          go_simp
          refine hK _ _ ?_
          clear hK K
          try simp only [Act.put, List.setIfInBounds_toArray, List.set_cons_zero, List.set_cons_succ]
          refine wpAny_ready (rs := [4]) (by kernel_rfl) (by simp) ?_
          refine AllReady.cons rfl (fun K hK => ?_) AllReady.nil
          go_simp
          refine hK _ _ ?_
          clear hK K
          try simp only [Act.put, List.setIfInBounds_toArray, List.set_cons_zero, List.set_cons_succ]
          refine wpAny_ready (rs := [6]) (by kernel_rfl) (by simp) ?_
          refine AllReady.cons rfl (fun K hK => ?_) AllReady.nil
          go_simp
          refine hK _ _ ?_
          clear hK K
          try simp only [Act.put, List.setIfInBounds_toArray, List.set_cons_zero, List.set_cons_succ]
          refine wpAny_ready (rs := [7]) (by kernel_rfl) (by simp) ?_
          refine AllReady.cons rfl (fun K hK => ?_) AllReady.nil
          go_simp
          refine hK _ _ ?_
          clear hK K
          try simp only [Act.put, List.setIfInBounds_toArray, List.set_cons_zero, List.set_cons_succ]
          refine wpAny_done (by kernel_rfl) ?_ _
          go_wp2_with fail
          refine leaves_cons (f := 57) (args := #[.pointer (some ⟨w.heap.size + 1 + 1 + 1 + 1, 0, none⟩), .pointer (some ⟨w.heap.size, 0, none⟩), .pointer (some ⟨w.heap.size + 1, 0, none⟩), .pointer (some ⟨w.heap.size + 1 + 1, 0, none⟩)]) (by simp) (by simp [go_sem]) ?_
          refine (catch_idle _ _ _ _ _).mono ?_
          rintro e u' w'' ⟨rfl, rfl, rfl⟩
          refine ⟨_, results_cvv (p := 4) (q := 5) (u := 6) (tp := 26) (tq := 3) (tu := 32) Try.results23 _ _ w.heap.size (w.heap.size + 1) (w.heap.size + 1 + 1) C _ (.int .i64 (K0 : Int)) (.int .i64 0) rfl rfl rfl (((unhide D1).1.setO (w.heap.size + 1) 0 _ (by omega)).setO (w.heap.size + 1 + 1) 0 _ (by omega)) Try.underlying26 rfl iC (load3 ((((unhide D1).2.1.setC 0 (.int .i64 (K0 : Int))).setO (w.heap.size + 1 + 1) 0 _ (by omega)).cell 0 _ rfl)) (loadE ((((unhide D1).2.2.1.setO (w.heap.size + 1) 0 _ (by omega)).setC 0 (.int .i64 0)).cell 0 _ rfl)), unhide FIN⟩
      · skip
        refine step_store_same rfl _ _ _ rfl w.heap.size C rfl rfl 26 ((unhide D1).1.drew) iC C1 ?_
        refine hK _ _ ?_
        clear hK K
        try simp only [Act.put, List.setIfInBounds_toArray, List.set_cons_zero, List.set_cons_succ]
        refine wpAny_ready (rs := [2]) (by kernel_rfl) (by simp) ?_
        refine AllReady.cons rfl (fun K hK => ?_) AllReady.nil
        go_simp
        refine hK _ _ ?_
        clear hK K
        try simp only [Act.put, List.setIfInBounds_toArray, List.set_cons_zero, List.set_cons_succ]
        refine wpAny_ready (rs := [3]) (by kernel_rfl) (by simp) ?_
        refine AllReady.cons rfl (fun K hK => ?_) AllReady.nil
        go_simp
        refine hK _ _ ?_
        clear hK K
        try simp only [Act.put, List.setIfInBounds_toArray, List.set_cons_zero, List.set_cons_succ]
        refine wpAny_ready (rs := [4]) (by kernel_rfl) (by simp) ?_
        refine AllReady.cons rfl (fun K hK => ?_) AllReady.nil
        go_simp
        refine hK _ _ ?_
        clear hK K
        try simp only [Act.put, List.setIfInBounds_toArray, List.set_cons_zero, List.set_cons_succ]
        refine wpAny_ready (rs := [6]) (by kernel_rfl) (by simp) ?_
        refine AllReady.cons rfl (fun K hK => ?_) AllReady.nil
        go_simp
        refine hK _ _ ?_
        clear hK K
        try simp only [Act.put, List.setIfInBounds_toArray, List.set_cons_zero, List.set_cons_succ]
        refine wpAny_ready (rs := [7]) (by kernel_rfl) (by simp) ?_
        refine AllReady.cons rfl (fun K hK => ?_) AllReady.nil
        go_simp
        refine hK _ _ ?_
        clear hK K
        try simp only [Act.put, List.setIfInBounds_toArray, List.set_cons_zero, List.set_cons_succ]
        refine wpAny_done (by kernel_rfl) ?_ _
        go_wp2_with fail
        refine leaves_cons (f := 57) (args := #[.pointer (some ⟨w.heap.size + 1 + 1 + 1 + 1, 0, none⟩), .pointer (some ⟨w.heap.size, 0, none⟩), .pointer (some ⟨w.heap.size + 1, 0, none⟩), .pointer (some ⟨w.heap.size + 1 + 1, 0, none⟩)]) (by simp) (by simp [go_sem]) ?_
        refine (catch_idle _ _ _ _ _).mono ?_
        rintro e u' w'' ⟨rfl, rfl, rfl⟩
        refine ⟨_, results_cvv (p := 4) (q := 5) (u := 6) (tp := 26) (tq := 3) (tu := 32) Try.results23 _ _ w.heap.size (w.heap.size + 1) (w.heap.size + 1 + 1) C _ (.int .i64 (K0 : Int)) (.int .i64 0) rfl rfl rfl (((unhide D1).1.setO (w.heap.size + 1) 0 _ (by omega)).setO (w.heap.size + 1 + 1) 0 _ (by omega)) Try.underlying26 rfl iC (load3 ((((unhide D1).2.1.setC 0 (.int .i64 (K0 : Int))).setO (w.heap.size + 1 + 1) 0 _ (by omega)).cell 0 _ rfl)) (loadE ((((unhide D1).2.2.1.setO (w.heap.size + 1) 0 _ (by omega)).setC 0 (.int .i64 0)).cell 0 _ rfl)), unhide FIN⟩
    · skip
      go_simp
      refine hK _ _ ?_
      clear hK K
      try simp only [Act.put, List.setIfInBounds_toArray, List.set_cons_zero, List.set_cons_succ]
      refine wpAny_ready (rs := [0, 3]) (by kernel_rfl) (by simp) ?_
      refine AllReady.cons rfl (fun K hK => ?_) (AllReady.cons rfl (fun K hK => ?_) AllReady.nil)
      · skip
        refine step_load_row rfl _ _ rfl w.heap.size rfl C 26 _ ((unhide D1).1.drew) Try.underlying26 rfl iC ?_
        refine hK _ _ ?_
        clear hK K
        try simp only [Act.put, List.setIfInBounds_toArray, List.set_cons_zero, List.set_cons_succ]
        refine wpAny_ready (rs := [3, 5]) (by kernel_rfl) (by simp) ?_
        refine AllReady.cons rfl (fun K hK => ?_) (AllReady.cons rfl (fun K hK => ?_) AllReady.nil)
        · skip
          go_simp
          refine hK _ _ ?_
          clear hK K
          try simp only [Act.put, List.setIfInBounds_toArray, List.set_cons_zero, List.set_cons_succ]
          refine wpAny_ready (rs := [4, 5]) (by kernel_rfl) (by simp) ?_
          refine AllReady.cons rfl (fun K hK => ?_) (AllReady.cons rfl (fun K hK => ?_) AllReady.nil)
          · skip
            go_simp
            refine hK _ _ ?_
            clear hK K
            try simp only [Act.put, List.setIfInBounds_toArray, List.set_cons_zero, List.set_cons_succ]
            refine wpAny_ready (rs := [5]) (by kernel_rfl) (by simp) ?_
            refine AllReady.cons rfl (fun K hK => ?_) AllReady.nil
            refine step_store_same rfl _ _ _ rfl w.heap.size C rfl rfl 26 ((unhide D1).1.drew) iC C1 ?_
            refine hK _ _ ?_
            clear hK K
            try simp only [Act.put, List.setIfInBounds_toArray, List.set_cons_zero, List.set_cons_succ]
            refine wpAny_ready (rs := [6]) (by kernel_rfl) (by simp) ?_
            refine AllReady.cons rfl (fun K hK => ?_) AllReady.nil
            go_simp
            refine hK _ _ ?_
            clear hK K
            try simp only [Act.put, List.setIfInBounds_toArray, List.set_cons_zero, List.set_cons_succ]
            refine wpAny_ready (rs := [7]) (by kernel_rfl) (by simp) ?_
            refine AllReady.cons rfl (fun K hK => ?_) AllReady.nil
            go_simp
            refine hK _ _ ?_
            clear hK K
            try simp only [Act.put, List.setIfInBounds_toArray, List.set_cons_zero, List.set_cons_succ]
            refine wpAny_done (by kernel_rfl) ?_ _
            go_wp2_with fail
            refine leaves_cons (f := 57) (args := #[.pointer (some ⟨w.heap.size + 1 + 1 + 1 + 1, 0, none⟩), .pointer (some ⟨w.heap.size, 0, none⟩), .pointer (some ⟨w.heap.size + 1, 0, none⟩), .pointer (some ⟨w.heap.size + 1 + 1, 0, none⟩)]) (by simp) (by simp [go_sem]) ?_
            refine (catch_idle _ _ _ _ _).mono ?_
            rintro e u' w'' ⟨rfl, rfl, rfl⟩
            refine ⟨_, results_cvv (p := 4) (q := 5) (u := 6) (tp := 26) (tq := 3) (tu := 32) Try.results23 _ _ w.heap.size (w.heap.size + 1) (w.heap.size + 1 + 1) C _ (.int .i64 (K0 : Int)) (.int .i64 0) rfl rfl rfl (((unhide D1).1.setO (w.heap.size + 1) 0 _ (by omega)).setO (w.heap.size + 1 + 1) 0 _ (by omega)) Try.underlying26 rfl iC (load3 ((((unhide D1).2.1.setC 0 (.int .i64 (K0 : Int))).setO (w.heap.size + 1 + 1) 0 _ (by omega)).cell 0 _ rfl)) (loadE ((((unhide D1).2.2.1.setO (w.heap.size + 1) 0 _ (by omega)).setC 0 (.int .i64 0)).cell 0 _ rfl)), unhide FIN⟩
          · skip
            refine step_store_same rfl _ _ _ rfl w.heap.size C rfl rfl 26 ((unhide D1).1.drew) iC C1 ?_
            refine hK _ _ ?_
            clear hK K
            try simp only [Act.put, List.setIfInBounds_toArray, List.set_cons_zero, List.set_cons_succ]
            refine wpAny_ready (rs := [4]) (by kernel_rfl) (by simp) ?_
            refine AllReady.cons rfl (fun K hK => ?_) AllReady.nil
            go_simp
            refine hK _ _ ?_
            clear hK K
            try simp only [Act.put, List.setIfInBounds_toArray, List.set_cons_zero, List.set_cons_succ]
            refine wpAny_ready (rs := [6]) (by kernel_rfl) (by simp) ?_
            refine AllReady.cons rfl (fun K hK => ?_) AllReady.nil
            go_simp
            refine hK _ _ ?_
            clear hK K
            try simp only [Act.put, List.setIfInBounds_toArray, List.set_cons_zero, List.set_cons_succ]
            refine wpAny_ready (rs := [7]) (by kernel_rfl) (by simp) ?_
            refine AllReady.cons rfl (fun K hK => ?_) AllReady.nil
            go_simp
            refine hK _ _ ?_
            clear hK K
            try simp only [Act.put, List.setIfInBounds_toArray, List.set_cons_zero, List.set_cons_succ]
            refine wpAny_done (by kernel_rfl) ?_ _
            go_wp2_with fail
            refine leaves_cons (f := 57) (args := #[.pointer (some ⟨w.heap.size + 1 + 1 + 1 + 1, 0, none⟩), .pointer (some ⟨w.heap.size, 0, none⟩), .pointer (some ⟨w.heap.size + 1, 0, none⟩), .pointer (some ⟨w.heap.size + 1 + 1, 0, none⟩)]) (by simp) (by simp [go_sem]) ?_
            refine (catch_idle _ _ _ _ _).mono ?_
            rintro e u' w'' ⟨rfl, rfl, rfl⟩
            refine ⟨_, results_cvv (p := 4) (q := 5) (u := 6) (tp := 26) (tq := 3) (tu := 32) Try.results23 _ _ w.heap.size (w.heap.size + 1) (w.heap.size + 1 + 1) C _ (.int .i64 (K0 : Int)) (.int .i64 0) rfl rfl rfl (((unhide D1).1.setO (w.heap.size + 1) 0 _ (by omega)).setO (w.heap.size + 1 + 1) 0 _ (by omega)) Try.underlying26 rfl iC (load3 ((((unhide D1).2.1.setC 0 (.int .i64 (K0 : Int))).setO (w.heap.size + 1 + 1) 0 _ (by omega)).cell 0 _ rfl)) (loadE ((((unhide D1).2.2.1.setO (w.heap.size + 1) 0 _ (by omega)).setC 0 (.int .i64 0)).cell 0 _ rfl)), unhide FIN⟩
        · skip
          refine step_store_same rfl _ _ _ rfl w.heap.size C rfl rfl 26 ((unhide D1).1.drew) iC C1 ?_
          refine hK _ _ ?_
          clear hK K
          try simp only [Act.put, List.setIfInBounds_toArray, List.set_cons_zero, List.set_cons_succ]
          refine wpAny_ready (rs := [3]) (by kernel_rfl) (by simp) ?_
          refine AllReady.cons rfl (fun K hK => ?_) AllReady.nil
          go_simp
          refine hK _ _ ?_
          clear hK K
          try simp only [Act.put, List.setIfInBounds_toArray, List.set_cons_zero, List.set_cons_succ]
          refine wpAny_ready (rs := [4]) (by kernel_rfl) (by simp) ?_
          refine AllReady.cons rfl (fun K hK => ?_) AllReady.nil
          go_simp
          refine hK _ _ ?_
          clear hK K
          try simp only [Act.put, List.setIfInBounds_toArray, List.set_cons_zero, List.set_cons_succ]
          refine wpAny_ready (rs := [6]) (by kernel_rfl) (by simp) ?_
          refine AllReady.cons rfl (fun K hK => ?_) AllReady.nil
          go_simp
          refine hK _ _ ?_
          clear hK K
          try simp only [Act.put, List.setIfInBounds_toArray, List.set_cons_zero, List.set_cons_succ]
          refine wpAny_ready (rs := [7]) (by kernel_rfl) (by simp) ?_
          refine AllReady.cons rfl (fun K hK => ?_) AllReady.nil
          go_simp
          refine hK _ _ ?_
          clear hK K
          try simp only [Act.put, List.setIfInBounds_toArray, List.set_cons_zero, List.set_cons_succ]
          refine wpAny_done (by kernel_rfl) ?_ _
          go_wp2_with fail
          refine leaves_cons (f := 57) (args := #[.pointer (some ⟨w.heap.size + 1 + 1 + 1 + 1, 0, none⟩), .pointer (some ⟨w.heap.size, 0, none⟩), .pointer (some ⟨w.heap.size + 1, 0, none⟩), .pointer (some ⟨w.heap.size + 1 + 1, 0, none⟩)]) (by simp) (by simp [go_sem]) ?_
          refine (catch_idle _ _ _ _ _).mono ?_
          rintro e u' w'' ⟨rfl, rfl, rfl⟩
          refine ⟨_, results_cvv (p := 4) (q := 5) (u := 6) (tp := 26) (tq := 3) (tu := 32) Try.results23 _ _ w.heap.size (w.heap.size + 1) (w.heap.size + 1 + 1) C _ (.int .i64 (K0 : Int)) (.int .i64 0) rfl rfl rfl (((unhide D1).1.setO (w.heap.size + 1) 0 _ (by omega)).setO (w.heap.size + 1 + 1) 0 _ (by omega)) Try.underlying26 rfl iC (load3 ((((unhide D1).2.1.setC 0 (.int .i64 (K0 : Int))).setO (w.heap.size + 1 + 1) 0 _ (by omega)).cell 0 _ rfl)) (loadE ((((unhide D1).2.2.1.setO (w.heap.size + 1) 0 _ (by omega)).setC 0 (.int .i64 0)).cell 0 _ rfl)), unhide FIN⟩
      · skip
        go_simp
        refine hK _ _ ?_
        clear hK K
        try simp only [Act.put, List.setIfInBounds_toArray, List.set_cons_zero, List.set_cons_succ]
        refine wpAny_ready (rs := [0, 4]) (by kernel_rfl) (by simp) ?_
        refine AllReady.cons rfl (fun K hK => ?_) (AllReady.cons rfl (fun K hK => ?_) AllReady.nil)
        · skip
          refine step_load_row rfl _ _ rfl w.heap.size rfl C 26 _ ((unhide D1).1.drew) Try.underlying26 rfl iC ?_
          refine hK _ _ ?_
          clear hK K
          try simp only [Act.put, List.setIfInBounds_toArray, List.set_cons_zero, List.set_cons_succ]
          refine wpAny_ready (rs := [4, 5]) (by kernel_rfl) (by simp) ?_
          refine AllReady.cons rfl (fun K hK => ?_) (AllReady.cons rfl (fun K hK => ?_) AllReady.nil)
          · skip
            go_simp
            refine hK _ _ ?_
            clear hK K
            try simp only [Act.put, List.setIfInBounds_toArray, List.set_cons_zero, List.set_cons_succ]
            refine wpAny_ready (rs := [5]) (by kernel_rfl) (by simp) ?_
            refine AllReady.cons rfl (fun K hK => ?_) AllReady.nil
            refine step_store_same rfl _ _ _ rfl w.heap.size C rfl rfl 26 ((unhide D1).1.drew) iC C1 ?_
            refine hK _ _ ?_
            clear hK K
            try simp only [Act.put, List.setIfInBounds_toArray, List.set_cons_zero, List.set_cons_succ]
            refine wpAny_ready (rs := [6]) (by kernel_rfl) (by simp) ?_
            refine AllReady.cons rfl (fun K hK => ?_) AllReady.nil
            go_simp
            refine hK _ _ ?_
            clear hK K
            try simp only [Act.put, List.setIfInBounds_toArray, List.set_cons_zero, List.set_cons_succ]
            refine wpAny_ready (rs := [7]) (by kernel_rfl) (by simp) ?_
            refine AllReady.cons rfl (fun K hK => ?_) AllReady.nil
            go_simp
            refine hK _ _ ?_
            clear hK K
            try simp only [Act.put, List.setIfInBounds_toArray, List.set_cons_zero, List.set_cons_succ]
            refine wpAny_done (by kernel_rfl) ?_ _
            go_wp2_with fail
            refine leaves_cons (f := 57) (args := #[.pointer (some ⟨w.heap.size + 1 + 1 + 1 + 1, 0, none⟩), .pointer (some ⟨w.heap.size, 0, none⟩), .pointer (some ⟨w.heap.size + 1, 0, none⟩), .pointer (some ⟨w.heap.size + 1 + 1, 0, none⟩)]) (by simp) (by simp [go_sem]) ?_
            refine (catch_idle _ _ _ _ _).mono ?_
            rintro e u' w'' ⟨rfl, rfl, rfl⟩
            refine ⟨_, results_cvv (p := 4) (q := 5) (u := 6) (tp := 26) (tq := 3) (tu := 32) Try.results23 _ _ w.heap.size (w.heap.size + 1) (w.heap.size + 1 + 1) C _ (.int .i64 (K0 : Int)) (.int .i64 0) rfl rfl rfl (((unhide D1).1.setO (w.heap.size + 1) 0 _ (by omega)).setO (w.heap.size + 1 + 1) 0 _ (by omega)) Try.underlying26 rfl iC (load3 ((((unhide D1).2.1.setC 0 (.int .i64 (K0 : Int))).setO (w.heap.size + 1 + 1) 0 _ (by omega)).cell 0 _ rfl)) (loadE ((((unhide D1).2.2.1.setO (w.heap.size + 1) 0 _ (by omega)).setC 0 (.int .i64 0)).cell 0 _ rfl)), unhide FIN⟩
          · skip
            refine step_store_same rfl _ _ _ rfl w.heap.size C rfl rfl 26 ((unhide D1).1.drew) iC C1 ?_
            refine hK _ _ ?_
            clear hK K
            try simp only [Act.put, List.setIfInBounds_toArray, List.set_cons_zero, List.set_cons_succ]
            refine wpAny_ready (rs := [4]) (by kernel_rfl) (by simp) ?_
            refine AllReady.cons rfl (fun K hK => ?_) AllReady.nil
            go_simp
            refine hK _ _ ?_
            clear hK K
            try simp only [Act.put, List.setIfInBounds_toArray, List.set_cons_zero, List.set_cons_succ]
            refine wpAny_ready (rs := [6]) (by kernel_rfl) (by simp) ?_
            refine AllReady.cons rfl (fun K hK => ?_) AllReady.nil
            go_simp
            refine hK _ _ ?_
            clear hK K
            try simp only [Act.put, List.setIfInBounds_toArray, List.set_cons_zero, List.set_cons_succ]
            refine wpAny_ready (rs := [7]) (by kernel_rfl) (by simp) ?_
            refine AllReady.cons rfl (fun K hK => ?_) AllReady.nil
            go_simp
            refine hK _ _ ?_
            clear hK K
            try simp only [Act.put, List.setIfInBounds_toArray, List.set_cons_zero, List.set_cons_succ]
            refine wpAny_done (by kernel_rfl) ?_ _
            go_wp2_with fail
            refine leaves_cons (f := 57) (args := #[.pointer (some ⟨w.heap.size + 1 + 1 + 1 + 1, 0, none⟩), .pointer (some ⟨w.heap.size, 0, none⟩), .pointer (some ⟨w.heap.size + 1, 0, none⟩), .pointer (some ⟨w.heap.size + 1 + 1, 0, none⟩)]) (by simp) (by simp [go_sem]) ?_
            refine (catch_idle _ _ _ _ _).mono ?_
            rintro e u' w'' ⟨rfl, rfl, rfl⟩
            refine ⟨_, results_cvv (p := 4) (q := 5) (u := 6) (tp := 26) (tq := 3) (tu := 32) Try.results23 _ _ w.heap.size (w.heap.size + 1) (w.heap.size + 1 + 1) C _ (.int .i64 (K0 : Int)) (.int .i64 0) rfl rfl rfl (((unhide D1).1.setO (w.heap.size + 1) 0 _ (by omega)).setO (w.heap.size + 1 + 1) 0 _ (by omega)) Try.underlying26 rfl iC (load3 ((((unhide D1).2.1.setC 0 (.int .i64 (K0 : Int))).setO (w.heap.size + 1 + 1) 0 _ (by omega)).cell 0 _ rfl)) (loadE ((((unhide D1).2.2.1.setO (w.heap.size + 1) 0 _ (by omega)).setC 0 (.int .i64 0)).cell 0 _ rfl)), unhide FIN⟩
        · skip
          go_simp
          refine hK _ _ ?_
          clear hK K
          try simp only [Act.put, List.setIfInBounds_toArray, List.set_cons_zero, List.set_cons_succ]
          refine wpAny_ready (rs := [0]) (by kernel_rfl) (by simp) ?_
          refine AllReady.cons rfl (fun K hK => ?_) AllReady.nil
          refine step_load_row rfl _ _ rfl w.heap.size rfl C 26 _ ((unhide D1).1.drew) Try.underlying26 rfl iC ?_
          refine hK _ _ ?_
          clear hK K
          try simp only [Act.put, List.setIfInBounds_toArray, List.set_cons_zero, List.set_cons_succ]
          refine wpAny_ready (rs := [5]) (by kernel_rfl) (by simp) ?_
          refine AllReady.cons rfl (fun K hK => ?_) AllReady.nil
          refine step_store_same rfl _ _ _ rfl w.heap.size C rfl rfl 26 ((unhide D1).1.drew) iC C1 ?_
          refine hK _ _ ?_
          clear hK K
          try simp only [Act.put, List.setIfInBounds_toArray, List.set_cons_zero, List.set_cons_succ]
          refine wpAny_ready (rs := [6]) (by kernel_rfl) (by simp) ?_
          refine AllReady.cons rfl (fun K hK => ?_) AllReady.nil
          go_simp
          refine hK _ _ ?_
          clear hK K
          try simp only [Act.put, List.setIfInBounds_toArray, List.set_cons_zero, List.set_cons_succ]
          refine wpAny_ready (rs := [7]) (by kernel_rfl) (by simp) ?_
          refine AllReady.cons rfl (fun K hK => ?_) AllReady.nil
          go_simp
          refine hK _ _ ?_
          clear hK K
          try simp only [Act.put, List.setIfInBounds_toArray, List.set_cons_zero, List.set_cons_succ]
          refine wpAny_done (by kernel_rfl) ?_ _
          go_wp2_with fail
          refine leaves_cons (f := 57) (args := #[.pointer (some ⟨w.heap.size + 1 + 1 + 1 + 1, 0, none⟩), .pointer (some ⟨w.heap.size, 0, none⟩), .pointer (some ⟨w.heap.size + 1, 0, none⟩), .pointer (some ⟨w.heap.size + 1 + 1, 0, none⟩)]) (by simp) (by simp [go_sem]) ?_
          refine (catch_idle _ _ _ _ _).mono ?_
          rintro e u' w'' ⟨rfl, rfl, rfl⟩
          refine ⟨_, results_cvv (p := 4) (q := 5) (u := 6) (tp := 26) (tq := 3) (tu := 32) Try.results23 _ _ w.heap.size (w.heap.size + 1) (w.heap.size + 1 + 1) C _ (.int .i64 (K0 : Int)) (.int .i64 0) rfl rfl rfl (((unhide D1).1.setO (w.heap.size + 1) 0 _ (by omega)).setO (w.heap.size + 1 + 1) 0 _ (by omega)) Try.underlying26 rfl iC (load3 ((((unhide D1).2.1.setC 0 (.int .i64 (K0 : Int))).setO (w.heap.size + 1 + 1) 0 _ (by omega)).cell 0 _ rfl)) (loadE ((((unhide D1).2.2.1.setO (w.heap.size + 1) 0 _ (by omega)).setC 0 (.int .i64 0)).cell 0 _ rfl)), unhide FIN⟩
end Go.Proofs.Ytggjeamondampaa
