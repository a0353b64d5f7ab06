/- put. -/
import Derived.Test.YtbdjlhkgpblebaaDoorHM
namespace Go.Proofs.YtbdjlhkgpblebaaDoor
open Go.RowKit
set_option linter.unusedVariables false
set_option maxRecDepth 100000

/-- All blocks of w but those of S are as they were. -/
structure Kp (S : Nat → Prop) (w w' : World) : Prop where
  os : w'.os = w.os
  tape : w'.tape = w.tape
  output : w'.output = w.output
  size : w.heap.size ≤ w'.heap.size
  block : ∀ g, g < w.heap.size → ¬ S g → w'.heap[g]? = w.heap[g]?

theorem Kp.refl (S : Nat → Prop) (w : World) : Kp S w w := ⟨rfl, rfl, rfl, Nat.le_refl _, fun _ _ _ => rfl⟩
theorem Kp.trans {S : Nat → Prop} {w1 w2 w3 : World} (h : Kp S w1 w2) (k : Kp S w2 w3) : Kp S w1 w3 :=
  ⟨k.os.trans h.os, k.tape.trans h.tape, k.output.trans h.output, Nat.le_trans h.size k.size, fun g hg hn => (k.block g (Nat.lt_of_lt_of_le hg h.size) hn).trans (h.block g hg hn)⟩
theorem Kp.mono {S T : Nat → Prop} {w1 w2 : World} (h : Kp S w1 w2) (hs : ∀ g, g < w1.heap.size → S g → T g) : Kp T w1 w2 := ⟨h.os, h.tape, h.output, h.size, fun g hg hn => h.block g hg (fun hS => hn (hs g hg hS))⟩
theorem Kp.grown {w w' : World} (h : w.grownBy w' none) (S : Nat → Prop) : Kp S w w' := ⟨h.os, h.tape, h.output, h.size, fun g hg _ => h.block g hg (by simp)⟩
theorem Kp.grownS {w w' : World} {b : Nat} (h : w.grownBy w' (some b)) {S : Nat → Prop} (hb : S b) : Kp S w w' := ⟨h.os, h.tape, h.output, h.size, fun g hg hn => h.block g hg (fun e => hn (by cases e; exact hb))⟩
theorem Kp.set {S : Nat → Prop} {w w' : World} (h : Kp S w w') (b j : Nat) (v : Value) (hb : b < w.heap.size → S b) : Kp S w (w'.setCell ⟨b, j, none⟩ v) := by
  refine ⟨h.os, h.tape, h.output, ?_, fun g hg hn => ?_⟩
  · show w.heap.size ≤ (w'.heap.modify b _).size
    rw [Array.size_modify]; exact h.size
  · have e : (w'.setCell ⟨b, j, none⟩ v).heap[g]? = w'.heap[g]? := by
      simp only [World.setCell, Array.getElem?_modify]
      rw [if_neg (fun e : b = g => hn (e ▸ hb (by omega)))]
    rw [e]; exact h.block g hg hn
theorem Kp.drewN {S : Nat → Prop} {w w' : World} (h : Kp S w w') (q : Nat) : Kp S w (w'.drewN q) := ⟨h.os, h.tape, h.output, h.size, h.block⟩

theorem set_heap (w : World) (b j : Nat) (v : Value) (g : Nat) (h : g ≠ b) : (w.setCell ⟨b, j, none⟩ v).heap[g]? = w.heap[g]? := by
  simp only [World.setCell, Array.getElem?_modify]
  rw [if_neg (fun e : b = g => h e.symm)]
theorem set_size (w : World) (b j : Nat) (v : Value) : (w.setCell ⟨b, j, none⟩ v).heap.size = w.heap.size := by
  show (w.heap.modify b _).size = _
  rw [Array.size_modify]
theorem Seg.set {w : World} {prev nxt : Value} {L : List Nd} (h : Seg w prev nxt L) (b j : Nat) (v : Value) (hb : ∀ n ∈ L, n.g ≠ b) : Seg (w.setCell ⟨b, j, none⟩ v) prev nxt L := h.kept (fun n hn => set_heap w b j v n.g (hb n hn))
theorem Seg.drewN {w : World} {prev nxt : Value} {L : List Nd} (h : Seg w prev nxt L) (q : Nat) : Seg (w.drewN q) prev nxt L := h.kept (fun _ _ => rfl)
theorem WB.setO {w : World} {W mb c : Nat} {fl : Nat → Nat} {sl : Nat → Nat → List Nd} (h : WB w W mb c fl sl) (b j : Nat) (v : Value) (hb : b ≠ W) : WB (w.setCell ⟨b, j, none⟩ v) W mb c fl sl := h.kept (set_heap w b j v W hb.symm)
theorem or_bit (x s : Nat) (hx : x < 2 ^ 64) (hs : s < 64) : bits BinOp.or IntKind.u64 (x : Int) (IntKind.u64.wrap (2 ^ s)) = ((x ||| 2 ^ s : Nat) : Int) ∧ x ||| 2 ^ s < 2 ^ 64 ∧ ∀ t, (x ||| 2 ^ s).testBit t = if t = s then true else x.testBit t := by
  have h2 : 2 ^ s < 2 ^ 64 := Nat.pow_lt_pow_right (by decide) hs
  have e : IntKind.u64.wrap (2 ^ s) = ((2 ^ s : Nat) : Int) := by
    rw [IntKind.wrap_u64]
    have : ((2 : Int) ^ s) = ((2 ^ s : Nat) : Int) := by simp
    have key : ∀ y : Nat, y < 2 ^ 64 → ((y : Int) % 18446744073709551616) = y := fun y hy => by omega
    rw [this]; exact key _ h2
  refine ⟨by rw [e, u64_or_nat x _ hx h2], Nat.or_lt_two_pow hx h2, fun t => ?_⟩
  rw [Nat.testBit_or, Nat.testBit_two_pow]
  by_cases h : t = s
  · simp [h]
  · simp [h, Ne.symm h]

/-- What put leaves. -/
theorem put_end (W mb c : Nat) (fl : Nat → Nat) (sl : Nat → Nat → List Nd) (L : List Nd) (n : Nd) (w w1 : World) (h : SW w W mb c fl sl L) (hnW : n.g ≠ W) (hnL : ∀ m ∈ L, m.g ≠ n.g) (hat : n.at_ < 2 ^ 62)
    (i s : Nat) (hp : pl c n.at_ = (i, s)) (hi : i < 11) (hs : s < 64)
    (hn : Blk w1 n.g (ndc n nilp (hdp nilp (sl i s))) 81) (hS : Seg w1 (ptr n.g) nilp (sl i s)) (hk : ∀ g, g ≠ n.g → (∀ m ∈ sl i s, m.g ≠ g) → w1.heap[g]? = w.heap[g]?) (hsz : w1.heap.size = w.heap.size) (ho : w1.os = w.os ∧ w1.tape = w.tape ∧ w1.output = w.output) (q : Nat) :
    ∃ fl' sl', SW (((w1.setCell ⟨W, 2 + i * 65 + 1 + s, none⟩ (ptr n.g)).setCell ⟨W, 2 + i * 65, none⟩ (.int .u64 (bits BinOp.or IntKind.u64 (fl i : Int) (IntKind.u64.wrap (2 ^ s))))).drewN q) W mb c fl' sl' (n :: L) ∧
      Kp (fun g => g = W ∨ g = n.g ∨ ∃ m ∈ L, m.g = g) w (((w1.setCell ⟨W, 2 + i * 65 + 1 + s, none⟩ (ptr n.g)).setCell ⟨W, 2 + i * 65, none⟩ (.int .u64 (bits BinOp.or IntKind.u64 (fl i : Int) (IntKind.u64.wrap (2 ^ s))))).drewN q) ∧
      (((w1.setCell ⟨W, 2 + i * 65 + 1 + s, none⟩ (ptr n.g)).setCell ⟨W, 2 + i * 65, none⟩ (.int .u64 (bits BinOp.or IntKind.u64 (fl i : Int) (IntKind.u64.wrap (2 ^ s))))).drewN q).heap.size = w.heap.size := by
  obtain ⟨o1, o2, o3⟩ := or_bit (fl i) s (h.wb.lt i hi) hs
  rw [o1]
  have mL : ∀ m ∈ sl i s, m ∈ L := fun m hm => (h.of_slot hi hs hm).1
  have wb1 : WB w1 W mb c fl sl := h.wb.kept (hk W hnW.symm (fun m hm => h.nW m (mL m hm)))
  have wb2 := wb1.set i s hi hs (n :: sl i s) (fl i ||| 2 ^ s) o2 (fun t ht => by rw [o3]; simp)
  have k1 : Kp (fun g => g = W ∨ g = n.g ∨ ∃ m ∈ L, m.g = g) w w1 := ⟨ho.1, ho.2.1, ho.2.2, by omega, fun g hg hng => hk g (fun e => hng (.inr (.inl e))) (fun m hm e => hng (.inr (.inr ⟨m, mL m hm, e⟩)))⟩
  refine ⟨_, _, ⟨⟨wb2.ex, wb2.bit, wb2.lt⟩, fun j t hj ht => ?_, fun j t hj ht => ?_, ?_, ?_, ?_, h.c50⟩, ((k1.set W _ _ (fun _ => .inl rfl)).set W _ _ (fun _ => .inl rfl)).drewN q, ?_⟩
  · refine Seg.drewN ?_ q
    by_cases e : j = i ∧ t = s
    · obtain ⟨rfl, rfl⟩ := e
      rw [up_same]
      have : Seg w1 nilp nilp (n :: sl j t) := ⟨hn, hS⟩
      have hne : ∀ m ∈ n :: sl j t, m.g ≠ W := fun m hm => by
        rcases List.mem_cons.1 hm with rfl | hm
        · exact hnW
        · exact h.nW m (mL m hm)
      exact (this.set _ _ _ hne).set _ _ _ hne
    · rw [up_other _ _ _ _ e]
      have : Seg w1 nilp nilp (sl j t) := (h.seg j t hj ht).kept (fun m hm => by
        obtain ⟨m1, m2⟩ := h.of_slot hj ht hm
        refine hk m.g (hnL m m1) (fun k hk' e2 => ?_)
        obtain ⟨k1, k2⟩ := h.of_slot hi hs hk'
        have := nd_eq h.gs k1 m1 e2
        subst this
        rw [k2] at m2
        simp only [Prod.mk.injEq] at m2
        exact e ⟨m2.1.symm, m2.2.symm⟩)
      have hne : ∀ m ∈ sl j t, m.g ≠ W := fun m hm => h.nW m (h.of_slot hj ht hm).1
      exact (this.set _ _ _ hne).set _ _ _ hne
  · rw [List.filter_cons]
    by_cases e : j = i ∧ t = s
    · obtain ⟨rfl, rfl⟩ := e
      rw [up_same, if_pos (by simp [hp])]
      exact (h.mem j t hj ht).cons _
    · rw [up_other _ _ _ _ e, if_neg (by simp only [hp, decide_eq_true_eq, Prod.mk.injEq]; exact fun x => e ⟨x.1.symm, x.2.symm⟩)]
      exact h.mem j t hj ht
  · rw [List.map_cons, List.nodup_cons]
    exact ⟨fun hm => by obtain ⟨m, hm1, hm2⟩ := List.mem_map.1 hm; exact hnL m hm1 hm2, h.gs⟩
  · intro m hm
    rcases List.mem_cons.1 hm with rfl | hm
    · exact hnW
    · exact h.nW m hm
  · intro m hm
    rcases List.mem_cons.1 hm with rfl | hm
    · exact hat
    · exact h.lt m hm
  · show ((w1.setCell _ _).setCell _ _).heap.size = _
    rw [set_size, set_size, hsz]

theorem put_any (W mb c : Nat) (fl : Nat → Nat) (sl : Nat → Nat → List Nd) (L : List Nd) (n : Nd) (b0 h0 : Value) (w : World) (h : SW w W mb c fl sl L) (hn : Blk w n.g (ndc n b0 h0) 81) (hnW : n.g ≠ W) (hnL : ∀ m ∈ L, m.g ≠ n.g) (hat : n.at_ < 2 ^ 62) :
    Calls Tryd.prog 33 #[ptr W, ptr n.g] w fun e w' => e = .returned (.tuple #[]) ∧ ∃ fl' sl', SW w' W mb c fl' sl' (n :: L) ∧ Kp (fun g => g = W ∨ g = n.g ∨ ∃ m ∈ L, m.g = g) w w' ∧ w'.heap.size = w.heap.size := by
  have hc := h.c50
  have hpl := pl_lt hat (c := c) (by omega)
  have hpla := fun (W' : World) (h0 : W'.cell? ⟨W, 0, none⟩ = some (.int .i64 (c : Int))) => place_any W n.at_ c hat (by omega) W' h0
  obtain ⟨i, s, hp⟩ : ∃ i s, pl c n.at_ = (i, s) := ⟨_, _, rfl⟩
  rw [hp] at hpl hpla
  simp only at hpl hpla
  have ck := h.wb.clock
  have n1 := hn.cell 1 (.int .i64 n.at_) rfl
  have t1 := hn.thaws
  have tW := fun j => h.wb.thaw j
  have r1 := h.wb.ring _ hpl.1
  have s1 := h.wb.slot _ _ hpl.1 hpl.2
  have n2 := hn.cell 2 b0 rfl
  have n3 := hn.cell 3 h0 rfl
  have END := hide (put_end W mb c fl sl L n w)
  have H := hide h
  have HN := hide hn
  have HP := hide hp
  have HL := hide hnL
  have s64 : (s : Int) < 64 := by omega
  cases hS : sl i s with
  | nil =>
    have HS := hide hS
    rw [hS] at s1
    simp only [hdp] at s1
    clear h hn hp hnL hS
    go_enter Tryd.func33, Tryd.ntmps33
    go_wp2_with fail
    refine (hpla _ (by assumption)).mono ?_
    rintro e W1 ⟨rfl, q, rfl⟩
    go_wp2_with fail
    go_region
    go_end0
    refine ⟨rfl, ?_⟩
    have hS := unhide HS
    refine unhide END (((w.drewN q).setCell ⟨n.g, 2, none⟩ nilp).setCell ⟨n.g, 3, none⟩ nilp) (unhide H) hnW (unhide HL) hat i s (unhide HP) hpl.1 hpl.2 ?_ ?_ ?_ ?_ ⟨rfl, rfl, rfl⟩ 1
    · rw [hS]
      exact (((unhide HN).drewN q).setC 2 nilp).setC 3 nilp
    · rw [hS]; trivial
    · intro g hg _
      rw [set_heap _ _ _ _ _ hg, set_heap _ _ _ _ _ hg]
      rfl
    · rw [set_size, set_size]; rfl
  | cons m t =>
    have HS := hide hS
    have mS : m ∈ sl i s := by rw [hS]; simp
    have mL := (h.of_slot hpl.1 hpl.2 mS).1
    have mn := hnL m mL
    have mW := h.nW m mL
    have seg := h.seg i s hpl.1 hpl.2
    rw [hS] at s1 seg
    simp only [hdp] at s1
    have bm := seg.1
    have m2 := bm.cell 2 nilp rfl
    have tm := bm.thaws
    have SEG := hide seg
    clear h hn hp hnL hS seg bm mS mL
    go_enter Tryd.func33, Tryd.ntmps33
    go_wp2_with fail
    refine (hpla _ (by assumption)).mono ?_
    rintro e W1 ⟨rfl, q, rfl⟩
    go_wp2_with fail
    go_region
    go_end0
    refine ⟨rfl, ?_⟩
    have hS := unhide HS
    have seg := unhide SEG
    have hg := (unhide H).gs
    have tl : ∀ k ∈ t, k.g ≠ m.g ∧ k.g ≠ n.g := fun k hk => by
      have kS : k ∈ sl i s := by rw [hS]; simp [hk]
      have kL := (unhide H).of_slot hpl.1 hpl.2 kS
      refine ⟨fun e => ?_, unhide HL k kL.1⟩
      have nd : ((sl i s).map Nd.g).Nodup := (((unhide H).mem i s hpl.1 hpl.2).map Nd.g).nodup_iff.2 (List.Nodup.sublist ((List.filter_sublist).map Nd.g) hg)
      rw [hS, List.map_cons, List.nodup_cons] at nd
      exact nd.1 (List.mem_map.2 ⟨k, hk, e⟩)
    refine unhide END ((((w.drewN q).setCell ⟨n.g, 2, none⟩ nilp).setCell ⟨n.g, 3, none⟩ (ptr m.g)).setCell ⟨m.g, 2, none⟩ (ptr n.g)) (unhide H) hnW (unhide HL) hat i s (unhide HP) hpl.1 hpl.2 ?_ ?_ ?_ ?_ ⟨rfl, rfl, rfl⟩ 1
    · rw [hS]
      exact ((((unhide HN).drewN q).setC 2 nilp).setC 3 (ptr m.g)).setO m.g 2 _ mn
    · rw [hS]
      refine ⟨?_, ?_⟩
      · have b1 : Blk (((w.drewN q).setCell ⟨n.g, 2, none⟩ nilp).setCell ⟨n.g, 3, none⟩ (ptr m.g)) m.g (ndc m nilp (hdp nilp t)) 81 := ((seg.1.drewN q).setO n.g 2 _ (Ne.symm mn)).setO n.g 3 _ (Ne.symm mn)
        exact b1.setC 2 (ptr n.g)
      · exact (((seg.2.drewN q).set _ _ _ (fun k hk => (tl k hk).2)).set _ _ _ (fun k hk => (tl k hk).2)).set _ _ _ (fun k hk => (tl k hk).1)
    · intro g hg hm
      rw [set_heap _ _ _ _ _ (Ne.symm (hm m (by rw [hS]; simp))), set_heap _ _ _ _ _ hg, set_heap _ _ _ _ _ hg]
      rfl
    · rw [set_size, set_size, set_size]; rfl
end Go.Proofs.YtbdjlhkgpblebaaDoor
