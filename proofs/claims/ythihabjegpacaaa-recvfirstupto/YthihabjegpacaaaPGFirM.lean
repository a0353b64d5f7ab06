/- T7G, T7H, T7I, T7M, T7N, PGFir, one text. -/
import Derived.Test.YthihabjegpacaaaT7D
import Derived.Test.YthihabjegpacaaaT7E
import Derived.Maps.AppendAt
import Derived.BigQuiet
import Derived.Deep.DeepCutAuto
import Derived.Deep.CutRange
import Derived.ProofKit
import Derived.OpenShut
import Derived.ShutString
import Derived.ChangeOld
import Derived.SizedLaws
import Derived.JoinedCond
import Derived.Deep.CondSized
namespace Go.Proofs.Ythihabjegpacaaa
set_option linter.unusedVariables false
set_option maxRecDepth 100000
set_option maxHeartbeats 1000000

theorem good_len2 {mx : Int} : ∀ {L : List Sp} {mn : Int}, Good mn mx L → (L.length : Int) ≤ max 0 (mx - mn + 1)
  | [], mn, _ => by simp; omega
  | s :: L, mn, h => by
    obtain ⟨h1, h2, h3, h4⟩ := h
    have := good_len2 h4
    simp only [List.length_cons]
    omega
theorem k_len {S : Rv} (h : RvOk S) : (S.K.length : Int) ≤ S.high := by
  have := good_len2 h.gK
  have := h.r0; have := h.rh
  omega
theorem he_len_aux {hi : Int} : ∀ (E : List He) (lo : Int), E.Pairwise (fun a b => a.till ≤ b.off) → (∀ e ∈ E, lo ≤ e.off ∧ e.p ≠ [] ∧ e.till ≤ hi) → (E.length : Int) ≤ max 0 (hi - lo)
  | [], lo, _, _ => by simp; omega
  | e :: E, lo, hp, h => by
    rw [List.pairwise_cons] at hp
    obtain ⟨h1, h2, h3⟩ := h e (List.mem_cons_self ..)
    have := he_len_aux E e.till hp.2 (fun x hx => ⟨hp.1 x hx, (h x (List.mem_cons_of_mem _ hx)).2⟩)
    have hl : 0 < e.p.length := List.length_pos_iff.2 h2
    have ht : e.till = e.off + e.p.length := rfl
    simp only [List.length_cons]
    omega
theorem he_len {S : Rv} {E : List He} (hok : RvOk S) (h : HeOk S E) : (E.length : Int) ≤ S.high := by
  have hr := hok.r0; have hh := hok.rh
  have := he_len_aux (hi := S.high) E 0 h.srt (fun e he => by
    obtain ⟨p1, p2, p3⟩ := h.pos e he
    refine ⟨p1, p2, ?_⟩
    have hl : 0 < e.p.length := List.length_pos_iff.2 p2
    have hx : e.p[e.p.length - 1]? = some (e.p[e.p.length - 1]'(by omega)) := List.getElem?_eq_getElem _
    have hT := h.is e he _ _ hx
    have hm : memB (e.off + ((e.p.length - 1 : Nat) : Int)) S.K = true := by rw [hok.kT, hT]; rfl
    have := memB_in hok.gK hm
    show e.off + (e.p.length : Int) ≤ S.high
    omega)
  omega
theorem row_high {S : Rv} (h : RvOk S) {most : Int} {n : Nat} (hn : RowN S most n) : S.read + n ≤ S.high := (rvok_read h hn).rh

/-- What has come is of the text. -/
structure OT (text : List Int) (S : Rv) : Prop where
  ok : RvOk S
  lim : S.limit = text.length
  rs : S.reset = false
  is : ∀ x y, S.T x = some y → 0 ≤ x ∧ text[x.toNat]? = some y
  fin : S.final = -1 ∨ S.final = text.length
theorem ot_new {text : List Int} (h : text.length ≤ 4611686018427387903) : OT text (newRv text.length) := ⟨rvok_new ⟨by omega, by omega⟩, rfl, rfl, fun x y h => (by cases h), .inl rfl⟩
theorem part_len {text : List Int} {a b : Nat} (hab : a ≤ b) (hb : b ≤ text.length) : ((text.drop a).take (b - a)).length = b - a := by simp; omega
theorem part_get {text : List Int} {a b i : Nat} (hi : i < b - a) : ((text.drop a).take (b - a))[i]? = text[a + i]? := by rw [List.getElem?_take, if_pos hi, List.getElem?_drop]
theorem part_b {text : List Int} {a b : Nat} (h : ∀ x ∈ text, IsB x) : ∀ x ∈ (text.drop a).take (b - a), IsB x := fun x hx => h x (List.mem_of_mem_drop (List.mem_of_mem_take hx))
theorem ot_takeE {text : List Int} {S : Rv} (h : OT text S) {a b : Nat} (hab : a ≤ b) (hb : b ≤ text.length) (fin : Bool) (hf : fin = true → b = text.length) (hN : text.length ≤ 1048576) : takeE S a (b - a) fin = 0 := by
  have hl := h.lim; have hk := h.ok.hl
  unfold takeE
  rw [if_neg (by omega), if_neg (by omega), if_neg]
  unfold againstB
  simp only [Bool.or_eq_true, Bool.and_eq_true, decide_eq_true_eq, not_or, not_and]
  refine ⟨fun q => ?_, fun q => ?_⟩
  · have := h.fin; omega
  · have := hf q; omega
theorem ot_take {text : List Int} {S : Rv} (h : OT text S) {a b : Nat} (hab : a ≤ b) (hb : b ≤ text.length) (fin : Bool) (hf : fin = true → b = text.length) (hN : text.length ≤ 1048576) (htb : ∀ x ∈ text, IsB x) :
    OT text (takeS S a ((text.drop a).take (b - a)) fin) ∧ takeS S a ((text.drop a).take (b - a)) fin = takeG S a ((text.drop a).take (b - a)) fin := by
  have hl := part_len hab hb
  have he : takeE S a ((text.drop a).take (b - a)).length fin = 0 := by rw [hl]; exact ot_takeE h hab hb fin hf hN
  have es : takeS S a ((text.drop a).take (b - a)) fin = takeG S a ((text.drop a).take (b - a)) fin := by unfold takeS; rw [if_pos he]
  refine ⟨?_, es⟩
  rw [es]
  refine ⟨rvok_take h.ok (part_b htb) he, h.lim, h.rs, fun x y hy => ?_, ?_⟩
  · have hy : (if S.reset = true then S.T else putT S.T a ((text.drop a).take (b - a))) x = some y := hy
    rw [h.rs, if_neg (by simp)] at hy
    cases hx : S.T x with
    | some z => rw [putT_some hx] at hy; cases hy; exact h.is x _ hx
    | none =>
      rw [putT_none hx] at hy
      split at hy
      · rename_i c
        rw [hl] at c
        rw [part_get (by omega)] at hy
        refine ⟨by omega, ?_⟩
        rwa [show a + (x - (a : Int)).toNat = x.toNat by omega] at hy
      · cases hy
  · show (if fin = true then (a : Int) + _ else S.final) = -1 ∨ (if fin = true then (a : Int) + _ else S.final) = _
    by_cases c : fin = true
    · rw [if_pos c, hl]; right; have := hf c; omega
    · rw [if_neg c]; exact h.fin
theorem ot_read {text : List Int} {S : Rv} (h : OT text S) {most : Int} {n : Nat} (hn : RowN S most n) : OT text (readS S n) := ⟨rvok_read h.ok hn, h.lim, h.rs, h.is, h.fin⟩
theorem ot_bytes {text : List Int} {S : Rv} (h : OT text S) {most : Int} {n : Nat} (hn : RowN S most n) : bytesT S n = (text.drop S.read.toNat).take n := by
  have hr := h.ok.r0
  have hh := row_high h.ok hn
  have hhl := h.ok.hl; have hl := h.lim
  apply List.ext_getElem?
  intro i
  by_cases hi : i < n
  · rw [bytesT_is hn.got hi, List.getElem?_take, if_pos hi, List.getElem?_drop]
    cases hx : S.T (S.read + i) with
    | none => have := hn.got i hi; rw [hx] at this; cases this
    | some y =>
      obtain ⟨q1, q2⟩ := h.is _ _ hx
      rw [show (S.read + (i : Int)).toNat = S.read.toNat + i by omega] at q2
      exact q2.symm
  · rw [List.getElem?_eq_none (by rw [bytesT_len]; omega), List.getElem?_eq_none (by simp; omega)]
theorem ot_got {text : List Int} {S : Rv} (h : OT text S) {most : Int} {n : Nat} (hn : RowN S most n) : text.take S.read.toNat ++ bytesT S n = text.take (readS S n).read.toNat := by
  have hr := h.ok.r0
  rw [ot_bytes h hn, show (readS S n).read.toNat = S.read.toNat + n by show (S.read + (n : Int)).toNat = _; omega, List.take_add]
theorem ot_rd {text : List Int} {S : Rv} (h : OT text S) : 0 ≤ S.read ∧ S.read ≤ text.length := by
  have := h.ok.r0; have := h.ok.rh; have := h.ok.hl; have := h.lim; omega
/-- Where it has ended, all is read. -/
theorem ot_end {text : List Int} {S : Rv} (h : OT text S) (he : S.ended = true) : S.read = text.length := by
  have h1 := h.ok.en he
  have := h.ok.r0
  rcases h.fin with q | q <;> omega
theorem ot_over {text : List Int} {S : Rv} (h : OT text S) (he : S.ended = true) {most : Int} {n : Nat} (hn : RowN S most n) : n = 0 := by
  have h1 := ot_end h he
  have := row_high h.ok hn
  have := h.ok.hl; have := h.lim
  omega
theorem end_stays {S : Rv} (he : S.ended = true) (n : Nat) : (readS S n).ended = true := by show (S.ended || _) = true; rw [he]; rfl
theorem ended_take {S : Rv} (off : Int) (p : List Int) (fin : Bool) : (takeS S off p fin).ended = S.ended ∧ (takeS S off p fin).read = S.read := by unfold takeS; split <;> exact ⟨rfl, rfl⟩
/-- All has come, and is read. -/
theorem ot_all {text : List Int} {S : Rv} (h : OT text S) (hN : text.length ≤ 1048576) (htb : ∀ x ∈ text, IsB x) {n : Nat} (hn : RowN (takeS S 0 text true) ((text.length : Int) + 1) n) :
    OT text (takeS S 0 text true) ∧ (readS (takeS S 0 text true) n).ended = true ∧ (readS (takeS S 0 text true) n).read = text.length ∧ (readS (takeS S 0 text true) n).final = text.length ∧ cnt (readS (takeS S 0 text true) n).K - (readS (takeS S 0 text true) n).read = 0 := by
  have ht : ((text.drop 0).take (text.length - 0)) = text := by simp
  obtain ⟨o1, e1⟩ := ot_take (a := 0) (b := text.length) h (Nat.zero_le _) (Nat.le_refl _) true (fun _ => rfl) hN htb
  rw [ht] at o1 e1
  have e1 : takeS S 0 text true = takeG S 0 text true := e1
  have o1 : OT text (takeS S 0 text true) := o1
  have hf : (takeS S 0 text true).final = text.length := by rw [e1]; show (if true = true then (0 : Int) + text.length else S.final) = _; simp
  have hall : ∀ x : Int, 0 ≤ x → x < text.length → ((takeS S 0 text true).T x).isSome = true := fun x h0 h1 => by
    rw [e1]
    show ((if S.reset = true then S.T else putT S.T 0 text) x).isSome = true
    rw [h.rs, if_neg (by simp), putT_isSome]
    right; omega
  have hh := row_high o1.ok hn
  have hhl := o1.ok.hl; have hl := o1.lim; have hr := o1.ok.r0
  have hn2 : (takeS S 0 text true).read + n = text.length := by
    rcases hn.end_ with q | q
    · omega
    · by_cases c : (takeS S 0 text true).read + n < text.length
      · have := hall _ (by omega) c
        rw [q] at this; cases this
      · omega
  have o2 := ot_read o1 hn
  have hrd : (readS (takeS S 0 text true) n).read = text.length := hn2
  have hc := cnt_read o2.ok
  have h2 := o2.ok.hl; have l2 := o2.lim
  refine ⟨o1, ?_, hrd, hf, by omega⟩
  show ((takeS S 0 text true).ended || (decide ((takeS S 0 text true).read + n = (takeS S 0 text true).final) && !(takeS S 0 text true).reset)) = true
  rw [decide_eq_true (by rw [hf]; exact hn2), o1.rs]
  simp
end Go.Proofs.Ythihabjegpacaaa

namespace Go.Proofs.Ythihabjegpacaaa
open Go.RowKit
set_option linter.unusedVariables false
set_option maxHeartbeats 1000000
set_option maxRecDepth 100000

/-- Bytes that a call collects. -/
def GB (n0 : Nat) (W : World) (v : Value) (T : List Int) : Prop := W.ownsRow n0 5 1 v T.length (T.map (Value.int .u8))
theorem gb_nil (n0 : Nat) (W : World) : GB n0 W (.slice none 0 0) [] := ⟨rfl, .inl ⟨rfl, rfl⟩⟩
theorem GB.kept {n0 : Nat} {W W' : World} {v : Value} {T : List Int} (h : GB n0 W v T) (hk : ∀ g, v.ownBlock = some g → W'.heap[g]? = W.heap[g]?) : GB n0 W' v T := by
  refine ⟨h.1, ?_⟩
  rcases h.2 with h2 | ⟨g, c, cur, e1, q1, q2, q3⟩
  · exact .inl h2
  · exact .inr ⟨g, c, cur, e1, q1, (hk g (by rw [e1]; rfl)).trans q2, q3⟩
theorem GB.own {n0 : Nat} {W : World} {v : Value} {T : List Int} (h : GB n0 W v T) {g : Nat} (e : v.ownBlock = some g) : n0 ≤ g ∧ g < W.heap.size ∧ ∃ c, W.heap[g]? = some (.cells c 5 (0, 0)) := by
  rcases h.2 with ⟨rfl, -⟩ | ⟨g', c, cur, rfl, q1, q2, -⟩
  · cases e
  · cases e; exact ⟨q1, (Array.getElem?_eq_some_iff.1 q2).1, _, q2⟩
theorem GB.rd {n0 : Nat} {W : World} {v : Value} {T : List Int} (h : GB n0 W v T) (hb : ∀ x ∈ T, IsB x) : ∃ a c, v = .slice a T.length c ∧ T.length ≤ c ∧ c ≤ 9223372036854775807 ∧ Rd W a T := by
  rcases h.2 with ⟨rfl, e2⟩ | ⟨g, c, cur, rfl, q1, q2, q3, q4, q5, q6⟩
  · have : T = [] := List.length_eq_zero_iff.1 e2
    subst this
    exact ⟨none, 0, rfl, Nat.le_refl _, by omega, hb, fun h => absurd rfl h⟩
  · refine ⟨_, c, rfl, q3, by unfold maxLen at q4; omega, hb, fun _ => ⟨g, 0, rfl, fun i hi => ?_⟩⟩
    rw [Nat.zero_add]
    unfold World.cell?
    rw [q2]
    have h1 : (cur.toList.take (T.length * 1))[i]? = (T.map (Value.int .u8))[i]? := by rw [q6]
    rw [List.getElem?_take, if_pos (by omega), Array.getElem?_toList] at h1
    simp only
    rw [h1]
    simp [List.getD, hi]
theorem gb_app {n0 : Nat} (W : World) (v : Value) (T D : List Int) (g c : Nat) (h : GB n0 W v T) (h0 : n0 ≤ W.heap.size) (hc : Blk W g (by8 D) 5) (hb : T.length + D.length ≤ 1000000000) :
    ∃ v' W', (Builtin.append_ #[22, 22] 22 #[v, .slice (some ⟨g, 0, none⟩) D.length c]).run Try.prog W = .ok v' W' ∧ GB n0 W' v' (T ++ D) ∧ W.grownBy W' v.ownBlock ∧ (v'.ownBlock = v.ownBlock ∨ v'.ownBlock = some W.heap.size) := by
  obtain ⟨i, hi, hz0, hz1, hz2⟩ := info_parts Try.infoB
  obtain ⟨v', W', hr, ho, hgr, hnil, hob⟩ := run_append_own_at (P := Try.prog) W n0 22 22 5 i _ 1 1 Try.underlying22 hi hz0 hz1 hz2 rfl (by decide) v T.length (T.map (Value.int .u8)) h ⟨g, 0, none⟩ D.length c (D.map (Value.int .u8)) (by simp) (fun j u hj => by
    rw [List.getElem?_map] at hj
    cases hx : D[j]? with
    | none => rw [hx] at hj; simp at hj
    | some x =>
      rw [hx] at hj; simp at hj; subst hj
      have : (⟨g, 0, none⟩ : Addr).add j = ⟨g, j, none⟩ := by unfold Addr.add; split <;> simp_all
      rw [this]
      exact hc.cell j _ (by8_get D j x hx)) (by intro u hu; obtain ⟨x, -, rfl⟩ := List.mem_map.1 hu; rfl) (by unfold maxLen; omega) (by omega) h0
  have e2 : (T ++ D).length = T.length + D.length := by simp
  have ho' : GB n0 W' v' (T ++ D) := by unfold GB; rw [e2, List.map_append]; exact ho
  exact ⟨v', W', hr, ho', hgr, hob⟩

/-- A Recv with all its blocks (M), beside what was made for the caller. -/
structure RM (w X : World) (b : Nat) (M : Nat → Prop) (S : Rv) : Prop where
  ra : ∃ bk vh E, RA X M b bk vh E X S ∧ HeOk S E
  mw : ∀ k, M k → w.heap.size ≤ k
  ml : ∀ k, M k → k < X.heap.size
  gr : w.grownBy X none
/-- What its calls leave. -/
structure RmTo (w X : World) (M : Nat → Prop) (b : Nat) (S' : Rv) (Y : World) (M' : Nat → Prop) : Prop where
  rm : RM w Y b M' S'
  kp : Kp M X Y
  out : ∀ k, k < X.heap.size → ¬ M k → ¬ M' k
theorem rm_base {w X Y : World} {b bk : Nat} {M : Nat → Prop} {vh : Value} {E : List He} {S : Rv} (hw : w.grownBy X none) (hm : ∀ k, M k → w.heap.size ≤ k) (h : RA X M b bk vh E Y S) (hE : HeOk S E) : RmTo w X M b S Y (fun k => (M k ∨ X.heap.size ≤ k) ∧ k < Y.heap.size) := by
  have g := h.rebase (World.grownBy.refl Y none)
  refine ⟨⟨⟨bk, vh, E, g, hE⟩, ?_, fun k hk => hk.2, ?_⟩, h.kp, fun k h1 h2 hk => ?_⟩
  · rintro k ⟨h1 | h1, -⟩
    · exact hm k h1
    · exact Nat.le_trans hw.size h1
  · exact ⟨h.kp.os.trans hw.os, h.kp.tape.trans hw.tape, h.kp.output.trans hw.output, Nat.le_trans hw.size h.kp.size, fun i hi _ => (h.kp.block i (Nat.lt_of_lt_of_le hi hw.size) (fun q => by have := hm i q; omega)).trans (hw.block i hi (by simp))⟩
  · rcases hk.1 with q | q
    · exact h2 q
    · omega
theorem rm_new {w X : World} {limit : Int} (g : w.grownBy X none) (hc : 0 ≤ limit ∧ limit ≤ 4611686018427387903) : Calls Try.prog 7 #[.int .i64 limit] X fun e Y => ∃ b M, e = .returned (.tuple #[ptr b, .int .i64 0]) ∧ RM w Y b M (newRv limit) :=
  (new_at limit X hc).mono fun e Y ⟨b, bk, he, h⟩ => ⟨b, _, he, (rm_base g (fun k q => absurd q (fun q => q)) h (heok_new limit)).rm⟩
theorem rm_out {w X : World} {b : Nat} {M : Nat → Prop} {S : Rv} (h : RM w X b M S) {a : Option Addr} {p : List Int} (hr : Rd w a p) : Out X M a p := fun hne pb off e => by
  obtain ⟨b', off', e', hc'⟩ := hr.2 hne
  have hpos : 0 < p.length := List.length_pos_iff.2 hne
  have hlt : b' < w.heap.size := World.block_lt_of_cell? _ _ (hc' 0 hpos)
  rw [e] at e'
  cases e'
  exact ⟨fun q => by have := h.mw _ q; omega, Nat.lt_of_lt_of_le hlt h.gr.size⟩
theorem rm_take {w X : World} {b : Nat} {M : Nat → Prop} {S : Rv} (h : RM w X b M S) (hok : RvOk S) (hl : S.limit ≤ 1048576) (off : Int) (a : Option Addr) (n pc : Nat) (fin : Bool) (p : List Int) (hr : Rd w a p) (hn : p.length = n) (hpc : n ≤ pc ∧ pc ≤ 9223372036854775807) (hnn : n ≤ 1048576) :
    Calls Try.prog 9 #[ptr b, .int .i64 off, .slice a n pc, .bool fin] X fun e Y => e = .returned (.tuple #[.int .i64 (takeN S off n fin), .int .i64 (takeE S off n fin)]) ∧ ∃ M', RmTo w X M b (takeS S off p fin) Y M' := by
  obtain ⟨bk, vh, E, hA, hE⟩ := h.ra
  have h1 := he_len hok hE; have h2 := k_len hok; have h3 := hok.hl
  exact (take_at hA hok hE (by omega) (by omega) off a n pc fin p (hr.grow h.gr) (rm_out h hr) hn hpc (by omega)).mono fun e Y ⟨he, vh', E', q1, q2, q3⟩ => ⟨he, _, rm_base h.gr h.mw q1 q2⟩
theorem rm_read {w X : World} {b : Nat} {M : Nat → Prop} {S : Rv} (h : RM w X b M S) (hok : RvOk S) (hl : S.limit ≤ 1048576) (most : Int) (hm : -9223372036854775808 ≤ most ∧ most ≤ 9223372036854775807) :
    Calls Try.prog 10 #[ptr b, .int .i64 most] X fun e Y => ∃ n g M', e = .returned (.tuple #[.slice (some ⟨g, 0, none⟩) n n, .bool (readS S n).ended]) ∧ RowN S most n ∧ Blk Y g (by8 (bytesT S n)) 5 ∧ X.heap.size ≤ g ∧ ¬ M' g ∧ RmTo w X M b (readS S n) Y M' := by
  obtain ⟨bk, vh, E, hA, hE⟩ := h.ra
  have h1 := he_len hok hE; have h3 := hok.hl
  refine (read_at hA hok hE (by omega) most hm (fun n q => by have := row_high hok q; have := hok.r0; omega)).mono fun e Y ⟨n, g, he, q⟩ => ?_
  obtain ⟨W1, vh', E', g1, l1, l2, r1, e1, -⟩ := q.ra
  have z := rm_base (w := w) (X := W1) (grown_trans h.gr g1) (fun k hk => h.mw k (hk.1.resolve_right (by omega))) r1 e1
  refine ⟨n, g, _, he, q.row, q.blk, l1, fun hk => ?_, z.rm, ?_, fun k hk hn hq => ?_⟩
  · rcases hk.1 with q | q
    · omega
    · omega
  · refine ⟨r1.kp.os.trans g1.os, r1.kp.tape.trans g1.tape, r1.kp.output.trans g1.output, Nat.le_trans g1.size r1.kp.size, fun k hk hn => ?_⟩
    exact (r1.kp.block k (Nat.lt_of_lt_of_le hk g1.size) (fun q => hn (q.1.resolve_right (by omega)))).trans (g1.block k hk (by simp))
  · have := g1.size
    rcases hq.1 with q | q
    · exact hn (q.1.resolve_right (by omega))
    · omega
/-- What is no block of it may be written. -/
theorem RM.other {w X Y : World} {b : Nat} {M D : Nat → Prop} {S : Rv} (h : RM w X b M S) (k : Kp D X Y) (hM : ∀ g, M g → ¬ D g) (hD : ∀ g, D g → w.heap.size ≤ g) : RM w Y b M S := by
  obtain ⟨bk, vh, E, hA, hE⟩ := h.ra
  exact ⟨⟨bk, vh, E, hA.keep k hM, hE⟩, h.mw, fun g q => Nat.lt_of_lt_of_le (h.ml g q) k.size, ⟨k.os.trans h.gr.os, k.tape.trans h.gr.tape, k.output.trans h.gr.output, Nat.le_trans h.gr.size k.size, fun i hi _ => (k.block i (Nat.lt_of_lt_of_le hi h.gr.size) (fun q => by have := hD i q; omega)).trans (h.gr.block i hi (by simp))⟩⟩
theorem RM.grown {w X Y : World} {b : Nat} {M : Nat → Prop} {S : Rv} (h : RM w X b M S) (g : X.grownBy Y none) : RM w Y b M S := h.other (Kp.grown g (fun _ => False)) (fun _ _ q => q) (fun _ q => q.elim)
theorem RmTo.gb {w X Y : World} {M M' : Nat → Prop} {b n0 : Nat} {S' : Rv} (h : RmTo w X M b S' Y M') {v : Value} {T : List Int} (g : GB n0 X v T) (hn : ∀ k, v.ownBlock = some k → ¬ M k) : GB n0 Y v T ∧ ∀ k, v.ownBlock = some k → ¬ M' k :=
  ⟨g.kept fun k e => h.kp.block k (g.own e).2.1 (hn k e), fun k e => h.out k (g.own e).2.1 (hn k e)⟩

/-- A part of a text that came in. -/
theorem sl_part {ta : Option Addr} {tn tc : Nat} (a b : Nat) (hab : a ≤ b) (hb : b ≤ tc) : ∃ a', (∀ W : World, (Instr.sliceAt 22 (.slice ta tn tc) (some (.int .i64 (a : Int))) (some (.int .i64 (b : Int))) none).run Try.prog W = .ok (.slice a' (b - a) (tc - a)) W) ∧ ∀ (W : World) (text : List Int), b ≤ text.length → Rd W ta text → Rd W a' ((text.drop a).take (b - a)) := by
  refine ⟨if tc = a then ta else ta.map (·.add (a * 1)), fun W => ?_, fun W text hl hr => ⟨part_b hr.1, fun hne => ?_⟩⟩
  · have e : Try.prog.elem 22 = 5 := by kernel_rfl
    have ht : Try.prog.underlying 22 = some (.slice (Try.prog.elem 22)) := by rw [e]; exact Try.underlying22
    rw [run_sliceAt_slice _ _ _ _ _ _ ht, run_slice_lh _ _ _ _ _ ht _ _ _ _ (by omega) (by omega) (by omega)]
    obtain ⟨i, hi, hz, hs, hb'⟩ := info_parts Try.infoB
    have : (sizeOf (Try.prog.elem 22)).run Try.prog W = .ok 1 W := by
      rw [e]
      simp [sizeOf, typeInfo, hi, hs]
    rw [this]
    simp [Result.andThen, sliced]
  · have hp := part_len (text := text) hab hl
    have hpos : 0 < b - a := by rw [← hp]; exact List.length_pos_iff.2 hne
    obtain ⟨g, off, rfl, hc⟩ := hr.2 (fun e => by rw [e] at hl; simp at hl; omega)
    refine ⟨g, off + a, ?_, fun i hi => ?_⟩
    · rw [if_neg (by omega)]
      simp only [Option.map_some, Addr.add_lit, Nat.mul_one]
    · rw [hp] at hi
      have := hc (a + i) (by omega)
      rw [← Nat.add_assoc] at this
      rw [this]
      simp [List.getD, part_get hi]
theorem wpList_slice_run {P : Program} {ops : Array Oper} {rest : List Oper} {o : Oper} {a : Act} {Q : Exit → Act → World → Prop} (w : World) (hgd : o.guard = none) (t : TypeId) (x lo hi : Operand) (ho : o.op = .slice t x (some lo) (some hi) none) (v vl vh : Value)
    (hx : a.eval x = v) (hl : a.eval lo = vl) (hh : a.eval hi = vh) {v' : Value} (hr : (Instr.sliceAt t v (some vl) (some vh) none).run P w = .ok v' w) (h : wpList P ops Q rest (a.put o.dst v') w) : wpList P ops Q (o :: rest) a w :=
  wpList_plain hgd fun K hK => by
    unfold Oper.wp
    simp [execOp, ho, hx, hl, hh, hr, Result.andThen]
    exact hK _ _ h
end Go.Proofs.Ythihabjegpacaaa

namespace Go.Proofs.Ythihabjegpacaaa
open Go.ChangeShapes Go.WideShapes Go.ChangeAt Go.RowKit
set_option linter.unusedVariables false
set_option maxRecDepth 100000
set_option maxHeartbeats 1000000

structure PiE where
  at_ : Int
  end_ : Int
  most : Int
structure PiE.Ok (x : PiE) : Prop where
  a : i64B x.at_
  e : i64B x.end_
  m : i64B x.most
def PiE.cs (x : PiE) : List Value := [.int .i64 x.at_, .int .i64 x.end_, .int .i64 x.most]
structure IsPcs (w : World) (a : Option Addr) (len cap : Nat) (ol : List PiE) : Prop where
  hlen : ol.length = len
  hcap : len ≤ cap ∧ cap ≤ 9223372036854775807
  ok : ∀ x ∈ ol, x.Ok
  cell : len = 0 ∨ ∃ b off, a = some ⟨b, off, none⟩ ∧ ∀ i x, ol[i]? = some x → ∀ j v, x.cs[j]? = some v → w.cell? ⟨b, off + i * 3 + j, none⟩ = some v

section
variable {H : Type} {enc : TypeId × Value → H} {w : World} {base : Nat} {spare : Nat → Bool} {held : Bool}
theorem pc_cells {n : Nat} {cs : List Value} {y : DataW H × List MemPlace} (h2 : DataW.trod enc Try.prog w base spare held n 31 cs = some y) (hl : cs.length = 3) : ∃ x : PiE, x.Ok ∧ cs = x.cs := by
  obtain ⟨xs, m, hk, hxy, hcl, hxl, hf⟩ := DataW.trod_struct Try.underlying31 h2
  have c3 : Try.prog.cellsOf 3 = 1 := by kernel_rfl
  match xs, hxl, cs, hl with
  | [y0, y1, y2], _, [v0, v1, v2], _ =>
    have f0 := hf 0 _ rfl
    have f1 := hf 1 _ rfl
    have f2 := hf 2 _ rfl
    simp [c3] at f0 f1 f2
    obtain ⟨k, e0, _, r0⟩ := DataW.trod_int Try.underlying3 f0
    obtain ⟨o, e1, _, r1⟩ := DataW.trod_int Try.underlying3 f1
    obtain ⟨i, e2, _, r2⟩ := DataW.trod_int Try.underlying3 f2
    simp only [List.cons.injEq, and_true] at e0 e1 e2
    subst e0 e1 e2
    exact ⟨⟨k, o, i⟩, ⟨wf_i64 r0, wf_i64 r1, wf_i64 r2⟩, rfl⟩
theorem open_pcs {a : Option Addr} {len cap fuel : Nat} {x : DataW H × List MemPlace} (hf : DataW.trod enc Try.prog w base spare held fuel 23 [.slice a len cap] = some x) (hb : Rows.uptoBulk x.1 ≤ 1048576) : ∃ ol, IsPcs w a len cap ol ∧ len ≤ 1048576 := by
  have c7 : Try.prog.cellsOf 31 = 3 := by kernel_rfl
  rcases Go.Deep.open_slice Try.underlying23 hf with ⟨hcs, _⟩ | ⟨ad, l, c, m, n, D, Pl, hcs, _, hl, hm, hmm, hxe, hx⟩
  · simp at hcs
    obtain ⟨rfl, rfl, rfl⟩ := hcs
    exact ⟨[], ⟨rfl, by omega, by simp, .inl rfl⟩, by omega⟩
  · simp at hcs
    obtain ⟨rfl, rfl, rfl⟩ := hcs
    have hlm : len ≤ m := by rw [hmm]; split <;> omega
    have hx1 : x.1 = .slice ((List.range len).map D) ((List.range (m - len)).map fun j => D (len + j)) := by rw [hxe]
    rw [hx1] at hb
    have tl : len ≤ 1048576 := by
      have := bulk_slice (H := H) ((List.range len).map D) ((List.range (m - len)).map fun j => D (len + j))
      simp only [List.length_map, List.length_range] at this
      omega
    have each : ∀ i, i < len → ∃ x : PiE, x.Ok ∧ ∀ j v, x.cs[j]? = some v → w.cell? (ad.add (i * 3) |>.add j) = some v := fun i hi => by
      obtain ⟨cs', h1, h2⟩ := hx i (by omega)
      rw [c7] at h1
      obtain ⟨_, hlen, hcell⟩ := World.cells?_some h1
      obtain ⟨x, ok, rfl⟩ := pc_cells h2 hlen
      exact ⟨x, ok, fun j v hj => by rw [hcell j (by have := (List.getElem?_eq_some_iff.1 hj).1; simpa [PiE.cs] using this)]; exact hj⟩
    obtain ⟨ol, hol, hP⟩ := list_gen len each
    refine ⟨ol, ⟨hol, ⟨hl, by unfold maxLen at hm; omega⟩, fun x hx => ?_, ?_⟩, tl⟩
    · obtain ⟨i, hi⟩ := List.getElem?_of_mem hx
      exact (hP i x hi).1
    · by_cases h0 : len = 0
      · exact .inl h0
      · right
        obtain ⟨x, ok, hc⟩ := each 0 (by omega)
        have hs : ad.spot = none := by
          have := hc 0 _ rfl
          rw [Nat.zero_mul, add_0, add_0] at this
          exact spot_none this
        obtain ⟨bb, off, sp⟩ := ad
        simp only at hs
        subst hs
        refine ⟨bb, off, rfl, fun i x hi => ?_⟩
        intro j v hj
        have := (hP i x hi).2 j v hj
        simpa only [Addr.add_lit] using this
end

def PickN (n : Nat) (w : World) (e : Ending) (w' : World) : Prop := ∃ k : Nat, e = .returned (.int .i64 (k : Int)) ∧ k < n ∧ w' = w
theorem pickN (c : Int) (n : Nat) (w : World) (hc : i64B c) (hn : 0 < n) (hn2 : n ≤ 4611686018427387903) : Calls Try.prog 8 #[.int .i64 c, .int .i64 (n : Int)] w (PickN n w) := by
  obtain ⟨hc1, hc2⟩ := hc
  have nz : ¬ (n : Int) = 0 := by omega
  by_cases h : c < 0
  · have d : decide (c < 0) = true := decide_eq_true h
    have w1 : IntKind.i64.wrap (c + 1) = c + 1 := by rw [IntKind.wrap_i64]; omega
    have w2 : IntKind.i64.wrap (-(c + 1)) = -(c + 1) := by rw [IntKind.wrap_i64]; omega
    obtain ⟨m, hm⟩ : ∃ m : Nat, -(c + 1) = (m : Int) := ⟨(-(c + 1)).toNat, by omega⟩
    have ht : Int.tmod (-(c + 1)) (n : Int) = ((m % n : Nat) : Int) := by rw [hm, ← Int.ofNat_tmod]
    have HM := hide hm
    clear hm
    have hk : m % n < n := Nat.mod_lt _ hn
    generalize m % n = k at *
    have w3 : IntKind.i64.wrap (k : Int) = (k : Int) := by rw [IntKind.wrap_i64]; omega
    have HK := hide hk
    clear hk hn2
    go_enter Try.func8, Try.ntmps8
    go_wp2
    all_goals go_ret
    all_goals exact ⟨k, by simp [*], unhide HK, rfl⟩
  · have d : decide (c < 0) = false := decide_eq_false h
    obtain ⟨m, hm⟩ : ∃ m : Nat, c = (m : Int) := ⟨c.toNat, by omega⟩
    have ht : Int.tmod c (n : Int) = ((m % n : Nat) : Int) := by rw [hm, ← Int.ofNat_tmod]
    have HM := hide hm
    clear hm
    have hk : m % n < n := Nat.mod_lt _ hn
    generalize m % n = k at *
    have w3 : IntKind.i64.wrap (k : Int) = (k : Int) := by rw [IntKind.wrap_i64]; omega
    have HK := hide hk
    clear hk hn2
    go_enter Try.func8, Try.ntmps8
    go_wp2
    all_goals go_ret
    all_goals exact ⟨k, by simp [*], unhide HK, rfl⟩
end Go.Proofs.Ythihabjegpacaaa

namespace Go.Proofs.Ythihabjegpacaaa
open Go.RowKit
set_option linter.unusedVariables false
set_option maxRecDepth 100000
set_option maxHeartbeats 1000000

/-- What want and there tell of what has come: T. -/
structure Lk (N : Nat) (T : Int → Option Int) (WL : List Int) (TL : List Bool) : Prop where
  lw : WL.length = N
  lt : TL.length = N
  at_ : ∀ i : Nat, i < N → TL[i]? = some (T i).isSome
  is : ∀ (i : Nat) y, i < N → T i = some y → WL[i]? = some y
  wb : ∀ x ∈ WL, IsB x
/-- A Recv of which no end was told, and nothing was read. -/
structure F0 (N : Nat) (S : Rv) : Prop where
  ok : RvOk S
  lim : S.limit = N
  fin : S.final = -1
  rs : S.reset = false
  rd : S.read = 0
  en : S.ended = false
theorem f0_new {N : Nat} (h : N ≤ 1048576) : F0 N (newRv N) := ⟨rvok_new ⟨by omega, by omega⟩, rfl, rfl, rfl, rfl, rfl⟩
theorem lk_new (N : Nat) : Lk N (newRv N).T (List.replicate N 0) (List.replicate N false) := ⟨by simp, by simp, fun i hi => by simp [newRv, hi], fun i y hi h => by simp [newRv] at h, fun x hx => by rw [List.mem_replicate] at hx; rw [hx.2]; exact ⟨by decide, by decide⟩⟩
theorem f0_takeE {N : Nat} {S : Rv} (h : F0 N S) {x y : Nat} (hxy : x ≤ y) (hy : y ≤ N) (hN : N ≤ 1048576) : takeE S x (y - x) false = 0 := by
  have hl := h.lim; have hf := h.fin
  unfold takeE
  rw [if_neg (by omega), if_neg (by omega), if_neg]
  unfold againstB
  simp only [Bool.or_eq_true, Bool.and_eq_true, decide_eq_true_eq, not_or, not_and]
  exact ⟨fun q => by omega, fun q => by cases q⟩
theorem f0_take {N : Nat} {S : Rv} (h : F0 N S) {F : List Int} (hF : N ≤ F.length) (hb : ∀ z ∈ F, IsB z) {x y : Nat} (hxy : x ≤ y) (hy : y ≤ N) (hN : N ≤ 1048576) :
    F0 N (takeS S x ((F.drop x).take (y - x)) false) ∧ ∀ i : Nat, (takeS S x ((F.drop x).take (y - x)) false).T i = if x ≤ i ∧ i < y then (match S.T i with | some z => some z | none => F[i]?) else S.T i := by
  have hl := part_len (text := F) hxy (by omega)
  have he : takeE S x ((F.drop x).take (y - x)).length false = 0 := by rw [hl]; exact f0_takeE h hxy hy hN
  have es : takeS S x ((F.drop x).take (y - x)) false = takeG S x ((F.drop x).take (y - x)) false := by unfold takeS; rw [if_pos he]
  rw [es]
  refine ⟨⟨rvok_take h.ok (part_b hb) he, h.lim, h.fin, h.rs, h.rd, h.en⟩, fun i => ?_⟩
  show (if S.reset = true then S.T else putT S.T x ((F.drop x).take (y - x))) i = _
  rw [h.rs, if_neg (by simp)]
  cases hx : S.T i with
  | some z => rw [putT_some hx]; split <;> rfl
  | none =>
    rw [putT_none hx, hl]
    by_cases c : x ≤ i ∧ i < y
    · rw [if_pos c, if_pos (by omega), part_get (by omega)]
      show F[x + ((i : Int) - (x : Int)).toNat]? = F[i]?
      rw [show x + ((i : Int) - (x : Int)).toNat = i by omega]
    · rw [if_neg c, if_neg (by omega)]
/-- Half way: from x up to k what was there is there, and the new bytes. -/
def midT (T : Int → Option Int) (F : List Int) (x k : Nat) (i : Int) : Option Int := if (x : Int) ≤ i ∧ i < (k : Int) then (match T i with | some z => some z | none => F[i.toNat]?) else T i
theorem mid_start (T : Int → Option Int) (F : List Int) (x : Nat) : midT T F x x = T := by funext i; unfold midT; rw [if_neg (by omega)]
theorem lk_ext {N : Nat} {T T' : Int → Option Int} {WL : List Int} {TL : List Bool} (h : Lk N T WL TL) (e : ∀ i : Nat, i < N → T i = T' i) : Lk N T' WL TL := ⟨h.lw, h.lt, fun i hi => by rw [← e i hi]; exact h.at_ i hi, fun i y hi hy => h.is i y hi (by rw [e i hi]; exact hy), h.wb⟩
theorem mid_end {N : Nat} {S : Rv} (h : F0 N S) {F : List Int} (hF : N ≤ F.length) (hb : ∀ z ∈ F, IsB z) {x y : Nat} (hxy : x ≤ y) (hy : y ≤ N) (hN : N ≤ 1048576) {WL : List Int} {TL : List Bool} (k : Lk N (midT S.T F x y) WL TL) : Lk N (takeS S x ((F.drop x).take (y - x)) false).T WL TL := by
  refine lk_ext k fun i hi => ?_
  rw [(f0_take h hF hb hxy hy hN).2 i]
  unfold midT
  by_cases c : x ≤ i ∧ i < y
  · rw [if_pos (by omega), if_pos c]; rfl
  · rw [if_neg (by omega), if_neg c]
/-- It was there: nothing is to be done. -/
theorem mid_was {N : Nat} {T : Int → Option Int} {F : List Int} {x k : Nat} {WL : List Int} {TL : List Bool} (h : Lk N (midT T F x k) WL TL) (hk : k < N) (ht : TL[k]? = some true) : Lk N (midT T F x (k + 1)) WL TL := by
  refine lk_ext h fun i hi => ?_
  by_cases c : i = k
  · subst c
    have q := h.at_ i hk
    rw [ht] at q
    have e1 : midT T F x i i = T i := by unfold midT; rw [if_neg (by omega)]
    rw [e1] at q ⊢
    cases hT : T i with
    | none => rw [hT] at q; simp at q
    | some z => unfold midT; rw [hT]; split <;> rfl
  · unfold midT
    by_cases c2 : (x : Int) ≤ (i : Int) ∧ (i : Int) < (k : Int)
    · rw [if_pos c2, if_pos (by omega)]
    · rw [if_neg c2, if_neg (by omega)]
theorem mid_new {N : Nat} {T : Int → Option Int} {F : List Int} (hF : N ≤ F.length) (hb : ∀ z ∈ F, IsB z) {x k : Nat} {WL : List Int} {TL : List Bool} (h : Lk N (midT T F x k) WL TL) (hk : k < N) (hx : x ≤ k) (ht : TL[k]? = some false) (f : Int) (hf : F[k]? = some f) : Lk N (midT T F x (k + 1)) (WL.set k f) (TL.set k true) := by
  have e1 : midT T F x k k = T k := by unfold midT; rw [if_neg (by omega)]
  have hT : T k = none := by
    have q := h.at_ k hk
    rw [ht, e1] at q
    cases hT : T k with
    | none => rfl
    | some z => rw [hT] at q; simp at q
  have e2 : midT T F x (k + 1) k = some f := by
    unfold midT
    rw [if_pos (by omega), hT]
    show F[((k : Int)).toNat]? = some f
    rw [Int.toNat_natCast]; exact hf
  have eo : ∀ i : Nat, i ≠ k → midT T F x (k + 1) i = midT T F x k i := fun i hi => by
    unfold midT
    by_cases c2 : (x : Int) ≤ (i : Int) ∧ (i : Int) < (k : Int)
    · rw [if_pos c2, if_pos (by omega)]
    · rw [if_neg c2, if_neg (by omega)]
  refine ⟨by rw [List.length_set]; exact h.lw, by rw [List.length_set]; exact h.lt, fun i hi => ?_, fun i y hi hy => ?_, fun z hz => ?_⟩
  · by_cases c : i = k
    · subst c; rw [e2]; simp [h.lt, hi]
    · rw [eo i c, List.getElem?_set_ne (fun e => c e.symm)]; exact h.at_ i hi
  · by_cases c : i = k
    · subst c; rw [e2] at hy; cases hy; simp [h.lw, hi]
    · rw [eo i c] at hy; rw [List.getElem?_set_ne (fun e => c e.symm)]; exact h.is i y hi hy
  · rcases List.mem_or_eq_of_mem_set hz with q | q
    · exact h.wb z q
    · rw [q]; exact hb f (List.mem_of_getElem? hf)
/-- All has come: Read tells it. -/
theorem lk_end {N : Nat} {S : Rv} (h : F0 N S) {WL : List Int} {TL : List Bool} (k : Lk N S.T WL TL) (hall : ∀ i : Nat, i < N → (S.T i).isSome = true) {n : Nat} (hn : RowN S (N : Int) n) : n = N ∧ bytesT S n = WL ∧ (readS S n).ended = false := by
  have hrd := h.rd
  have hh := row_high h.ok hn
  have hl := h.ok.hl; have hlm := h.lim
  have hnN : n = N := by
    rcases hn.end_ with q | q
    · omega
    · by_cases c : n < N
      · have := hall n c
        rw [hrd, Int.zero_add] at q
        rw [q] at this; cases this
      · omega
  subst hnN
  refine ⟨rfl, ?_, ?_⟩
  · apply List.ext_getElem?
    intro i
    by_cases hi : i < n
    · rw [bytesT_is hn.got hi, hrd, Int.zero_add]
      cases hT : S.T i with
      | none => have := hall i hi; rw [hT] at this; cases this
      | some y => exact (k.is i y hi hT).symm
    · rw [List.getElem?_eq_none (by rw [bytesT_len]; omega), List.getElem?_eq_none (by rw [k.lw]; omega)]
  · show (S.ended || (decide (S.read + n = S.final) && !S.reset)) = false
    rw [h.en, h.fin, hrd, decide_eq_false (by omega)]; rfl
theorem all_last {N : Nat} {S : Rv} (h : F0 N S) {F : List Int} (hF : N ≤ F.length) (hb : ∀ z ∈ F, IsB z) (hN : N ≤ 1048576) {x y : Nat} (hx : x = 0) (hy : y = N) : ∀ i : Nat, i < N → ((takeS S x ((F.drop x).take (y - x)) false).T i).isSome = true := fun i hi => by
  rw [(f0_take h hF hb (by omega) (by omega) hN).2 i, if_pos (by omega)]
  cases S.T i with
  | some z => rfl
  | none => simp [List.getElem?_eq_getElem (show i < F.length by omega)]

/-- Booleans in memory. -/
def bbs (l : List Bool) : Array Value := (l.map Value.bool).toArray
theorem bbs_get (l : List Bool) (i : Nat) (x : Bool) (h : l[i]? = some x) : (bbs l)[i]? = some (.bool x) := by simp [bbs, h]
theorem bbs_set (l : List Bool) (i : Nat) (x : Bool) : bbs (l.set i x) = (bbs l).setIfInBounds i (.bool x) := by simp [bbs, List.map_set]
theorem by8_set (l : List Int) (i : Nat) (x : Int) : by8 (l.set i x) = (by8 l).setIfInBounds i (.int .u8 x) := by simp [by8, List.map_set]
theorem Try.info4 : (Try.prog.info? 4).map (fun i => (i.zero, i.size, i.bytes)) = some (some (.bool false), 1, 1) := by kernel_rfl
theorem mk_bools (n : Nat) (h : n ≤ 281474976710656) (W : World) : (Instr.makeSlice 49 (.int .i64 (n : Int)) (.int .i64 (n : Int))).run Try.prog W = .ok (.slice (some ⟨W.heap.size, 0, none⟩) n n) (W.alloc (.cells (bbs (List.replicate n false)) 4)) := by
  obtain ⟨i, hi, hz, hs, hb⟩ := info_parts Try.info4
  have := run_make (P := Try.prog) W 49 4 i (.bool false) Try.underlying49 hi hz .i64 .i64 n n (by omega) (by omega) (by rw [hb]; omega) (by omega)
  rw [hs] at this
  have e : madeCells (Value.bool false).cells ((n : Int).toNat * 1) = bbs (List.replicate n false) := by
    have e1 : (Value.bool false).cells = #[Value.bool false] := rfl
    rw [e1]
    apply Array.ext_getElem?
    intro j
    by_cases hj : j < n
    · simp [madeCells, bbs, hj, Nat.mod_one]
    · simp [madeCells, bbs, hj]
  rw [e] at this
  exact this

/-- All of RecvFirst in memory. -/
structure FW (w X : World) (b gw gt : Nat) (M : Nat → Prop) (S : Rv) (WL : List Int) (TL : List Bool) : Prop where
  rm : RM w X b M S
  bw : Blk X gw (by8 WL) 5
  bt : Blk X gt (bbs TL) 4
  nw : ¬ M gw
  nt : ¬ M gt
  gw0 : w.heap.size ≤ gw
  gt0 : w.heap.size ≤ gt
theorem FW.there {w X : World} {b gw gt : Nat} {M : Nat → Prop} {S : Rv} {WL : List Int} {TL : List Bool} (h : FW w X b gw gt M S WL TL) (j : Nat) (x : Bool) : FW w (X.setCell ⟨gt, j, none⟩ (.bool x)) b gw gt M S WL (TL.set j x) := by
  have ne : gt ≠ gw := fun e => by have h1 := h.bt; have h2 := h.bw; rw [e] at h1; have := (show X.heap[gw]? = _ from h1).symm.trans (show X.heap[gw]? = _ from h2); simp at this
  exact ⟨h.rm.other (D := fun k => k = gt) ((Kp.refl _ X).set gt j _ (fun _ => rfl)) (fun g hg e => h.nt (e ▸ hg)) (fun g e => by rw [e]; exact h.gt0), Blk.setO h.bw gt j _ ne, by rw [bbs_set]; exact Blk.setC h.bt j _, h.nw, h.nt, h.gw0, h.gt0⟩
theorem FW.want {w X : World} {b gw gt : Nat} {M : Nat → Prop} {S : Rv} {WL : List Int} {TL : List Bool} (h : FW w X b gw gt M S WL TL) (j : Nat) (x : Int) : FW w (X.setCell ⟨gw, j, none⟩ (.int .u8 x)) b gw gt M S (WL.set j x) TL := by
  have ne : gw ≠ gt := fun e => by have h1 := h.bt; have h2 := h.bw; rw [e] at h2; have := (show X.heap[gt]? = _ from h1).symm.trans (show X.heap[gt]? = _ from h2); simp at this
  exact ⟨h.rm.other (D := fun k => k = gw) ((Kp.refl _ X).set gw j _ (fun _ => rfl)) (fun g hg e => h.nw (e ▸ hg)) (fun g e => by rw [e]; exact h.gw0), by rw [by8_set]; exact Blk.setC h.bw j _, Blk.setO h.bt gw j _ ne, h.nw, h.nt, h.gw0, h.gt0⟩
theorem fw_take {w X : World} {b gw gt : Nat} {M : Nat → Prop} {S : Rv} {WL : List Int} {TL : List Bool} (h : FW w X b gw gt M S WL TL) {N : Nat} (h0 : F0 N S) (hN : N ≤ 1048576) {F : List Int} (hF : N ≤ F.length) {x y : Nat} (hxy : x ≤ y) (hy : y ≤ N) (a' : Option Addr) (pc : Nat) (hr : Rd w a' ((F.drop x).take (y - x))) (hpc : y - x ≤ pc ∧ pc ≤ 9223372036854775807) :
    Calls Try.prog 9 #[ptr b, .int .i64 (x : Int), .slice a' (y - x) pc, .bool false] X fun e Y => ∃ u, e = .returned (.tuple #[.int .i64 u, .int .i64 0]) ∧ ∃ M', FW w Y b gw gt M' (takeS S x ((F.drop x).take (y - x)) false) WL TL := by
  have hl := part_len (text := F) hxy (by omega)
  refine (rm_take h.rm h0.ok (by rw [h0.lim]; omega) x a' (y - x) pc false _ hr hl hpc (by omega)).mono fun e Y ⟨he, M', z⟩ => ⟨takeN S x (y - x) false, ?_, M', z.rm, (z.kp.block gw h.bw.lt h.nw).trans h.bw, (z.kp.block gt h.bt.lt h.nt).trans h.bt, z.out gw h.bw.lt h.nw, z.out gt h.bt.lt h.nt, h.gw0, h.gt0⟩
  rw [he, f0_takeE h0 hxy hy hN]
theorem fw_read {w X : World} {b gw gt : Nat} {M : Nat → Prop} {S : Rv} {WL : List Int} {TL : List Bool} (h : FW w X b gw gt M S WL TL) {N : Nat} (h0 : F0 N S) (hN : N ≤ 1048576) (hk : Lk N S.T WL TL) (hall : ∀ i : Nat, i < N → (S.T i).isSome = true) :
    Calls Try.prog 10 #[ptr b, .int .i64 (N : Int)] X fun e Y => ∃ g, e = .returned (.tuple #[.slice (some ⟨g, 0, none⟩) N N, .bool false]) ∧ Rd Y (some ⟨g, 0, none⟩) WL ∧ Rd Y (some ⟨gw, 0, none⟩) WL ∧ w.grownBy Y none := by
  refine (rm_read h.rm h0.ok (by rw [h0.lim]; omega) N ⟨by omega, by omega⟩).mono fun e Y ⟨n, g, M', he, q1, q2, q3, q4, z⟩ => ?_
  obtain ⟨e1, e2, e3⟩ := lk_end h0 hk hall q1
  rw [e3, e1] at he
  rw [e2] at q2
  exact ⟨g, he, rd_by8 q2 hk.wb, rd_by8 (show Blk Y gw (by8 WL) _ from (z.kp.block gw h.bw.lt h.nw).trans h.bw) hk.wb, z.rm.gr⟩
theorem fw_start {w X : World} {b : Nat} {M : Nat → Prop} {N : Nat} (h : RM w X b M (newRv N)) : FW w ((X.alloc (.cells (by8 (List.replicate N 0)) 5)).alloc (.cells (bbs (List.replicate N false)) 4)) b X.heap.size (X.heap.size + 1) M (newRv N) (List.replicate N 0) (List.replicate N false) := by
  have g1 := World.grownBy_alloc X (.cells (by8 (List.replicate N 0)) 5) none
  have g2 := World.grownBy_alloc (X.alloc (.cells (by8 (List.replicate N 0)) 5)) (.cells (bbs (List.replicate N false)) 4) none
  have s := alloc_size X (.cells (by8 (List.replicate N 0)) 5)
  refine ⟨(h.grown g1).grown g2, Blk.grown (Blk.new X _ _) g2, ?_, fun q => by have := h.ml _ q; omega, fun q => by have := h.ml _ q; omega, h.gr.size, Nat.le_succ_of_le h.gr.size⟩
  have := Blk.new (X.alloc (.cells (by8 (List.replicate N 0)) 5)) (bbs (List.replicate N false)) 4
  rw [s] at this
  exact this
end Go.Proofs.Ythihabjegpacaaa

namespace Go.Proofs.Ythihabjegpacaaa
open Go.RowKit
set_option linter.unusedVariables false
set_option maxRecDepth 100000
set_option maxHeartbeats 40000000

/-- Of one of the two texts. -/
structure IsF (w : World) (N : Nat) (F : List Int) (fa : Option Addr) (fn fc : Nat) : Prop where
  len : F.length = fn
  rd : Rd w fa F
  n : N ≤ fn
  cap : fn ≤ fc ∧ fc ≤ 9223372036854775807
/-- Between two pieces. -/
structure FR (w : World) (N b gw gt plen k : Nat) (X : World) : Prop where
  ex : ∃ M S WL TL, FW w X b gw gt M S WL TL ∧ F0 N S ∧ Lk N S.T WL TL ∧ (k = plen + 1 → ∀ i : Nat, i < N → (S.T i).isSome = true)
/-- Within a piece. -/
structure FM (w : World) (N b gw gt plen k : Nat) (F : List Int) (x y j : Nat) (X : World) : Prop where
  ex : ∃ M S S' WL TL, FW w X b gw gt M S' WL TL ∧ F0 N S ∧ S' = takeS S x ((F.drop x).take (y - x)) false ∧ Lk N (midT S.T F x j) WL TL
theorem FM.gr {w : World} {N b gw gt plen k : Nat} {F : List Int} {x y j : Nat} {X : World} (h : FM w N b gw gt plen k F x y j X) : w.grownBy X none := by obtain ⟨M, S, S', WL, TL, h1, h2, h3, h4⟩ := h.ex; exact h1.rm.gr
theorem FR.gr {w : World} {N b gw gt plen k : Nat} {X : World} (h : FR w N b gw gt plen k X) : w.grownBy X none := by obtain ⟨M, S, WL, TL, h1, h2⟩ := h.ex; exact h1.rm.gr

theorem fr_take {w : World} {N b gw gt plen k : Nat} {X : World} (h : FR w N b gw gt plen k X) (hN : N ≤ 1048576) {F : List Int} {fa : Option Addr} {fn fc : Nat} (hF : IsF w N F fa fn fc) {x y : Nat} (hxy : x ≤ y) (hy : y ≤ N) (a' : Option Addr) (hr : Rd w a' ((F.drop x).take (y - x))) :
    Calls Try.prog 9 #[ptr b, .int .i64 (x : Int), .slice a' (y - x) (fc - x), .bool false] X fun e Y => ∃ u, e = .returned (.tuple #[.int .i64 u, .int .i64 0]) ∧ FM w N b gw gt plen k F x y x Y := by
  obtain ⟨M, S, WL, TL, h1, h2, h3, h4⟩ := h.ex
  have c := hF.cap; have n1 := hF.n; have l1 := hF.len
  exact (fw_take h1 h2 hN (by omega) hxy hy a' (fc - x) hr ⟨by omega, by omega⟩).mono fun e Y ⟨u, he, M', z⟩ => ⟨u, he, ⟨M', S, _, WL, TL, z, h2, rfl, by rw [mid_start]; exact h3⟩⟩
theorem fm_end {w : World} {N b gw gt plen k : Nat} {F : List Int} {x y : Nat} {X : World} (h : FM w N b gw gt plen k F x y y X) (hN : N ≤ 1048576) (hF : N ≤ F.length) (hb : ∀ z ∈ F, IsB z) (hxy : x ≤ y) (hy : y ≤ N) (hk : k = plen → x = 0 ∧ y = N) : FR w N b gw gt plen (k + 1) X := by
  obtain ⟨M, S, S', WL, TL, h1, h2, rfl, h4⟩ := h.ex
  exact ⟨M, _, WL, TL, h1, (f0_take h2 hF hb hxy hy hN).1, mid_end h2 hF hb hxy hy hN h4, fun e => all_last h2 hF hb hN (hk (by omega)).1 (hk (by omega)).2⟩
/-- One byte. -/
theorem fm_step {w : World} {N b gw gt plen k : Nat} {F : List Int} {x y j : Nat} {X : World} (h : FM w N b gw gt plen k F x y j X) (hF : N ≤ F.length) (hb : ∀ z ∈ F, IsB z) (hx : x ≤ j) (hj : j < N) :
    ∃ (t : Bool) (f : Int) (o : Value), X.cell? ⟨gt, j, none⟩ = some (.bool t) ∧ X.frozen? ⟨gt, j, none⟩ = false ∧ (∀ v, (X.setCell ⟨gt, j, none⟩ v).cell? ⟨gw, j, none⟩ = some o) ∧ (∀ v, (X.setCell ⟨gt, j, none⟩ v).frozen? ⟨gw, j, none⟩ = false) ∧ F[j]? = some f ∧ IsB f ∧ (t = true → FM w N b gw gt plen k F x y (j + 1) X) ∧ (t = false → FM w N b gw gt plen k F x y (j + 1) ((X.setCell ⟨gt, j, none⟩ (.bool true)).setCell ⟨gw, j, none⟩ (.int .u8 f))) ∧ w.grownBy (X.setCell ⟨gt, j, none⟩ (.bool true)) none := by
  obtain ⟨M, S, S', WL, TL, h1, h2, h3, h4⟩ := h.ex
  obtain ⟨t, ht⟩ : ∃ t, TL[j]? = some t := ⟨_, List.getElem?_eq_getElem (by rw [h4.lt]; exact hj)⟩
  obtain ⟨o, ho⟩ : ∃ o, WL[j]? = some o := ⟨_, List.getElem?_eq_getElem (by rw [h4.lw]; exact hj)⟩
  obtain ⟨f, hf⟩ : ∃ f, F[j]? = some f := ⟨_, List.getElem?_eq_getElem (by omega)⟩
  have ne : gt ≠ gw := fun e => by have q1 := h1.bt; have q2 := h1.bw; rw [e] at q1; have := (show X.heap[gw]? = _ from q1).symm.trans (show X.heap[gw]? = _ from q2); simp at this
  refine ⟨t, f, .int .u8 o, h1.bt.cell j _ (bbs_get _ _ _ ht), h1.bt.thaw j, fun v => (Blk.setO h1.bw gt j v ne).cell j _ (by8_get _ _ _ ho), fun v => (Blk.setO h1.bw gt j v ne).thaw j, hf, hb f (List.mem_of_getElem? hf), fun e => ?_, fun e => ?_, (h1.there j true).rm.gr⟩
  · subst e; exact ⟨M, S, S', WL, TL, h1, h2, h3, mid_was h4 hj ht⟩
  · subst e; exact ⟨M, S, S', WL.set j f, TL.set j true, (h1.there j true).want j f, h2, h3, mid_new hF hb h4 hj hx ht f hf⟩

theorem first_walk (aa : Option Addr) (an ac : Nat) (A : List Int) (ba : Option Addr) (bn bc : Nat) (B : List Int) (pa : Option Addr) (plen pcap : Nat) (pl : List PiE) (w : World) (hla : A.length = an) (hra : Rd w aa A) (hca : an ≤ ac ∧ ac ≤ 9223372036854775807) (hma : an ≤ 1048576) (hlb : B.length = bn) (hrb : Rd w ba B) (hcb : bn ≤ bc ∧ bc ≤ 9223372036854775807) (hmb : bn ≤ 1048576) (hp : IsPcs w pa plen pcap pl) (hpl : plen ≤ 1048576) :
    Calls Try.prog 5 #[.slice aa an ac, .slice ba bn bc, .slice pa plen pcap] w fun e w' => e = .returned (.bool true) ∧ w.grownBy w' none := by
  have sh := shown_ok w
  obtain ⟨hlen, hcap, hpok, hcell⟩ := hp
  obtain ⟨N, hNe⟩ : ∃ N, N = min an bn := ⟨_, rfl⟩
  have hN : N ≤ 1048576 := by omega
  have FA : Hid (IsF w N A aa an ac) := ⟨hla, hra, by omega, hca⟩
  have FB : Hid (IsF w N B ba bn bc) := ⟨hlb, hrb, by omega, hcb⟩
  have NW := hide (fun (X : World) (g : w.grownBy X none) => rm_new (limit := (N : Int)) g ⟨by omega, by omega⟩)
  have wN : IntKind.i64.wrap ((N : Int) + 1) = ((N + 1 : Nat) : Int) := by rw [IntKind.wrap_i64]; omega
  have HC := hide hcell
  have HO := hide hpok
  have HL := hide hlen
  have HNE := hide hNe
  have HCA := hide hca
  have HCB := hide hcb
  have lenI : ¬ (9223372036854775807 : Int) < (plen : Int) := by omega
  clear hcell hpok hlen hla hlb hra hrb hNe hca hcb
  go_enter Try.func5, Try.ntmps5
  go_wp2_with fail
  refine sh.mono ?_
  rintro e W1 ⟨rfl, g1⟩
  replace g1 := hide g1
  clear sh
  go_upto_if 29 with fail
  go_cut [8] (fun nv wc => nv = .int .i64 (N : Int) ∧ wc = W1)
  case first =>
    by_cases hab : (bn : Int) < (an : Int)
    · go_wp2_with fail
      go_meet
      case rel => exact ⟨by rw [show N = bn by have := unhide HNE; omega], rfl⟩
    · go_wp2_with fail
      go_meet
      case rel => exact ⟨by rw [show N = an by have := unhide HNE; omega], rfl⟩
  case rest =>
    obtain ⟨rfl, hwc⟩ := hcut
    replace hwc := hwc.symm
    subst hwc
    have hn := unhide NW W1 (unhide g1)
    clear NW HNE
    go_wp2_with fail
    refine hn.mono ?_
    rintro e W2 ⟨b, M, rfl, h2⟩
    have mk1 := hide (mk_zeros N (by omega) W2)
    have mk2 := mk_bools N (by omega) (W2.alloc (.cells (by8 (List.replicate N 0)) 5))
    rw [alloc_size] at mk2
    replace mk2 := hide mk2
    have S0 : Hid (FR w N b W2.heap.size (W2.heap.size + 1) plen 0 ((W2.alloc (.cells (by8 (List.replicate N 0)) 5)).alloc (.cells (bbs (List.replicate N false)) 4))) := ⟨M, _, _, _, fw_start h2, f0_new hN, lk_new N, fun e => by omega⟩
    clear hn h2
    go_wp2_with (first | (refine wpList_make_run _ rfl _ _ _ rfl _ _ rfl rfl (unhide mk1) ?_) | (refine wpList_make_run _ rfl _ _ _ rfl _ _ rfl rfl (unhide mk2) ?_))
    clear mk1 mk2
    generalize W2.heap.size = gw at *
    generalize gw + 1 = gt at *
    go_loopw [13] (fun iv X => ∃ (k : Nat), k ≤ plen + 1 ∧ iv = .int .i64 k ∧ Hid (FR w N b gw gt plen k X)) (fun iv _ => plen + 1 - (intOf iv).toNat)
    case atStart => exact ⟨0, Nat.zero_le _, rfl, S0⟩
    case round =>
      clear S0
      obtain ⟨k, hk, rfl, I⟩ := hrel
      by_cases hle : k ≤ plen
      · have hkn : (k : Int) ≤ (plen : Int) := by omega
        have HLE := hide hle
        have hkd : ¬ (plen : Int) < (k : Int) := by omega
        clear hk
        go_upto_if 61 with fail
        go_cut [14, 15, 16] from 51 to 125 (fun xv yv ov wc => ∃ (x y : Nat) (one : Bool), xv = .int .i64 x ∧ yv = .int .i64 y ∧ ov = .bool one ∧ x ≤ N ∧ y ≤ N ∧ (k = plen → x = 0 ∧ y = N) ∧ wc = wr)
        case first =>
          by_cases hlt : k < plen
          · have hkl : k < pl.length := by rw [unhide HL]; exact hlt
            obtain ⟨y, hy⟩ : ∃ y, pl[k]? = some y := ⟨_, List.getElem?_eq_getElem hkl⟩
            have hyo := unhide HO y (List.mem_of_getElem? hy)
            obtain ⟨pb, poff, rfl, hcells⟩ := (unhide HC).resolve_left (by omega)
            have gX := (unhide I).gr
            have c0 : wr.cell? ⟨pb, poff + k * 3, none⟩ = some (.int .i64 y.at_) := cell_grown (hcells k y hy 0 _ rfl) gX
            have c1 : wr.cell? ⟨pb, poff + k * 3 + 1, none⟩ = some (.int .i64 y.end_) := cell_grown (hcells k y hy 1 _ rfl) gX
            have c2 : wr.cell? ⟨pb, poff + k * 3 + 2, none⟩ = some (.int .i64 y.most) := cell_grown (hcells k y hy 2 _ rfl) gX
            have P1 := hide (fun W => pickN y.at_ (N + 1) W hyo.a (by omega) (by omega))
            have P2 := hide (fun W => pickN y.end_ (N + 1) W hyo.e (by omega) (by omega))
            have hlI : (k : Int) < (plen : Int) := by omega
            have HLT := hide hlt
            clear hkl hcells hy hyo hlt gX I hle
            go_wp2_with fail
            refine (unhide P1 _).mono ?_
            rintro e X' ⟨p0, rfl, hp0, hX'⟩
            subst X'
            go_wp2_with fail
            refine (unhide P2 _).mono ?_
            rintro e X' ⟨q0, rfl, hq0, hX'⟩
            subst X'
            clear P1 P2
            replace hp0 := hide hp0
            replace hq0 := hide hq0
            go_wp2_with fail
            go_meet
            case rel => exact ⟨p0, q0, _, rfl, rfl, rfl, by have := unhide hp0; omega, by have := unhide hq0; omega, fun e => by have := unhide HLT; omega, rfl⟩
          · have hlI : ¬ (k : Int) < (plen : Int) := by omega
            clear I
            go_wp2_with fail
            go_meet
            case rel => exact ⟨0, N, false, rfl, rfl, rfl, by omega, by omega, fun _ => ⟨rfl, rfl⟩, rfl⟩
        case rest =>
          obtain ⟨x0, y0, one, rfl, rfl, rfl, hx0, hy0, hl0, hwc⟩ := hcut
          replace hwc := hwc.symm
          subst hwc
          replace hl0 := hide hl0
          go_upto_if 87 with fail
          go_cut [14, 15] from 51 to 125 (fun xv yv wc => ∃ (x y : Nat), xv = .int .i64 x ∧ yv = .int .i64 y ∧ x ≤ y ∧ y ≤ N ∧ Hid (k = plen → x = 0 ∧ y = N) ∧ wc = wr)
          case first =>
            clear I
            by_cases hxy : (y0 : Int) < (x0 : Int)
            · go_wp2_with fail
              go_meet
              case rel => exact ⟨y0, x0, rfl, rfl, by omega, by omega, fun e => by have := unhide hl0 e; omega, rfl⟩
            · go_wp2_with fail
              go_meet
              case rel => exact ⟨x0, y0, rfl, rfl, by omega, by omega, hl0, rfl⟩
          case rest =>
            obtain ⟨x, y, rfl, rfl, hxy, hyN, hl1, hwc⟩ := hcut
            replace hwc := hwc.symm
            subst hwc
            clear hx0 hy0 hl0
            go_upto_if 91 with fail
            go_cut [17] from 51 to 125 (fun fv wc => ∃ (F : List Int) (fa : Option Addr) (fn fc : Nat), fv = .slice fa fn fc ∧ Hid (IsF w N F fa fn fc) ∧ wc = wr)
            case first =>
              clear I
              cases one with
              | true =>
                go_wp2_with fail
                go_meet
                case rel => exact ⟨A, aa, an, ac, rfl, FA, rfl⟩
              | false =>
                go_wp2_with fail
                go_meet
                case rel => exact ⟨B, ba, bn, bc, rfl, FB, rfl⟩
            case rest =>
              obtain ⟨F, fa, fn, fc, rfl, HF, hwc⟩ := hcut
              replace hwc := hwc.symm
              subst hwc
              have hFn := (unhide HF).n
              have hFc := (unhide HF).cap
              have hFl := (unhide HF).len
              obtain ⟨a', hs1, hs2⟩ := sl_part (ta := fa) (tn := fn) (tc := fc) x y hxy (by omega)
              have hw1 := hide (hs1 wr)
              have CT := fr_take (unhide I) hN (unhide HF) hxy hyN a' (hs2 w F (by omega) (unhide HF).rd)
              have HX := hide (And.intro hxy (And.intro hyN (And.intro hFn (And.intro hFc hFl))))
              clear hs1 hs2 I hFc hFl
              go_wp2_with (first | (refine wpList_slice_run _ rfl _ _ _ _ rfl _ _ _ rfl rfl rfl (unhide hw1) ?_))
              refine CT.mono ?_
              rintro e Y ⟨u, rfl, h⟩
              replace h := hide h
              clear CT hw1
              go_wp2_with fail
              go_loopw [20] (fun jv X' => ∃ (j : Nat), x ≤ j ∧ j ≤ y ∧ jv = .int .i64 j ∧ Hid (FM w N b gw gt plen k F x y j X')) (fun jv _ => y - (intOf jv).toNat)
              case atStart => exact ⟨x, Nat.le_refl _, hxy, rfl, h⟩
              case round =>
                clear h
                obtain ⟨j, hxj, hjy, rfl, J⟩ := hrel
                by_cases hjl : j < y
                · have hjI : (j : Int) < (y : Int) := by omega
                  obtain ⟨t, f, o, d1, d2, d3, d4, hf, hfb, s1, s2, gs⟩ := fm_step (unhide J) (by have := unhide HX; omega) (unhide HF).rd.1 hxj (by omega)
                  have hrf := (unhide HF).rd
                  obtain ⟨fb, fo, rfl, -⟩ := hrf.2 (fun e => by rw [e] at hf; simp at hf)
                  have cF : ∀ Z, w.grownBy Z none → Z.cell? ⟨fb, fo + j, none⟩ = some (.int .u8 f) := fun Z g => (hrf.grow g).cell hf
                  have c5 := cF _ gs
                  have c5' := cF _ (unhide J).gr
                  have jN : (j : Int) < (N : Int) := by omega
                  have jF : (j : Int) < (fn : Int) := by omega
                  replace s1 := hide s1
                  replace s2 := hide s2
                  have HJ := hide (And.intro hxj hjl)
                  clear cF hrf gs J hf hfb hxj hjl hjy
                  have d3' := d3 (.bool true)
                  have d4' := d4 (.bool true)
                  clear d3 d4
                  cases t with
                  | true =>
                    have Q := hide (unhide s1 rfl)
                    clear s1 s2
                    go_wp2_with fail
                    go_roundw
                    case rel => exact ⟨j + 1, by have := unhide HJ; omega, by have := unhide HJ; omega, by go_num, Q⟩
                    case measure => have := unhide HJ; simp [intOf]; omega
                  | false =>
                    have Q := hide (unhide s2 rfl)
                    clear s1 s2
                    go_wp2_with fail
                    go_roundw
                    case rel => exact ⟨j + 1, by have := unhide HJ; omega, by have := unhide HJ; omega, by go_num, Q⟩
                    case measure => have := unhide HJ; simp [intOf]; omega
                · have hjI : ¬ (j : Int) < (y : Int) := by omega
                  obtain rfl : j = y := by omega
                  have Q := hide (fm_end (unhide J) hN (by have := unhide HX; omega) (unhide HF).rd.1 hxj hyN (unhide hl1))
                  clear J hxj hjy hjl
                  go_wp2_with fail
                  go_roundw
                  case rel => exact ⟨k + 1, by have := unhide HLE; omega, by go_num, Q⟩
                  case measure => have := unhide HLE; simp [intOf]; omega
      · have hkn : ¬ (k : Int) ≤ (plen : Int) := by omega
        have hkd : (plen : Int) < (k : Int) := by omega
        obtain rfl : k = plen + 1 := by omega
        obtain ⟨M', S, WL, TL, h1, h2, h3, h4⟩ := (unhide I).ex
        have CR := fw_read h1 h2 hN h3 (h4 rfl)
        have hwl := hide h3.lw
        clear I h1 h2 h3 h4 hle hk
        go_wp2_with fail
        refine CR.mono ?_
        rintro e Y ⟨g, rfl, r1, r2, gY⟩
        have cv1 := conv_rd Y _ _ _ N (unhide hwl) r1
        have cv2 := conv_rd Y _ _ _ N (unhide hwl) r2
        have G := hide gY
        clear CR r1 r2 gY
        go_wp2_with fail
        go_ret
        exact ⟨by simp, unhide G⟩
end Go.Proofs.Ythihabjegpacaaa

namespace Go.Proofs.Ythihabjegpacaaa
open Go.ChangeShapes Go.WideShapes Go.ChangeAt Go.RowKit
set_option linter.unusedVariables false
set_option maxRecDepth 100000

namespace recvFirstFrame

theorem own : ownKnob Try.prog.godebug = none := by kernel_rfl
theorem laidOut : laidOutB Try.prog = true := by kernel_rfl

set_option maxRecDepth 100000 in
theorem lifted (os : Os) (started : os.Started) (H : Type) (enc : TypeId × Value → H) (F : Stop.Interp) :
    ReturnsInHanded {} Try.checked os 5 .any ((Rows.OpenSpec.upto Rows.recvFirstSpec).pre6 enc Try.prog Try.f5 Rows.recvFirstUptoRow.domain false) (((Rows.OpenSpec.upto Rows.recvFirstSpec).at F).post enc Try.prog Try.f5 false true false false) := by
  refine returnsInHanded_of_cond_sized (C := Try.checked) (s := Rows.OpenSpec.upto Rows.recvFirstSpec) (k := Rows.uptoSmall) rfl own started (by kernel_rfl) Try.func5
    (OpenSpec.witness (enc := enc) (C := Try.checked) (s := Rows.OpenSpec.upto Rows.recvFirstSpec) (k := Rows.uptoSmall) rfl false ⟨#[], #[.slice none 0 0, .slice none 0 0, .slice none 0 0], []⟩ 8 (by kernel_rfl) (by kernel_rfl) (by kernel_rfl)
      (x := ([.nil, .nil, .nil], [], [])) (by kernel_rfl) rfl (by kernel_rfl)) ?_
  intro W base args ds gs before hval0 hW hcnd hk hsz0 _
  have hsz : (DataW.weightsEach Try.prog (Try.f5.params.toList ++ (Rows.OpenSpec.upto Rows.recvFirstSpec).bare.plain.varTypes Try.prog) (ds ++ gs)).all (· ≤ reachBytes) = true := hsz0
  have hval : ∀ (j : Nat) t v, Try.f5.params[j]? = some t → args[j]? = some v → Value.okWide Try.prog W .any base t v := hval0
  have hW' := hW
  obtain ⟨p, q, hA0, hV, rfl, hfz, hnd⟩ := hW
  have hA : DataW.TrodAll enc Try.prog W 0 (fun _ => true) true Try.f5.params.toList args.toList ds p := hA0
  rw [Try.params5] at hA hval hsz
  obtain ⟨v0, vs0, d0, ds0, p0, q0, hargs, rfl, rfl, h0, r0⟩ := trodAll_cons hA
  obtain ⟨v1, vs1, d1, ds1, p1, q1, rfl, rfl, rfl, h1, r1⟩ := trodAll_cons r0
  obtain ⟨v2, vs2, d2, ds2, p2, q2, rfl, rfl, rfl, h2, r2⟩ := trodAll_cons r1
  obtain ⟨rfl, rfl, rfl⟩ := trodAll_nil r2
  obtain rfl : args = #[v0, v1, v2] := by cases args; simp_all
  obtain ⟨rfl, rfl⟩ := trodVars_none hV
  have k0 := h0
  have lt0 : ∀ x ∈ p0, x.block < W.heap.size := by obtain ⟨m, hm⟩ := k0; exact DataW.trod_lt m _ _ _ hm
  obtain ⟨a0, len0, cap0, t0, rfl, tl0, tr0, tc0, -, tb0⟩ : ∃ a l c p, v0 = .slice a l c ∧ p.length = l ∧ Rd W a p ∧ (l ≤ c ∧ c ≤ 9223372036854775807) ∧ l ≤ 140737488355328 ∧ l ≤ Rows.uptoBulk d0 := by
    obtain ⟨a, l, c, rfl⟩ := okWide_slice Try.underlying22 (hval 0 22 v0 rfl rfl)
    obtain ⟨fuel, hf⟩ := h0
    exact data_bulk (y := (d0, p0)) (by simpa [Value.cells] using hf) (fun k hk => by
      have := List.all_eq_true.1 hsz k (DataW.weights_mem_each (j := 0) (t := 22) (d := d0) rfl rfl k hk)
      simpa using this)
  have tm0 : len0 ≤ 1048576 := Nat.le_trans tb0 (bulk_mem hk (d := d0) (by simp))
  have k1 := h1
  have lt1 : ∀ x ∈ p1, x.block < W.heap.size := by obtain ⟨m, hm⟩ := k1; exact DataW.trod_lt m _ _ _ hm
  obtain ⟨a1, len1, cap1, t1, rfl, tl1, tr1, tc1, -, tb1⟩ : ∃ a l c p, v1 = .slice a l c ∧ p.length = l ∧ Rd W a p ∧ (l ≤ c ∧ c ≤ 9223372036854775807) ∧ l ≤ 140737488355328 ∧ l ≤ Rows.uptoBulk d1 := by
    obtain ⟨a, l, c, rfl⟩ := okWide_slice Try.underlying22 (hval 1 22 v1 rfl rfl)
    obtain ⟨fuel, hf⟩ := h1
    exact data_bulk (y := (d1, p1)) (by simpa [Value.cells] using hf) (fun k hk => by
      have := List.all_eq_true.1 hsz k (DataW.weights_mem_each (j := 1) (t := 22) (d := d1) rfl rfl k hk)
      simpa using this)
  have tm1 : len1 ≤ 1048576 := Nat.le_trans tb1 (bulk_mem hk (d := d1) (by simp))
  have k2 := h2
  have lt2 : ∀ x ∈ p2, x.block < W.heap.size := by obtain ⟨m, hm⟩ := k2; exact DataW.trod_lt m _ _ _ hm
  obtain ⟨a2, len2, cap2, rfl⟩ := okWide_slice Try.underlying23 (hval 2 23 v2 rfl rfl)
  obtain ⟨ol2, w2, b2⟩ : ∃ ol, IsPcs W a2 len2 cap2 ol ∧ len2 ≤ 1048576 := by
    obtain ⟨fuel, hf⟩ := h2
    exact open_pcs (x := (d2, p2)) (by simpa [Value.cells] using hf) (bulk_mem hk (d := d2) (by simp))
  clear hA0 hval0
  refine (first_walk a0 len0 cap0 t0 a1 len1 cap1 t1 a2 len2 cap2 ol2 W tl0 tr0 tc0 tm0 tl1 tr1 tc1 tm1 w2 b2).mono fun e W' ⟨he, gr⟩ => ?_
  have bel : Below W.heap.size W W' := (Below.refl _ W).grown gr (Nat.le_refl _) (fun k hk => by cases hk)
  subst he
  exact ⟨_, rfl, _, _, _, [], _, [], hW', trodAll_mk1 (shut_bool Try.underlying4 _), (trodAll_cons_mk (Below.trod laidOut (by kernel_rfl) (of_decide_eq_true (by kernel_rfl)) k0 bel lt0) (trodAll_cons_mk (Below.trod laidOut (by kernel_rfl) (of_decide_eq_true (by kernel_rfl)) k1 bel lt1) (trodAll_cons_mk (Below.trod laidOut (by kernel_rfl) (of_decide_eq_true (by kernel_rfl)) k2 bel lt2) trodAll_mk0))), rfl, bel.frame _, fun h => by cases h⟩

theorem over : Rows.recvFirstUptoRow.holds Try.pinned (Rows.OpenSpec.upto Rows.recvFirstSpec) :=
  OpenClaim.holds_of_cond 5 Try.f5 rfl rfl rfl rfl rfl rfl rfl ⟨rfl, rfl, rfl, rfl, rfl⟩ rfl rfl rfl rfl rfl (by kernel_rfl) Try.func5 (by kernel_rfl)
    (of_decide_eq_true (by kernel_rfl)) (by unfold Func.isWrapper; first | (rw [if_pos (by decide +kernel)]; kernel_rfl) | (rw [if_neg (by decide +kernel)]; exact ⟨rfl, rfl⟩))
    (fun os started H enc _ F => lifted os started H enc F)
end recvFirstFrame

/-- THE STATEMENT -/
theorem recvFirst_holds : Rows.RecvFirstUptoSaid := recvFirstFrame.over
end Go.Proofs.Ythihabjegpacaaa
