/- T7G, T7H, T7I, T7J, T7K, T7L, PGOrd, one text. -/
import Derived.Test.YthihabjegpacaaaT7D
import Derived.Test.YthihabjegpacaaaT7E
import Derived.Maps.AppendAt
import Derived.BigQuiet
import Derived.Deep.DeepCutAuto
import Derived.Deep.CutRange
import Derived.ProofKit
import Derived.OpenShut
import Derived.ShutString
import Derived.ChangeOld
import Derived.SizedLaws
import Derived.JoinedCond
import Derived.Deep.CondSized
namespace Go.Proofs.Ythihabjegpacaaa
set_option linter.unusedVariables false
set_option maxRecDepth 100000
set_option maxHeartbeats 1000000

theorem good_len2 {mx : Int} : ∀ {L : List Sp} {mn : Int}, Good mn mx L → (L.length : Int) ≤ max 0 (mx - mn + 1)
  | [], mn, _ => by simp; omega
  | s :: L, mn, h => by
    obtain ⟨h1, h2, h3, h4⟩ := h
    have := good_len2 h4
    simp only [List.length_cons]
    omega
theorem k_len {S : Rv} (h : RvOk S) : (S.K.length : Int) ≤ S.high := by
  have := good_len2 h.gK
  have := h.r0; have := h.rh
  omega
theorem he_len_aux {hi : Int} : ∀ (E : List He) (lo : Int), E.Pairwise (fun a b => a.till ≤ b.off) → (∀ e ∈ E, lo ≤ e.off ∧ e.p ≠ [] ∧ e.till ≤ hi) → (E.length : Int) ≤ max 0 (hi - lo)
  | [], lo, _, _ => by simp; omega
  | e :: E, lo, hp, h => by
    rw [List.pairwise_cons] at hp
    obtain ⟨h1, h2, h3⟩ := h e (List.mem_cons_self ..)
    have := he_len_aux E e.till hp.2 (fun x hx => ⟨hp.1 x hx, (h x (List.mem_cons_of_mem _ hx)).2⟩)
    have hl : 0 < e.p.length := List.length_pos_iff.2 h2
    have ht : e.till = e.off + e.p.length := rfl
    simp only [List.length_cons]
    omega
theorem he_len {S : Rv} {E : List He} (hok : RvOk S) (h : HeOk S E) : (E.length : Int) ≤ S.high := by
  have hr := hok.r0; have hh := hok.rh
  have := he_len_aux (hi := S.high) E 0 h.srt (fun e he => by
    obtain ⟨p1, p2, p3⟩ := h.pos e he
    refine ⟨p1, p2, ?_⟩
    have hl : 0 < e.p.length := List.length_pos_iff.2 p2
    have hx : e.p[e.p.length - 1]? = some (e.p[e.p.length - 1]'(by omega)) := List.getElem?_eq_getElem _
    have hT := h.is e he _ _ hx
    have hm : memB (e.off + ((e.p.length - 1 : Nat) : Int)) S.K = true := by rw [hok.kT, hT]; rfl
    have := memB_in hok.gK hm
    show e.off + (e.p.length : Int) ≤ S.high
    omega)
  omega
theorem row_high {S : Rv} (h : RvOk S) {most : Int} {n : Nat} (hn : RowN S most n) : S.read + n ≤ S.high := (rvok_read h hn).rh

/-- What has come is of the text. -/
structure OT (text : List Int) (S : Rv) : Prop where
  ok : RvOk S
  lim : S.limit = text.length
  rs : S.reset = false
  is : ∀ x y, S.T x = some y → 0 ≤ x ∧ text[x.toNat]? = some y
  fin : S.final = -1 ∨ S.final = text.length
theorem ot_new {text : List Int} (h : text.length ≤ 4611686018427387903) : OT text (newRv text.length) := ⟨rvok_new ⟨by omega, by omega⟩, rfl, rfl, fun x y h => (by cases h), .inl rfl⟩
theorem part_len {text : List Int} {a b : Nat} (hab : a ≤ b) (hb : b ≤ text.length) : ((text.drop a).take (b - a)).length = b - a := by simp; omega
theorem part_get {text : List Int} {a b i : Nat} (hi : i < b - a) : ((text.drop a).take (b - a))[i]? = text[a + i]? := by rw [List.getElem?_take, if_pos hi, List.getElem?_drop]
theorem part_b {text : List Int} {a b : Nat} (h : ∀ x ∈ text, IsB x) : ∀ x ∈ (text.drop a).take (b - a), IsB x := fun x hx => h x (List.mem_of_mem_drop (List.mem_of_mem_take hx))
theorem ot_takeE {text : List Int} {S : Rv} (h : OT text S) {a b : Nat} (hab : a ≤ b) (hb : b ≤ text.length) (fin : Bool) (hf : fin = true → b = text.length) (hN : text.length ≤ 1048576) : takeE S a (b - a) fin = 0 := by
  have hl := h.lim; have hk := h.ok.hl
  unfold takeE
  rw [if_neg (by omega), if_neg (by omega), if_neg]
  unfold againstB
  simp only [Bool.or_eq_true, Bool.and_eq_true, decide_eq_true_eq, not_or, not_and]
  refine ⟨fun q => ?_, fun q => ?_⟩
  · have := h.fin; omega
  · have := hf q; omega
theorem ot_take {text : List Int} {S : Rv} (h : OT text S) {a b : Nat} (hab : a ≤ b) (hb : b ≤ text.length) (fin : Bool) (hf : fin = true → b = text.length) (hN : text.length ≤ 1048576) (htb : ∀ x ∈ text, IsB x) :
    OT text (takeS S a ((text.drop a).take (b - a)) fin) ∧ takeS S a ((text.drop a).take (b - a)) fin = takeG S a ((text.drop a).take (b - a)) fin := by
  have hl := part_len hab hb
  have he : takeE S a ((text.drop a).take (b - a)).length fin = 0 := by rw [hl]; exact ot_takeE h hab hb fin hf hN
  have es : takeS S a ((text.drop a).take (b - a)) fin = takeG S a ((text.drop a).take (b - a)) fin := by unfold takeS; rw [if_pos he]
  refine ⟨?_, es⟩
  rw [es]
  refine ⟨rvok_take h.ok (part_b htb) he, h.lim, h.rs, fun x y hy => ?_, ?_⟩
  · have hy : (if S.reset = true then S.T else putT S.T a ((text.drop a).take (b - a))) x = some y := hy
    rw [h.rs, if_neg (by simp)] at hy
    cases hx : S.T x with
    | some z => rw [putT_some hx] at hy; cases hy; exact h.is x _ hx
    | none =>
      rw [putT_none hx] at hy
      split at hy
      · rename_i c
        rw [hl] at c
        rw [part_get (by omega)] at hy
        refine ⟨by omega, ?_⟩
        rwa [show a + (x - (a : Int)).toNat = x.toNat by omega] at hy
      · cases hy
  · show (if fin = true then (a : Int) + _ else S.final) = -1 ∨ (if fin = true then (a : Int) + _ else S.final) = _
    by_cases c : fin = true
    · rw [if_pos c, hl]; right; have := hf c; omega
    · rw [if_neg c]; exact h.fin
theorem ot_read {text : List Int} {S : Rv} (h : OT text S) {most : Int} {n : Nat} (hn : RowN S most n) : OT text (readS S n) := ⟨rvok_read h.ok hn, h.lim, h.rs, h.is, h.fin⟩
theorem ot_bytes {text : List Int} {S : Rv} (h : OT text S) {most : Int} {n : Nat} (hn : RowN S most n) : bytesT S n = (text.drop S.read.toNat).take n := by
  have hr := h.ok.r0
  have hh := row_high h.ok hn
  have hhl := h.ok.hl; have hl := h.lim
  apply List.ext_getElem?
  intro i
  by_cases hi : i < n
  · rw [bytesT_is hn.got hi, List.getElem?_take, if_pos hi, List.getElem?_drop]
    cases hx : S.T (S.read + i) with
    | none => have := hn.got i hi; rw [hx] at this; cases this
    | some y =>
      obtain ⟨q1, q2⟩ := h.is _ _ hx
      rw [show (S.read + (i : Int)).toNat = S.read.toNat + i by omega] at q2
      exact q2.symm
  · rw [List.getElem?_eq_none (by rw [bytesT_len]; omega), List.getElem?_eq_none (by simp; omega)]
theorem ot_got {text : List Int} {S : Rv} (h : OT text S) {most : Int} {n : Nat} (hn : RowN S most n) : text.take S.read.toNat ++ bytesT S n = text.take (readS S n).read.toNat := by
  have hr := h.ok.r0
  rw [ot_bytes h hn, show (readS S n).read.toNat = S.read.toNat + n by show (S.read + (n : Int)).toNat = _; omega, List.take_add]
theorem ot_rd {text : List Int} {S : Rv} (h : OT text S) : 0 ≤ S.read ∧ S.read ≤ text.length := by
  have := h.ok.r0; have := h.ok.rh; have := h.ok.hl; have := h.lim; omega
/-- Where it has ended, all is read. -/
theorem ot_end {text : List Int} {S : Rv} (h : OT text S) (he : S.ended = true) : S.read = text.length := by
  have h1 := h.ok.en he
  have := h.ok.r0
  rcases h.fin with q | q <;> omega
theorem ot_over {text : List Int} {S : Rv} (h : OT text S) (he : S.ended = true) {most : Int} {n : Nat} (hn : RowN S most n) : n = 0 := by
  have h1 := ot_end h he
  have := row_high h.ok hn
  have := h.ok.hl; have := h.lim
  omega
theorem end_stays {S : Rv} (he : S.ended = true) (n : Nat) : (readS S n).ended = true := by show (S.ended || _) = true; rw [he]; rfl
theorem ended_take {S : Rv} (off : Int) (p : List Int) (fin : Bool) : (takeS S off p fin).ended = S.ended ∧ (takeS S off p fin).read = S.read := by unfold takeS; split <;> exact ⟨rfl, rfl⟩
/-- All has come, and is read. -/
theorem ot_all {text : List Int} {S : Rv} (h : OT text S) (hN : text.length ≤ 1048576) (htb : ∀ x ∈ text, IsB x) {n : Nat} (hn : RowN (takeS S 0 text true) ((text.length : Int) + 1) n) :
    OT text (takeS S 0 text true) ∧ (readS (takeS S 0 text true) n).ended = true ∧ (readS (takeS S 0 text true) n).read = text.length ∧ (readS (takeS S 0 text true) n).final = text.length ∧ cnt (readS (takeS S 0 text true) n).K - (readS (takeS S 0 text true) n).read = 0 := by
  have ht : ((text.drop 0).take (text.length - 0)) = text := by simp
  obtain ⟨o1, e1⟩ := ot_take (a := 0) (b := text.length) h (Nat.zero_le _) (Nat.le_refl _) true (fun _ => rfl) hN htb
  rw [ht] at o1 e1
  have e1 : takeS S 0 text true = takeG S 0 text true := e1
  have o1 : OT text (takeS S 0 text true) := o1
  have hf : (takeS S 0 text true).final = text.length := by rw [e1]; show (if true = true then (0 : Int) + text.length else S.final) = _; simp
  have hall : ∀ x : Int, 0 ≤ x → x < text.length → ((takeS S 0 text true).T x).isSome = true := fun x h0 h1 => by
    rw [e1]
    show ((if S.reset = true then S.T else putT S.T 0 text) x).isSome = true
    rw [h.rs, if_neg (by simp), putT_isSome]
    right; omega
  have hh := row_high o1.ok hn
  have hhl := o1.ok.hl; have hl := o1.lim; have hr := o1.ok.r0
  have hn2 : (takeS S 0 text true).read + n = text.length := by
    rcases hn.end_ with q | q
    · omega
    · by_cases c : (takeS S 0 text true).read + n < text.length
      · have := hall _ (by omega) c
        rw [q] at this; cases this
      · omega
  have o2 := ot_read o1 hn
  have hrd : (readS (takeS S 0 text true) n).read = text.length := hn2
  have hc := cnt_read o2.ok
  have h2 := o2.ok.hl; have l2 := o2.lim
  refine ⟨o1, ?_, hrd, hf, by omega⟩
  show ((takeS S 0 text true).ended || (decide ((takeS S 0 text true).read + n = (takeS S 0 text true).final) && !(takeS S 0 text true).reset)) = true
  rw [decide_eq_true (by rw [hf]; exact hn2), o1.rs]
  simp
end Go.Proofs.Ythihabjegpacaaa

namespace Go.Proofs.Ythihabjegpacaaa
open Go.RowKit
set_option linter.unusedVariables false
set_option maxHeartbeats 1000000
set_option maxRecDepth 100000

/-- Bytes that a call collects. -/
def GB (n0 : Nat) (W : World) (v : Value) (T : List Int) : Prop := W.ownsRow n0 5 1 v T.length (T.map (Value.int .u8))
theorem gb_nil (n0 : Nat) (W : World) : GB n0 W (.slice none 0 0) [] := ⟨rfl, .inl ⟨rfl, rfl⟩⟩
theorem GB.kept {n0 : Nat} {W W' : World} {v : Value} {T : List Int} (h : GB n0 W v T) (hk : ∀ g, v.ownBlock = some g → W'.heap[g]? = W.heap[g]?) : GB n0 W' v T := by
  refine ⟨h.1, ?_⟩
  rcases h.2 with h2 | ⟨g, c, cur, e1, q1, q2, q3⟩
  · exact .inl h2
  · exact .inr ⟨g, c, cur, e1, q1, (hk g (by rw [e1]; rfl)).trans q2, q3⟩
theorem GB.own {n0 : Nat} {W : World} {v : Value} {T : List Int} (h : GB n0 W v T) {g : Nat} (e : v.ownBlock = some g) : n0 ≤ g ∧ g < W.heap.size ∧ ∃ c, W.heap[g]? = some (.cells c 5 (0, 0)) := by
  rcases h.2 with ⟨rfl, -⟩ | ⟨g', c, cur, rfl, q1, q2, -⟩
  · cases e
  · cases e; exact ⟨q1, (Array.getElem?_eq_some_iff.1 q2).1, _, q2⟩
theorem GB.rd {n0 : Nat} {W : World} {v : Value} {T : List Int} (h : GB n0 W v T) (hb : ∀ x ∈ T, IsB x) : ∃ a c, v = .slice a T.length c ∧ T.length ≤ c ∧ c ≤ 9223372036854775807 ∧ Rd W a T := by
  rcases h.2 with ⟨rfl, e2⟩ | ⟨g, c, cur, rfl, q1, q2, q3, q4, q5, q6⟩
  · have : T = [] := List.length_eq_zero_iff.1 e2
    subst this
    exact ⟨none, 0, rfl, Nat.le_refl _, by omega, hb, fun h => absurd rfl h⟩
  · refine ⟨_, c, rfl, q3, by unfold maxLen at q4; omega, hb, fun _ => ⟨g, 0, rfl, fun i hi => ?_⟩⟩
    rw [Nat.zero_add]
    unfold World.cell?
    rw [q2]
    have h1 : (cur.toList.take (T.length * 1))[i]? = (T.map (Value.int .u8))[i]? := by rw [q6]
    rw [List.getElem?_take, if_pos (by omega), Array.getElem?_toList] at h1
    simp only
    rw [h1]
    simp [List.getD, hi]
theorem gb_app {n0 : Nat} (W : World) (v : Value) (T D : List Int) (g c : Nat) (h : GB n0 W v T) (h0 : n0 ≤ W.heap.size) (hc : Blk W g (by8 D) 5) (hb : T.length + D.length ≤ 1000000000) :
    ∃ v' W', (Builtin.append_ #[22, 22] 22 #[v, .slice (some ⟨g, 0, none⟩) D.length c]).run Try.prog W = .ok v' W' ∧ GB n0 W' v' (T ++ D) ∧ W.grownBy W' v.ownBlock ∧ (v'.ownBlock = v.ownBlock ∨ v'.ownBlock = some W.heap.size) := by
  obtain ⟨i, hi, hz0, hz1, hz2⟩ := info_parts Try.infoB
  obtain ⟨v', W', hr, ho, hgr, hnil, hob⟩ := run_append_own_at (P := Try.prog) W n0 22 22 5 i _ 1 1 Try.underlying22 hi hz0 hz1 hz2 rfl (by decide) v T.length (T.map (Value.int .u8)) h ⟨g, 0, none⟩ D.length c (D.map (Value.int .u8)) (by simp) (fun j u hj => by
    rw [List.getElem?_map] at hj
    cases hx : D[j]? with
    | none => rw [hx] at hj; simp at hj
    | some x =>
      rw [hx] at hj; simp at hj; subst hj
      have : (⟨g, 0, none⟩ : Addr).add j = ⟨g, j, none⟩ := by unfold Addr.add; split <;> simp_all
      rw [this]
      exact hc.cell j _ (by8_get D j x hx)) (by intro u hu; obtain ⟨x, -, rfl⟩ := List.mem_map.1 hu; rfl) (by unfold maxLen; omega) (by omega) h0
  have e2 : (T ++ D).length = T.length + D.length := by simp
  have ho' : GB n0 W' v' (T ++ D) := by unfold GB; rw [e2, List.map_append]; exact ho
  exact ⟨v', W', hr, ho', hgr, hob⟩

/-- A Recv with all its blocks (M), beside what was made for the caller. -/
structure RM (w X : World) (b : Nat) (M : Nat → Prop) (S : Rv) : Prop where
  ra : ∃ bk vh E, RA X M b bk vh E X S ∧ HeOk S E
  mw : ∀ k, M k → w.heap.size ≤ k
  ml : ∀ k, M k → k < X.heap.size
  gr : w.grownBy X none
/-- What its calls leave. -/
structure RmTo (w X : World) (M : Nat → Prop) (b : Nat) (S' : Rv) (Y : World) (M' : Nat → Prop) : Prop where
  rm : RM w Y b M' S'
  kp : Kp M X Y
  out : ∀ k, k < X.heap.size → ¬ M k → ¬ M' k
theorem rm_base {w X Y : World} {b bk : Nat} {M : Nat → Prop} {vh : Value} {E : List He} {S : Rv} (hw : w.grownBy X none) (hm : ∀ k, M k → w.heap.size ≤ k) (h : RA X M b bk vh E Y S) (hE : HeOk S E) : RmTo w X M b S Y (fun k => (M k ∨ X.heap.size ≤ k) ∧ k < Y.heap.size) := by
  have g := h.rebase (World.grownBy.refl Y none)
  refine ⟨⟨⟨bk, vh, E, g, hE⟩, ?_, fun k hk => hk.2, ?_⟩, h.kp, fun k h1 h2 hk => ?_⟩
  · rintro k ⟨h1 | h1, -⟩
    · exact hm k h1
    · exact Nat.le_trans hw.size h1
  · exact ⟨h.kp.os.trans hw.os, h.kp.tape.trans hw.tape, h.kp.output.trans hw.output, Nat.le_trans hw.size h.kp.size, fun i hi _ => (h.kp.block i (Nat.lt_of_lt_of_le hi hw.size) (fun q => by have := hm i q; omega)).trans (hw.block i hi (by simp))⟩
  · rcases hk.1 with q | q
    · exact h2 q
    · omega
theorem rm_new {w X : World} {limit : Int} (g : w.grownBy X none) (hc : 0 ≤ limit ∧ limit ≤ 4611686018427387903) : Calls Try.prog 7 #[.int .i64 limit] X fun e Y => ∃ b M, e = .returned (.tuple #[ptr b, .int .i64 0]) ∧ RM w Y b M (newRv limit) :=
  (new_at limit X hc).mono fun e Y ⟨b, bk, he, h⟩ => ⟨b, _, he, (rm_base g (fun k q => absurd q (fun q => q)) h (heok_new limit)).rm⟩
theorem rm_out {w X : World} {b : Nat} {M : Nat → Prop} {S : Rv} (h : RM w X b M S) {a : Option Addr} {p : List Int} (hr : Rd w a p) : Out X M a p := fun hne pb off e => by
  obtain ⟨b', off', e', hc'⟩ := hr.2 hne
  have hpos : 0 < p.length := List.length_pos_iff.2 hne
  have hlt : b' < w.heap.size := World.block_lt_of_cell? _ _ (hc' 0 hpos)
  rw [e] at e'
  cases e'
  exact ⟨fun q => by have := h.mw _ q; omega, Nat.lt_of_lt_of_le hlt h.gr.size⟩
theorem rm_take {w X : World} {b : Nat} {M : Nat → Prop} {S : Rv} (h : RM w X b M S) (hok : RvOk S) (hl : S.limit ≤ 1048576) (off : Int) (a : Option Addr) (n pc : Nat) (fin : Bool) (p : List Int) (hr : Rd w a p) (hn : p.length = n) (hpc : n ≤ pc ∧ pc ≤ 9223372036854775807) (hnn : n ≤ 1048576) :
    Calls Try.prog 9 #[ptr b, .int .i64 off, .slice a n pc, .bool fin] X fun e Y => e = .returned (.tuple #[.int .i64 (takeN S off n fin), .int .i64 (takeE S off n fin)]) ∧ ∃ M', RmTo w X M b (takeS S off p fin) Y M' := by
  obtain ⟨bk, vh, E, hA, hE⟩ := h.ra
  have h1 := he_len hok hE; have h2 := k_len hok; have h3 := hok.hl
  exact (take_at hA hok hE (by omega) (by omega) off a n pc fin p (hr.grow h.gr) (rm_out h hr) hn hpc (by omega)).mono fun e Y ⟨he, vh', E', q1, q2, q3⟩ => ⟨he, _, rm_base h.gr h.mw q1 q2⟩
theorem rm_read {w X : World} {b : Nat} {M : Nat → Prop} {S : Rv} (h : RM w X b M S) (hok : RvOk S) (hl : S.limit ≤ 1048576) (most : Int) (hm : -9223372036854775808 ≤ most ∧ most ≤ 9223372036854775807) :
    Calls Try.prog 10 #[ptr b, .int .i64 most] X fun e Y => ∃ n g M', e = .returned (.tuple #[.slice (some ⟨g, 0, none⟩) n n, .bool (readS S n).ended]) ∧ RowN S most n ∧ Blk Y g (by8 (bytesT S n)) 5 ∧ X.heap.size ≤ g ∧ ¬ M' g ∧ RmTo w X M b (readS S n) Y M' := by
  obtain ⟨bk, vh, E, hA, hE⟩ := h.ra
  have h1 := he_len hok hE; have h3 := hok.hl
  refine (read_at hA hok hE (by omega) most hm (fun n q => by have := row_high hok q; have := hok.r0; omega)).mono fun e Y ⟨n, g, he, q⟩ => ?_
  obtain ⟨W1, vh', E', g1, l1, l2, r1, e1, -⟩ := q.ra
  have z := rm_base (w := w) (X := W1) (grown_trans h.gr g1) (fun k hk => h.mw k (hk.1.resolve_right (by omega))) r1 e1
  refine ⟨n, g, _, he, q.row, q.blk, l1, fun hk => ?_, z.rm, ?_, fun k hk hn hq => ?_⟩
  · rcases hk.1 with q | q
    · omega
    · omega
  · refine ⟨r1.kp.os.trans g1.os, r1.kp.tape.trans g1.tape, r1.kp.output.trans g1.output, Nat.le_trans g1.size r1.kp.size, fun k hk hn => ?_⟩
    exact (r1.kp.block k (Nat.lt_of_lt_of_le hk g1.size) (fun q => hn (q.1.resolve_right (by omega)))).trans (g1.block k hk (by simp))
  · have := g1.size
    rcases hq.1 with q | q
    · exact hn (q.1.resolve_right (by omega))
    · omega
/-- What is no block of it may be written. -/
theorem RM.other {w X Y : World} {b : Nat} {M D : Nat → Prop} {S : Rv} (h : RM w X b M S) (k : Kp D X Y) (hM : ∀ g, M g → ¬ D g) (hD : ∀ g, D g → w.heap.size ≤ g) : RM w Y b M S := by
  obtain ⟨bk, vh, E, hA, hE⟩ := h.ra
  exact ⟨⟨bk, vh, E, hA.keep k hM, hE⟩, h.mw, fun g q => Nat.lt_of_lt_of_le (h.ml g q) k.size, ⟨k.os.trans h.gr.os, k.tape.trans h.gr.tape, k.output.trans h.gr.output, Nat.le_trans h.gr.size k.size, fun i hi _ => (k.block i (Nat.lt_of_lt_of_le hi h.gr.size) (fun q => by have := hD i q; omega)).trans (h.gr.block i hi (by simp))⟩⟩
theorem RM.grown {w X Y : World} {b : Nat} {M : Nat → Prop} {S : Rv} (h : RM w X b M S) (g : X.grownBy Y none) : RM w Y b M S := h.other (Kp.grown g (fun _ => False)) (fun _ _ q => q) (fun _ q => q.elim)
theorem RmTo.gb {w X Y : World} {M M' : Nat → Prop} {b n0 : Nat} {S' : Rv} (h : RmTo w X M b S' Y M') {v : Value} {T : List Int} (g : GB n0 X v T) (hn : ∀ k, v.ownBlock = some k → ¬ M k) : GB n0 Y v T ∧ ∀ k, v.ownBlock = some k → ¬ M' k :=
  ⟨g.kept fun k e => h.kp.block k (g.own e).2.1 (hn k e), fun k e => h.out k (g.own e).2.1 (hn k e)⟩

/-- A part of a text that came in. -/
theorem sl_part {ta : Option Addr} {tn tc : Nat} (a b : Nat) (hab : a ≤ b) (hb : b ≤ tc) : ∃ a', (∀ W : World, (Instr.sliceAt 22 (.slice ta tn tc) (some (.int .i64 (a : Int))) (some (.int .i64 (b : Int))) none).run Try.prog W = .ok (.slice a' (b - a) (tc - a)) W) ∧ ∀ (W : World) (text : List Int), b ≤ text.length → Rd W ta text → Rd W a' ((text.drop a).take (b - a)) := by
  refine ⟨if tc = a then ta else ta.map (·.add (a * 1)), fun W => ?_, fun W text hl hr => ⟨part_b hr.1, fun hne => ?_⟩⟩
  · have e : Try.prog.elem 22 = 5 := by kernel_rfl
    have ht : Try.prog.underlying 22 = some (.slice (Try.prog.elem 22)) := by rw [e]; exact Try.underlying22
    rw [run_sliceAt_slice _ _ _ _ _ _ ht, run_slice_lh _ _ _ _ _ ht _ _ _ _ (by omega) (by omega) (by omega)]
    obtain ⟨i, hi, hz, hs, hb'⟩ := info_parts Try.infoB
    have : (sizeOf (Try.prog.elem 22)).run Try.prog W = .ok 1 W := by
      rw [e]
      simp [sizeOf, typeInfo, hi, hs]
    rw [this]
    simp [Result.andThen, sliced]
  · have hp := part_len (text := text) hab hl
    have hpos : 0 < b - a := by rw [← hp]; exact List.length_pos_iff.2 hne
    obtain ⟨g, off, rfl, hc⟩ := hr.2 (fun e => by rw [e] at hl; simp at hl; omega)
    refine ⟨g, off + a, ?_, fun i hi => ?_⟩
    · rw [if_neg (by omega)]
      simp only [Option.map_some, Addr.add_lit, Nat.mul_one]
    · rw [hp] at hi
      have := hc (a + i) (by omega)
      rw [← Nat.add_assoc] at this
      rw [this]
      simp [List.getD, part_get hi]
theorem wpList_slice_run {P : Program} {ops : Array Oper} {rest : List Oper} {o : Oper} {a : Act} {Q : Exit → Act → World → Prop} (w : World) (hgd : o.guard = none) (t : TypeId) (x lo hi : Operand) (ho : o.op = .slice t x (some lo) (some hi) none) (v vl vh : Value)
    (hx : a.eval x = v) (hl : a.eval lo = vl) (hh : a.eval hi = vh) {v' : Value} (hr : (Instr.sliceAt t v (some vl) (some vh) none).run P w = .ok v' w) (h : wpList P ops Q rest (a.put o.dst v') w) : wpList P ops Q (o :: rest) a w :=
  wpList_plain hgd fun K hK => by
    unfold Oper.wp
    simp [execOp, ho, hx, hl, hh, hr, Result.andThen]
    exact hK _ _ h
end Go.Proofs.Ythihabjegpacaaa

namespace Go.Proofs.Ythihabjegpacaaa
open Go.ChangeShapes Go.WideShapes Go.ChangeAt Go.RowKit
set_option linter.unusedVariables false
set_option maxRecDepth 100000
set_option maxHeartbeats 1000000

structure PiE where
  at_ : Int
  end_ : Int
  most : Int
structure PiE.Ok (x : PiE) : Prop where
  a : i64B x.at_
  e : i64B x.end_
  m : i64B x.most
def PiE.cs (x : PiE) : List Value := [.int .i64 x.at_, .int .i64 x.end_, .int .i64 x.most]
structure IsPcs (w : World) (a : Option Addr) (len cap : Nat) (ol : List PiE) : Prop where
  hlen : ol.length = len
  hcap : len ≤ cap ∧ cap ≤ 9223372036854775807
  ok : ∀ x ∈ ol, x.Ok
  cell : len = 0 ∨ ∃ b off, a = some ⟨b, off, none⟩ ∧ ∀ i x, ol[i]? = some x → ∀ j v, x.cs[j]? = some v → w.cell? ⟨b, off + i * 3 + j, none⟩ = some v

section
variable {H : Type} {enc : TypeId × Value → H} {w : World} {base : Nat} {spare : Nat → Bool} {held : Bool}
theorem pc_cells {n : Nat} {cs : List Value} {y : DataW H × List MemPlace} (h2 : DataW.trod enc Try.prog w base spare held n 31 cs = some y) (hl : cs.length = 3) : ∃ x : PiE, x.Ok ∧ cs = x.cs := by
  obtain ⟨xs, m, hk, hxy, hcl, hxl, hf⟩ := DataW.trod_struct Try.underlying31 h2
  have c3 : Try.prog.cellsOf 3 = 1 := by kernel_rfl
  match xs, hxl, cs, hl with
  | [y0, y1, y2], _, [v0, v1, v2], _ =>
    have f0 := hf 0 _ rfl
    have f1 := hf 1 _ rfl
    have f2 := hf 2 _ rfl
    simp [c3] at f0 f1 f2
    obtain ⟨k, e0, _, r0⟩ := DataW.trod_int Try.underlying3 f0
    obtain ⟨o, e1, _, r1⟩ := DataW.trod_int Try.underlying3 f1
    obtain ⟨i, e2, _, r2⟩ := DataW.trod_int Try.underlying3 f2
    simp only [List.cons.injEq, and_true] at e0 e1 e2
    subst e0 e1 e2
    exact ⟨⟨k, o, i⟩, ⟨wf_i64 r0, wf_i64 r1, wf_i64 r2⟩, rfl⟩
theorem open_pcs {a : Option Addr} {len cap fuel : Nat} {x : DataW H × List MemPlace} (hf : DataW.trod enc Try.prog w base spare held fuel 23 [.slice a len cap] = some x) (hb : Rows.uptoBulk x.1 ≤ 1048576) : ∃ ol, IsPcs w a len cap ol ∧ len ≤ 1048576 := by
  have c7 : Try.prog.cellsOf 31 = 3 := by kernel_rfl
  rcases Go.Deep.open_slice Try.underlying23 hf with ⟨hcs, _⟩ | ⟨ad, l, c, m, n, D, Pl, hcs, _, hl, hm, hmm, hxe, hx⟩
  · simp at hcs
    obtain ⟨rfl, rfl, rfl⟩ := hcs
    exact ⟨[], ⟨rfl, by omega, by simp, .inl rfl⟩, by omega⟩
  · simp at hcs
    obtain ⟨rfl, rfl, rfl⟩ := hcs
    have hlm : len ≤ m := by rw [hmm]; split <;> omega
    have hx1 : x.1 = .slice ((List.range len).map D) ((List.range (m - len)).map fun j => D (len + j)) := by rw [hxe]
    rw [hx1] at hb
    have tl : len ≤ 1048576 := by
      have := bulk_slice (H := H) ((List.range len).map D) ((List.range (m - len)).map fun j => D (len + j))
      simp only [List.length_map, List.length_range] at this
      omega
    have each : ∀ i, i < len → ∃ x : PiE, x.Ok ∧ ∀ j v, x.cs[j]? = some v → w.cell? (ad.add (i * 3) |>.add j) = some v := fun i hi => by
      obtain ⟨cs', h1, h2⟩ := hx i (by omega)
      rw [c7] at h1
      obtain ⟨_, hlen, hcell⟩ := World.cells?_some h1
      obtain ⟨x, ok, rfl⟩ := pc_cells h2 hlen
      exact ⟨x, ok, fun j v hj => by rw [hcell j (by have := (List.getElem?_eq_some_iff.1 hj).1; simpa [PiE.cs] using this)]; exact hj⟩
    obtain ⟨ol, hol, hP⟩ := list_gen len each
    refine ⟨ol, ⟨hol, ⟨hl, by unfold maxLen at hm; omega⟩, fun x hx => ?_, ?_⟩, tl⟩
    · obtain ⟨i, hi⟩ := List.getElem?_of_mem hx
      exact (hP i x hi).1
    · by_cases h0 : len = 0
      · exact .inl h0
      · right
        obtain ⟨x, ok, hc⟩ := each 0 (by omega)
        have hs : ad.spot = none := by
          have := hc 0 _ rfl
          rw [Nat.zero_mul, add_0, add_0] at this
          exact spot_none this
        obtain ⟨bb, off, sp⟩ := ad
        simp only at hs
        subst hs
        refine ⟨bb, off, rfl, fun i x hi => ?_⟩
        intro j v hj
        have := (hP i x hi).2 j v hj
        simpa only [Addr.add_lit] using this
end

def PickN (n : Nat) (w : World) (e : Ending) (w' : World) : Prop := ∃ k : Nat, e = .returned (.int .i64 (k : Int)) ∧ k < n ∧ w' = w
theorem pickN (c : Int) (n : Nat) (w : World) (hc : i64B c) (hn : 0 < n) (hn2 : n ≤ 4611686018427387903) : Calls Try.prog 8 #[.int .i64 c, .int .i64 (n : Int)] w (PickN n w) := by
  obtain ⟨hc1, hc2⟩ := hc
  have nz : ¬ (n : Int) = 0 := by omega
  by_cases h : c < 0
  · have d : decide (c < 0) = true := decide_eq_true h
    have w1 : IntKind.i64.wrap (c + 1) = c + 1 := by rw [IntKind.wrap_i64]; omega
    have w2 : IntKind.i64.wrap (-(c + 1)) = -(c + 1) := by rw [IntKind.wrap_i64]; omega
    obtain ⟨m, hm⟩ : ∃ m : Nat, -(c + 1) = (m : Int) := ⟨(-(c + 1)).toNat, by omega⟩
    have ht : Int.tmod (-(c + 1)) (n : Int) = ((m % n : Nat) : Int) := by rw [hm, ← Int.ofNat_tmod]
    have HM := hide hm
    clear hm
    have hk : m % n < n := Nat.mod_lt _ hn
    generalize m % n = k at *
    have w3 : IntKind.i64.wrap (k : Int) = (k : Int) := by rw [IntKind.wrap_i64]; omega
    have HK := hide hk
    clear hk hn2
    go_enter Try.func8, Try.ntmps8
    go_wp2
    all_goals go_ret
    all_goals exact ⟨k, by simp [*], unhide HK, rfl⟩
  · have d : decide (c < 0) = false := decide_eq_false h
    obtain ⟨m, hm⟩ : ∃ m : Nat, c = (m : Int) := ⟨c.toNat, by omega⟩
    have ht : Int.tmod c (n : Int) = ((m % n : Nat) : Int) := by rw [hm, ← Int.ofNat_tmod]
    have HM := hide hm
    clear hm
    have hk : m % n < n := Nat.mod_lt _ hn
    generalize m % n = k at *
    have w3 : IntKind.i64.wrap (k : Int) = (k : Int) := by rw [IntKind.wrap_i64]; omega
    have HK := hide hk
    clear hk hn2
    go_enter Try.func8, Try.ntmps8
    go_wp2
    all_goals go_ret
    all_goals exact ⟨k, by simp [*], unhide HK, rfl⟩
end Go.Proofs.Ythihabjegpacaaa

namespace Go.Proofs.Ythihabjegpacaaa
open Go.RowKit
set_option linter.unusedVariables false
set_option maxRecDepth 100000
set_option maxHeartbeats 1000000

/-- Between two pieces. -/
def OI (w : World) (text : List Int) (b : Nat) (X : World) (S : Rv) (v : Value) : Prop :=
  ∃ M, RM w X b M S ∧ OT text S ∧ GB w.heap.size X v (text.take S.read.toNat) ∧ ∀ k, v.ownBlock = some k → ¬ M k
theorem OI.ot {w : World} {text : List Int} {b : Nat} {X : World} {S : Rv} {v : Value} (h : OI w text b X S v) : OT text S := by obtain ⟨M, h1, h2, h3, h4⟩ := h; exact h2
theorem OI.gr {w : World} {text : List Int} {b : Nat} {X : World} {S : Rv} {v : Value} (h : OI w text b X S v) : w.grownBy X none := by obtain ⟨M, h1, h2, h3, h4⟩ := h; exact h1.gr
theorem OI.grown {w : World} {text : List Int} {b : Nat} {X Y : World} {S : Rv} {v : Value} (h : OI w text b X S v) (g : X.grownBy Y none) : OI w text b Y S v := by
  obtain ⟨M, h1, h2, h3, h4⟩ := h
  exact ⟨M, h1.grown g, h2, h3.kept fun k e => g.block k (h3.own e).2.1 (by simp), h4⟩
theorem oi_new {w X : World} {text : List Int} (g : w.grownBy X none) (hN : text.length ≤ 1048576) : Calls Try.prog 7 #[.int .i64 (text.length : Int)] X fun e Y => ∃ b, e = .returned (.tuple #[ptr b, .int .i64 0]) ∧ OI w text b Y (newRv text.length) (.slice none 0 0) :=
  (rm_new g ⟨by omega, by omega⟩).mono fun e Y ⟨b, M, he, h⟩ => ⟨b, he, M, h, ot_new (by omega), gb_nil _ _, fun k e => by cases e⟩
theorem oi_take {w : World} {text : List Int} {b : Nat} {X : World} {S : Rv} {v : Value} (h : OI w text b X S v) (hN : text.length ≤ 1048576) (htb : ∀ x ∈ text, IsB x) {p q : Nat} (hpq : p ≤ q) (hq : q ≤ text.length) (a' : Option Addr) (pc : Nat) (hr : Rd w a' ((text.drop p).take (q - p))) (hpc : q - p ≤ pc ∧ pc ≤ 9223372036854775807) (fin : Bool) (hf : fin = true → q = text.length) :
    Calls Try.prog 9 #[ptr b, .int .i64 (p : Int), .slice a' (q - p) pc, .bool fin] X fun e Y => ∃ u, e = .returned (.tuple #[.int .i64 u, .int .i64 0]) ∧ OI w text b Y (takeS S p ((text.drop p).take (q - p)) fin) v := by
  obtain ⟨M, h1, h2, h3, h4⟩ := h
  have hl := part_len hpq hq
  refine (rm_take h1 h2.ok (by rw [h2.lim]; omega) p a' (q - p) pc fin _ hr hl hpc (by omega)).mono fun e Y ⟨he, M', z⟩ => ⟨takeN S p (q - p) fin, ?_, M', z.rm, (ot_take h2 hpq hq fin hf hN htb).1, ?_, (z.gb h3 h4).2⟩
  · rw [he, ot_takeE h2 hpq hq fin hf hN]
  · rw [(ended_take (S := S) p ((text.drop p).take (q - p)) fin).2]; exact (z.gb h3 h4).1
/-- Behind Read. -/
def OJ (w : World) (text : List Int) (b : Nat) (S : Rv) (v : Value) (most : Int) (n g : Nat) (Y : World) : Prop :=
  ∃ M, RM w Y b M (readS S n) ∧ OT text S ∧ RowN S most n ∧ GB w.heap.size Y v (text.take S.read.toNat) ∧ (∀ k, v.ownBlock = some k → ¬ M k) ∧ Blk Y g (by8 (bytesT S n)) 5
theorem oi_read {w : World} {text : List Int} {b : Nat} {X : World} {S : Rv} {v : Value} (h : OI w text b X S v) (hN : text.length ≤ 1048576) (most : Int) (hm : i64B most) :
    Calls Try.prog 10 #[ptr b, .int .i64 most] X fun e Y => ∃ n g, e = .returned (.tuple #[.slice (some ⟨g, 0, none⟩) n n, .bool (readS S n).ended]) ∧ OJ w text b S v most n g Y := by
  obtain ⟨M, h1, h2, h3, h4⟩ := h
  exact (rm_read h1 h2.ok (by rw [h2.lim]; omega) most hm).mono fun e Y ⟨n, g, M', he, q1, q2, q3, q4, z⟩ => ⟨n, g, he, M', z.rm, h2, q1, (z.gb h3 h4).1, (z.gb h3 h4).2, q2⟩
theorem oj_app {w : World} {text : List Int} {b : Nat} {S : Rv} {v : Value} {most : Int} {n g : Nat} {Y : World} (h : OJ w text b S v most n g Y) (hN : text.length ≤ 1048576) (htb : ∀ x ∈ text, IsB x) :
    ∃ ga gc Z, (Builtin.append_ #[22, 22] 22 #[v, .slice (some ⟨g, 0, none⟩) n n]).run Try.prog Y = .ok (.slice ga (readS S n).read.toNat gc) Z ∧ OI w text b Z (readS S n) (.slice ga (readS S n).read.toNat gc) ∧ Rd Z ga (text.take (readS S n).read.toNat) ∧ (readS S n).read.toNat ≤ gc ∧ gc ≤ 9223372036854775807 ∧ (readS S n).read.toNat ≤ text.length := by
  obtain ⟨M, h1, h2, h3, h4, h5, h6⟩ := h
  have o2 := ot_read h2 h3
  have r2 := ot_rd o2
  have hnb : n ≤ 1048576 := by have := row_high h2.ok h3; have := h2.ok.hl; have := h2.lim; have := h2.ok.r0; omega
  have eg := ot_got h2 h3
  have el : (text.take (readS S n).read.toNat).length = (readS S n).read.toNat := by simp; omega
  obtain ⟨v', Z, hap, gb', gZ, hob⟩ := gb_app Y v (text.take S.read.toNat) (bytesT S n) g n h4 h1.gr.size h6 (by rw [bytesT_len]; simp; omega)
  rw [eg] at gb'
  rw [bytesT_len] at hap
  obtain ⟨ga, gc, rfl, l1, l2, rdG⟩ := gb'.rd (fun x hx => htb x (List.mem_of_mem_take hx))
  rw [el] at hap gb' l1 hob
  have hw : ∀ g', (v.ownBlock = some g' ∨ Y.heap.size ≤ g') → w.heap.size ≤ g' := fun g' q => by
    rcases q with q | q
    · exact (h4.own q).1
    · exact Nat.le_trans h1.gr.size q
  refine ⟨ga, gc, Z, hap, ⟨M, ?_, o2, gb', ?_⟩, rdG, l1, l2, by omega⟩
  · cases hv : v.ownBlock with
    | none => rw [hv] at gZ; exact h1.grown gZ
    | some k =>
      rw [hv] at gZ
      exact h1.other (D := fun x => x = k) (Kp.grownS gZ rfl) (fun x hx e => h5 k hv (e ▸ hx)) (fun x e => by rw [e]; exact (h4.own hv).1)
  · intro k e
    rcases hob with q | q
    · exact h5 k (q.symm.trans e)
    · rw [e] at q
      injection q with q
      intro hk
      have := h1.ml k hk
      omega
theorem oi_takeAll {w : World} {text : List Int} {b : Nat} {X : World} {S : Rv} {v : Value} (h : OI w text b X S v) (hN : text.length ≤ 1048576) (ta : Option Addr) (tc : Nat) (hr : Rd w ta text) (hpc : text.length ≤ tc ∧ tc ≤ 9223372036854775807) :
    Calls Try.prog 9 #[ptr b, .int .i64 0, .slice ta text.length tc, .bool true] X fun e Y => ∃ u, e = .returned (.tuple #[.int .i64 u, .int .i64 0]) ∧ OI w text b Y (takeS S 0 text true) v := by
  have e1 : (text.drop 0).take (text.length - 0) = text := by simp
  have := oi_take h hN hr.1 (p := 0) (q := text.length) (Nat.zero_le _) (Nat.le_refl _) ta tc (by rw [e1]; exact hr) ⟨by omega, hpc.2⟩ true (fun _ => rfl)
  rw [e1] at this
  exact this
theorem oi_view {w : World} {text : List Int} {b : Nat} {X : World} {S : Rv} {v : Value} (h : OI w text b X S v) (hN : text.length ≤ 1048576) :
    Calls Try.prog 11 #[ptr b] X fun e Y => ∃ a n c, e = .returned (.agg (rviewC S (.slice a n c))) ∧ X.grownBy Y none := by
  obtain ⟨M, h1, h2, h3, h4⟩ := h
  obtain ⟨bk, vh, E, hA, hE⟩ := h1.ra
  have := k_len h2.ok; have := h2.ok.hl; have := h2.lim
  refine (view_at hA h2.ok (by omega)).mono fun e Y ⟨vr, he, r1, f1, gv⟩ => ?_
  obtain ⟨a, c, rfl, q⟩ := r1.shape
  exact ⟨a, _, c, he, gv⟩
/-- The end of it: all has come, all is read. -/
theorem oj_all {w : World} {text : List Int} {b : Nat} {S : Rv} {v : Value} {n g : Nat} {Y : World} {X : World} (h0 : OI w text b X S v) (h : OJ w text b (takeS S 0 text true) v ((text.length : Int) + 1) n g Y) (hN : text.length ≤ 1048576) (htb : ∀ x ∈ text, IsB x) :
    (readS (takeS S 0 text true) n).ended = true ∧ (readS (takeS S 0 text true) n).read = text.length ∧ (readS (takeS S 0 text true) n).final = text.length ∧ cnt (readS (takeS S 0 text true) n).K - (readS (takeS S 0 text true) n).read = 0 := by
  obtain ⟨M, h1, h2, h3, h4, h5, h6⟩ := h
  exact (ot_all h0.ot hN htb h3).2
end Go.Proofs.Ythihabjegpacaaa

namespace Go.Proofs.Ythihabjegpacaaa
open Go.RowKit
set_option linter.unusedVariables false
set_option maxRecDepth 100000
set_option maxHeartbeats 40000000

theorem orders_some (ad : Addr) (tn tc : Nat) (text : List Int) (pa : Option Addr) (plen pcap : Nat) (pl : List PiE) (w : World) (htl : text.length = tn) (hr : Rd w (some ad) text) (htc : tn ≤ tc ∧ tc ≤ 9223372036854775807) (hN : tn ≤ 1048576) (hp : IsPcs w pa plen pcap pl) (hpl : plen ≤ 1048576) :
    Calls Try.prog 3 #[.slice (some ad) tn tc, .slice pa plen pcap] w fun e w' => e = .returned (.bool true) ∧ w.grownBy w' none := by
  have sh := shown_ok w
  subst htl
  obtain ⟨hlen, hcap, hpok, hcell⟩ := hp
  have htb := hr.1
  have ea : ad.add 0 = ad := add_0 ad
  have NW := hide (fun (X : World) (g : w.grownBy X none) => oi_new (text := text) g hN)
  have TALL := hide (fun (b : Nat) (X : World) (S : Rv) (v : Value) (h : OI w text b X S v) => oi_takeAll h hN (some ad) tc hr htc)
  have VIEW := hide (fun (b : Nat) (X : World) (S : Rv) (v : Value) (h : OI w text b X S v) => oi_view h hN)
  have TAKE := hide (fun (b : Nat) (X : World) (S : Rv) (v : Value) (h : OI w text b X S v) (p q : Nat) (hpq : p ≤ q) (hq : q ≤ text.length) (a' : Option Addr) (pc : Nat) (hr' : Rd w a' ((text.drop p).take (q - p))) (hpc : q - p ≤ pc ∧ pc ≤ 9223372036854775807) (fin : Bool) (hf : fin = true → q = text.length) => oi_take h hN htb hpq hq a' pc hr' hpc fin hf)
  have READ := hide (fun (b : Nat) (X : World) (S : Rv) (v : Value) (h : OI w text b X S v) (most : Int) (hm : i64B most) => oi_read h hN most hm)
  have APP := hide (fun (b : Nat) (S : Rv) (v : Value) (most : Int) (n g : Nat) (Y : World) (h : OJ w text b S v most n g Y) => oj_app h hN htb)
  have PART := hide (fun (p q : Nat) (hpq : p ≤ q) (hq : q ≤ tc) => sl_part (ta := (some ad)) (tn := text.length) (tc := tc) p q hpq hq)
  have ALL := hide (fun (b : Nat) (S : Rv) (v : Value) (n g : Nat) (X Y : World) (h0 : OI w text b X S v) (h : OJ w text b (takeS S 0 text true) v ((text.length : Int) + 1) n g Y) => oj_all h0 h hN htb)
  have HR := hide hr
  have HTB := hide htb
  have HC := hide hcell
  have HO := hide hpok
  have HL := hide hlen
  obtain ⟨N, hNe⟩ : ∃ N, N = text.length := ⟨_, rfl⟩
  rw [← hNe] at htc hN
  have wN : IntKind.i64.wrap ((N : Int) + 1) = ((N + 1 : Nat) : Int) := by rw [IntKind.wrap_i64]; omega
  have HNE := hide hNe
  obtain ⟨htc1, htc2⟩ := htc
  have tcI : (N : Int) ≤ (tc : Int) := by omega
  rw [← hNe]
  clear hr htb hcell hpok hlen hNe
  go_enter Try.func3, Try.ntmps3
  go_wp2_with fail
  refine sh.mono ?_
  rintro e W1 ⟨rfl, g1⟩
  have hn := unhide NW W1 g1
  rw [← unhide HNE] at hn
  clear sh NW g1
  go_wp2_with fail
  refine hn.mono ?_
  rintro e W2 ⟨b, rfl, h2⟩
  replace h2 := hide h2
  clear hn
  go_wp2_with fail
  go_loopw [9, 10, 11] (fun gv ov iv X => ∃ (k : Nat) (S : Rv) (ga : Option Addr) (gn gc : Nat), k ≤ plen ∧ gv = .slice ga gn gc ∧ ov = .bool S.ended ∧ iv = .int .i64 k ∧ Hid (OI w text b X S (.slice ga gn gc))) (fun _ _ iv _ => plen - (intOf iv).toNat)
  case atStart => exact ⟨0, newRv N, none, 0, 0, Nat.zero_le _, rfl, rfl, rfl, h2⟩
  case round =>
    clear h2
    obtain ⟨k, S, ga, gn, gc, hk, rfl, rfl, rfl, I⟩ := hrel
    obtain ⟨X, hX⟩ : ∃ X, X = wr := ⟨_, rfl⟩
    subst hX
    by_cases hlt : k < plen
    · have hkl : k < pl.length := by rw [unhide HL]; exact hlt
      obtain ⟨y, hy⟩ : ∃ y, pl[k]? = some y := ⟨_, List.getElem?_eq_getElem hkl⟩
      have hyo := unhide HO y (List.mem_of_getElem? hy)
      obtain ⟨pb, poff, rfl, hcells⟩ := (unhide HC).resolve_left (by omega)
      have CE := hide (fun (Z : World) (g : w.grownBy Z none) => And.intro (show Z.cell? ⟨pb, poff + k * 3, none⟩ = some (.int .i64 y.at_) from cell_grown (hcells k y hy 0 _ rfl) g) (And.intro (show Z.cell? ⟨pb, poff + k * 3 + 1, none⟩ = some (.int .i64 y.end_) from cell_grown (hcells k y hy 1 _ rfl) g) (show Z.cell? ⟨pb, poff + k * 3 + 2, none⟩ = some (.int .i64 y.most) from cell_grown (hcells k y hy 2 _ rfl) g)))
      have P1 := hide (fun W => pickN y.at_ (N + 1) W hyo.a (by omega) (by omega))
      have P2 := hide (fun W => pickN y.end_ (N + 1) W hyo.e (by omega) (by omega))
      have HM := hide hyo.m
      have hkn : (k : Int) < (plen : Int) := by omega
      have HLT := hide hlt
      obtain ⟨c0, c1, c2⟩ := unhide CE X (unhide I).gr
      clear hkl hcells hy hyo hlt hk
      go_wp2_with fail
      refine (unhide P1 _).mono ?_
      rintro e X' ⟨p0, rfl, hp0, hX'⟩
      subst X'
      go_wp2_with fail
      refine (unhide P2 _).mono ?_
      rintro e X' ⟨q0, rfl, hq0, hX'⟩
      subst X'
      clear P1 P2
      go_upto_if 68 with fail
      go_cut [12, 13] from 44 to 134 (fun av bv wc => ∃ (p q : Nat), av = .int .i64 p ∧ bv = .int .i64 q ∧ p ≤ q ∧ q ≤ N ∧ wc = X)
      case first =>
        by_cases hpq : (q0 : Int) < (p0 : Int)
        · as_aux_lemma =>
          go_wp2_with fail
          go_meet
          case rel => exact ⟨q0, p0, rfl, rfl, by omega, by omega, rfl⟩
        · as_aux_lemma =>
          go_wp2_with fail
          go_meet
          case rel => exact ⟨p0, q0, rfl, rfl, by omega, by omega, rfl⟩
      case rest =>
        obtain ⟨p, q, rfl, rfl, hpq, hqN, hwc⟩ := hcut
        replace hwc := hwc.symm
        subst hwc
        clear hp0 hq0 c0 c1
        obtain ⟨a', hs1, hs2⟩ := unhide PART p q hpq (by omega)
        have hw1 := hs1 X
        have HT := hide (fun fin hf => unhide TAKE b X S _ (unhide I) p q hpq (by rw [← unhide HNE]; exact hqN) a' (tc - p) (hs2 w text (by rw [← unhide HNE]; exact hqN) (unhide HR)) ⟨by omega, by omega⟩ fin hf)
        rw [← unhide HNE] at hw1
        replace hw1 := hide hw1
        clear hs1 hs2
        go_upto_region 15 with fail
        go_cut [14, 15] from 44 to 134 (fun u f wc => ∃ (u' : Value) (S' : Rv) (Y : World), u = u' ∧ Y = wc ∧ f = .int .i64 0 ∧ Hid (OI w text b Y S' (.slice ga gn gc) ∧ S'.ended = S.ended))
        case first =>
          clear CE HM c2 I
          by_cases hq : q = N
          · have hqI : ((q : Int) == (N : Int)) = true := by rw [hq]; simp
            have hqJ : (q == N) = true := by simpa using hq
            have CT := unhide HT true (fun _ => by rw [← unhide HNE]; exact hq)
            have ET := hide (ended_take (S := S) p ((text.drop p).take (q - p)) true).1
            clear HT hq
            as_aux_lemma =>
            go_wp2_with (first | (refine wpList_slice_run _ rfl _ _ _ _ rfl _ _ _ rfl rfl rfl (unhide hw1) ?_))
            refine CT.mono ?_
            rintro e Y ⟨u, rfl, h⟩
            have Q := hide (And.intro h (unhide ET))
            clear CT h
            go_wp2_with fail
            go_meet
            case rel => exact ⟨_, _, _, rfl, rfl, rfl, Q⟩
          · have hqI : ((q : Int) == (N : Int)) = false := by simp; omega
            have hqJ : (q == N) = false := by simpa using hq
            have hqK : ¬ (q : Int) = (N : Int) := by omega
            have CT := unhide HT false (fun h => by cases h)
            have ET := hide (ended_take (S := S) p ((text.drop p).take (q - p)) false).1
            clear HT
            as_aux_lemma =>
            go_wp2_with (first | (refine wpList_slice_run _ rfl _ _ _ _ rfl _ _ _ rfl rfl rfl (unhide hw1) ?_))
            refine CT.mono ?_
            rintro e Y ⟨u, rfl, h⟩
            have Q := hide (And.intro h (unhide ET))
            clear CT h
            go_wp2_with fail
            go_meet
            case rel => exact ⟨_, _, _, rfl, rfl, rfl, Q⟩
        case rest =>
          obtain ⟨u', S', Y, rfl, rfl, rfl, Q⟩ := hcut
          obtain ⟨-, -, c2'⟩ := unhide CE Y (unhide Q).1.gr
          have CR := unhide READ b Y S' _ (unhide Q).1 y.most (unhide HM)
          clear HT hw1 c2 I CE HM
          go_wp2_with fail
          refine CR.mono ?_
          rintro e Y1 ⟨n, g, rfl, hj⟩
          obtain ⟨ga', gc', Z, hap, h3, rdG, l1, l2, l3⟩ := unhide APP b S' _ y.most n g Y1 hj
          obtain ⟨-, -, o3, hrow, -, -, -⟩ := hj
          have o2 := h3.ot
          have fE : Hid ((readS S' n).ended = true → (readS S' n).read.toNat = N) := fun he => by have := ot_end o2 he; have := unhide HNE; omega
          have fO : Hid (S.ended = true → (readS S' n).ended = true ∧ n = 0) := fun he => by
            have he' : S'.ended = true := by rw [(unhide Q).2]; exact he
            exact ⟨end_stays he' n, ot_over o3 he' hrow⟩
          have HAP := hide hap
          have H3 := hide h3
          rw [← unhide HNE] at l3
          have cv1 : Hid (∀ m, (convert 22 9 (.slice ga' (readS S' n).read.toNat gc')).run Try.prog (Z.drewN m) = .ok (.string (strOfNums (text.take (readS S' n).read.toNat))) (Z.drewN m)) := fun m => conv_rd _ _ _ _ _ (by simp; have := unhide HNE; omega) (rdG.grow (grown_drewN _ _))
          have cv2 : Hid (∀ m, (convert 22 9 (.slice (some ad) (readS S' n).read.toNat tc)).run Try.prog (Z.drewN m) = .ok (.string (strOfNums (text.take (readS S' n).read.toNat))) (Z.drewN m)) := fun m => by
            refine conv_rd _ _ _ _ _ (by simp; have := unhide HNE; omega) ?_
            have r0 := (unhide HR).grow (grown_trans h3.gr (grown_drewN Z m))
            refine ⟨fun x hx => r0.1 x (List.mem_of_mem_take hx), fun hne => ?_⟩
            obtain ⟨bb, off, e1, hc⟩ := r0.2 (fun e => hne (by rw [e]; simp))
            refine ⟨bb, off, e1, fun i hi => ?_⟩
            rw [hc i (by simp at hi; omega)]
            have hi' : i < (readS S' n).read.toNat := by simp at hi; omega
            simp [List.getD, hi']
          clear hap h3 rdG o3 hrow o2 CR Q c2'
          generalize text.take (readS S' n).read.toNat = G at *
          generalize (readS S' n).read.toNat = r at *
          obtain ⟨en, HEN⟩ : ∃ en, Hid (en = (readS S' n).ended) := ⟨_, rfl⟩
          rw [← unhide HEN] at fE fO ⊢
          generalize S.ended = ov at *
          go_wp2_with (first | (at_builtin; refine wpList_append_run _ rfl _ _ 22 22 rfl _ _ rfl rfl (unhide HAP) ?_))
          clear HAP
          go_cut [133] from 44 to 134 (fun v wc => ∃ m : Nat, v = .bool false ∧ wc = Z.drewN m)
          case first =>
            have cvA := unhide cv1
            have cvB := unhide cv2
            have cvA0 := cvA 0
            have cvB0 := cvB 0
            have d1 : ¬ (N : Int) < (r : Int) := by omega
            have d1' : decide ((N : Int) < (r : Int)) = false := decide_eq_false d1
            have d1n : ¬ N < r := by omega
            have d1m : decide (N < r) = false := decide_eq_false d1n
            have d2 : (r : Int) ≤ (tc : Int) := by omega
            have d2n : r ≤ tc := by omega
            clear cv1 cv2 H3 l3 l1 l2
            cases en with
            | true =>
              have hrN := unhide fE rfl
              have e1 : ((r : Int) != (N : Int)) = false := by simp [hrN]
              have e1' : ((r : Int) == (N : Int)) = true := by simp [hrN]
              have e1n : (r != N) = false := by simp [hrN]
              have e1m : (r == N) = true := by simp [hrN]
              clear hrN fE
              cases ov with
              | true =>
                have hn0 := (unhide fO rfl).2
                have z1 : ¬ (0 : Int) < (n : Int) := by omega
                have z2 : decide ((0 : Int) < (n : Int)) = false := decide_eq_false z1
                have z3 : decide (0 < n) = false := decide_eq_false (by omega)
                clear hn0 fO
                as_aux_lemma =>
                go_wp2_with fail
                go_quiet (fail)
                go_wp2_with fail
                go_meet
                case rel => exact ⟨_, by simp, rfl⟩
              | false =>
                clear fO
                as_aux_lemma =>
                go_wp2_with fail
                go_quiet (fail)
                go_wp2_with fail
                go_meet
                case rel => exact ⟨_, by simp, rfl⟩
            | false =>
              cases ov with
              | true => exact absurd (unhide fO rfl).1 (by simp)
              | false =>
                clear fE fO
                as_aux_lemma =>
                go_wp2_with fail
                go_quiet (fail)
                go_wp2_with fail
                go_meet
                case rel => exact ⟨_, by simp, rfl⟩
          case rest =>
            obtain ⟨m, rfl, hwc⟩ := hcut
            subst hwc
            have H4 := hide ((unhide H3).grown (grown_drewN Z m))
            generalize hdum : Z.drewN m = Z9 at *
            clear hdum l1 l2 l3 cv1 cv2 fE fO
            go_wp2_with fail
            go_roundw
            case rel => exact ⟨k + 1, readS S' n, ga', r, gc', unhide HLT, rfl, by rw [unhide HEN], by go_num, H4⟩
            case measure => have := unhide HLT; simp [intOf]; omega
    · have hno : ¬ (k : Int) < (plen : Int) := by omega
      clear hlt hk
      go_wp2_with fail
      go_loopw [18] (fun iv X' => ∃ (z : Int) (S' : Rv), -1 ≤ z ∧ z ≤ (N : Int) ∧ iv = .int .i64 z ∧ Hid (OI w text b X' S' (.slice ga gn gc))) (fun iv _ => (intOf iv + 1).toNat)
      case atStart => exact ⟨(N : Int), S, by omega, by omega, rfl, I⟩
      case round =>
        clear I
        obtain ⟨z, S', hz1, hz2, rfl, I⟩ := hrel
        by_cases hz : 0 ≤ z
        · obtain ⟨j, rfl⟩ : ∃ j : Nat, z = (j : Int) := ⟨z.toNat, by omega⟩
          have hjN : j ≤ N := by omega
          obtain ⟨a', hs1, hs2⟩ := unhide PART j N hjN (by omega)
          have hw1 := hs1 wr
          rw [← unhide HNE] at hw1
          replace hw1 := hide hw1
          have CT := unhide TAKE b wr S' _ (unhide I) j N hjN (by rw [← unhide HNE]; exact Nat.le_refl _) a' (tc - j) (hs2 w text (by rw [← unhide HNE]; exact Nat.le_refl _) (unhide HR)) ⟨by omega, by omega⟩ true (fun _ => unhide HNE)
          have ji : IntKind.i64.wrap ((j : Int) - 1) = (j : Int) - 1 := by rw [IntKind.wrap_i64]; omega
          have HJ := hide hjN
          clear hs1 hs2 I hz1 hz2 hjN
          go_wp2_with (first | (refine wpList_slice_run _ rfl _ _ _ _ rfl _ _ _ rfl rfl rfl (unhide hw1) ?_))
          refine CT.mono ?_
          rintro e X2 ⟨u, rfl, h⟩
          replace h := hide h
          clear CT hw1
          generalize takeS S' (j : Int) ((text.drop j).take (N - j)) true = S2 at *
          by_cases hb : (4096 : Int) < (N : Int)
          · skip
            obtain ⟨X9, hX9⟩ : ∃ X9, X9 = X2 := ⟨_, rfl⟩
            rw [← hX9]
            have I9 : Hid (OI w text b X9 S2 (.slice ga gn gc)) := by show OI _ _ _ _ _ _; rw [hX9]; exact unhide h
            have CT := unhide TALL b X9 S2 _ (unhide I9)
            rw [← unhide HNE] at CT
            clear hX9 h
            go_wp2_with fail
            refine CT.mono ?_
            rintro e Y ⟨u, rfl, h⟩
            have CR := unhide READ b Y _ _ h ((N + 1 : Nat) : Int) ⟨by omega, by omega⟩
            clear CT
            go_wp2_with fail
            refine CR.mono ?_
            rintro e Y1 ⟨n, g, rfl, hj⟩
            obtain ⟨ga', gc', Z, hap, h3, rdG, l1, l2, l3⟩ := unhide APP b _ _ _ n g Y1 hj
            have hmost : (((N + 1 : Nat) : Int)) = (text.length : Int) + 1 := by have := unhide HNE; omega
            rw [hmost] at hj
            obtain ⟨f1, f2, f3, f4⟩ := unhide ALL b S2 _ n g X9 Y1 (unhide I9) hj
            have er : (readS (takeS S2 0 text true) n).read.toNat = N := by rw [f2]; have := unhide HNE; omega
            have et : text.take N = text := by rw [unhide HNE]; simp
            have HAP := hide hap
            have CV := unhide VIEW b Z _ _ h3
            have G3 := hide h3.gr
            unfold rviewC at CV
            rw [f4, f3, f1, f2] at CV
            rw [er] at HAP rdG
            rw [et] at rdG
            rw [f1]
            rw [← unhide HNE] at CV
            have rdZ := hide rdG
            clear hap h3 rdG hj f1 f2 f3 f4 er et hmost CR h I9 l1 l2 l3
            go_wp2_with (first | (at_builtin; refine wpList_append_run _ rfl _ _ 22 22 rfl _ _ rfl rfl (unhide HAP) ?_))
            refine CV.mono ?_
            rintro e Z1 ⟨va, vn, vc, rfl, gv⟩
            clear CV HAP
            obtain ⟨Z2, hZ2⟩ : ∃ Z2, Z2 = Z1.alloc (.cells #[.int .i64 (readS (takeS S2 0 text true) n).limit, .int .i64 N, .int .i64 (readS (takeS S2 0 text true) n).high, .int .i64 N, .int .i64 0, .slice va vn vc, .bool true, .bool (readS (takeS S2 0 text true) n).reset] 38) := ⟨_, rfl⟩
            have g2 : Z.grownBy Z2 none := by rw [hZ2]; exact grown_trans gv (grown_alloc _ _)
            have bv : Blk Z2 Z1.heap.size #[.int .i64 (readS (takeS S2 0 text true) n).limit, .int .i64 N, .int .i64 (readS (takeS S2 0 text true) n).high, .int .i64 N, .int .i64 0, .slice va vn vc, .bool true, .bool (readS (takeS S2 0 text true) n).reset] 38 := by rw [hZ2]; exact Blk.new _ _ _
            have m3 := bv.cell 3 _ rfl
            have m4 := bv.cell 4 _ rfl
            have m6 := bv.cell 6 _ rfl
            have GE := hide (grown_trans (unhide G3) g2)
            have cv1 : (convert 22 9 (.slice ga' N gc')).run Try.prog Z2 = .ok (.string (strOfNums text)) Z2 := conv_rd _ _ _ _ _ (unhide HNE).symm ((unhide rdZ).grow g2)
            have cv2 : (convert 22 9 (.slice (some ad) N tc)).run Try.prog Z2 = .ok (.string (strOfNums text)) Z2 := conv_rd _ _ _ _ _ (unhide HNE).symm ((unhide HR).grow (unhide GE))
            rw [hZ2] at m3 m4 m6 cv1 cv2 GE
            have ee : ((N : Int) == (N : Int)) = true := by simp
            generalize strOfNums text = SS at *
            clear g2 bv gv rdZ G3 hZ2
            go_wp2_with fail
            go_ret
            exact ⟨by simp, unhide GE⟩
          · go_wp2_with fail
            go_roundw
            case rel => exact ⟨(j : Int) - 1, S2, by omega, by have := unhide HJ; omega, rfl, h⟩
            case measure => simp [intOf]
        · clear hz1 hz2
          obtain ⟨X9, hX9⟩ : ∃ X9, X9 = wr := ⟨_, rfl⟩
          rw [← hX9]
          have I9 : Hid (OI w text b X9 S' (.slice ga gn gc)) := by show OI _ _ _ _ _ _; rw [hX9]; exact unhide I
          have CT := unhide TALL b X9 S' _ (unhide I9)
          rw [← unhide HNE] at CT
          clear hX9 I
          go_wp2_with fail
          refine CT.mono ?_
          rintro e Y ⟨u, rfl, h⟩
          have CR := unhide READ b Y _ _ h ((N + 1 : Nat) : Int) ⟨by omega, by omega⟩
          clear CT
          go_wp2_with fail
          refine CR.mono ?_
          rintro e Y1 ⟨n, g, rfl, hj⟩
          obtain ⟨ga', gc', Z, hap, h3, rdG, l1, l2, l3⟩ := unhide APP b _ _ _ n g Y1 hj
          have hmost : (((N + 1 : Nat) : Int)) = (text.length : Int) + 1 := by have := unhide HNE; omega
          rw [hmost] at hj
          obtain ⟨f1, f2, f3, f4⟩ := unhide ALL b S' _ n g X9 Y1 (unhide I9) hj
          have er : (readS (takeS S' 0 text true) n).read.toNat = N := by rw [f2]; have := unhide HNE; omega
          have et : text.take N = text := by rw [unhide HNE]; simp
          have HAP := hide hap
          have CV := unhide VIEW b Z _ _ h3
          have G3 := hide h3.gr
          unfold rviewC at CV
          rw [f4, f3, f1, f2] at CV
          rw [er] at HAP rdG
          rw [et] at rdG
          rw [f1]
          rw [← unhide HNE] at CV
          have rdZ := hide rdG
          clear hap h3 rdG hj f1 f2 f3 f4 er et hmost CR h I9 l1 l2 l3
          go_wp2_with (first | (at_builtin; refine wpList_append_run _ rfl _ _ 22 22 rfl _ _ rfl rfl (unhide HAP) ?_))
          refine CV.mono ?_
          rintro e Z1 ⟨va, vn, vc, rfl, gv⟩
          clear CV HAP
          obtain ⟨Z2, hZ2⟩ : ∃ Z2, Z2 = Z1.alloc (.cells #[.int .i64 (readS (takeS S' 0 text true) n).limit, .int .i64 N, .int .i64 (readS (takeS S' 0 text true) n).high, .int .i64 N, .int .i64 0, .slice va vn vc, .bool true, .bool (readS (takeS S' 0 text true) n).reset] 38) := ⟨_, rfl⟩
          have g2 : Z.grownBy Z2 none := by rw [hZ2]; exact grown_trans gv (grown_alloc _ _)
          have bv : Blk Z2 Z1.heap.size #[.int .i64 (readS (takeS S' 0 text true) n).limit, .int .i64 N, .int .i64 (readS (takeS S' 0 text true) n).high, .int .i64 N, .int .i64 0, .slice va vn vc, .bool true, .bool (readS (takeS S' 0 text true) n).reset] 38 := by rw [hZ2]; exact Blk.new _ _ _
          have m3 := bv.cell 3 _ rfl
          have m4 := bv.cell 4 _ rfl
          have m6 := bv.cell 6 _ rfl
          have GE := hide (grown_trans (unhide G3) g2)
          have cv1 : (convert 22 9 (.slice ga' N gc')).run Try.prog Z2 = .ok (.string (strOfNums text)) Z2 := conv_rd _ _ _ _ _ (unhide HNE).symm ((unhide rdZ).grow g2)
          have cv2 : (convert 22 9 (.slice (some ad) N tc)).run Try.prog Z2 = .ok (.string (strOfNums text)) Z2 := conv_rd _ _ _ _ _ (unhide HNE).symm ((unhide HR).grow (unhide GE))
          rw [hZ2] at m3 m4 m6 cv1 cv2 GE
          have ee : ((N : Int) == (N : Int)) = true := by simp
          generalize strOfNums text = SS at *
          clear g2 bv gv rdZ G3 hZ2
          go_wp2_with fail
          go_ret
          exact ⟨by simp, unhide GE⟩
end Go.Proofs.Ythihabjegpacaaa

namespace Go.Proofs.Ythihabjegpacaaa
open Go.RowKit
set_option linter.unusedVariables false
set_option maxRecDepth 100000
set_option maxHeartbeats 40000000

theorem orders_none (tn tc : Nat) (text : List Int) (pa : Option Addr) (plen pcap : Nat) (pl : List PiE) (w : World) (htl : text.length = tn) (hr : Rd w none text) (htc : tn ≤ tc ∧ tc ≤ 9223372036854775807) (hN : tn ≤ 1048576) (hp : IsPcs w pa plen pcap pl) (hpl : plen ≤ 1048576) :
    Calls Try.prog 3 #[.slice none tn tc, .slice pa plen pcap] w fun e w' => e = .returned (.bool true) ∧ w.grownBy w' none := by
  have sh := shown_ok w
  subst htl
  obtain ⟨hlen, hcap, hpok, hcell⟩ := hp
  have htb := hr.1
  have NW := hide (fun (X : World) (g : w.grownBy X none) => oi_new (text := text) g hN)
  have TALL := hide (fun (b : Nat) (X : World) (S : Rv) (v : Value) (h : OI w text b X S v) => oi_takeAll h hN none tc hr htc)
  have VIEW := hide (fun (b : Nat) (X : World) (S : Rv) (v : Value) (h : OI w text b X S v) => oi_view h hN)
  have TAKE := hide (fun (b : Nat) (X : World) (S : Rv) (v : Value) (h : OI w text b X S v) (p q : Nat) (hpq : p ≤ q) (hq : q ≤ text.length) (a' : Option Addr) (pc : Nat) (hr' : Rd w a' ((text.drop p).take (q - p))) (hpc : q - p ≤ pc ∧ pc ≤ 9223372036854775807) (fin : Bool) (hf : fin = true → q = text.length) => oi_take h hN htb hpq hq a' pc hr' hpc fin hf)
  have READ := hide (fun (b : Nat) (X : World) (S : Rv) (v : Value) (h : OI w text b X S v) (most : Int) (hm : i64B most) => oi_read h hN most hm)
  have APP := hide (fun (b : Nat) (S : Rv) (v : Value) (most : Int) (n g : Nat) (Y : World) (h : OJ w text b S v most n g Y) => oj_app h hN htb)
  have PART := hide (fun (p q : Nat) (hpq : p ≤ q) (hq : q ≤ tc) => sl_part (ta := none) (tn := text.length) (tc := tc) p q hpq hq)
  have ALL := hide (fun (b : Nat) (S : Rv) (v : Value) (n g : Nat) (X Y : World) (h0 : OI w text b X S v) (h : OJ w text b (takeS S 0 text true) v ((text.length : Int) + 1) n g Y) => oj_all h0 h hN htb)
  have HR := hide hr
  have HTB := hide htb
  have HC := hide hcell
  have HO := hide hpok
  have HL := hide hlen
  obtain ⟨N, hNe⟩ : ∃ N, N = text.length := ⟨_, rfl⟩
  rw [← hNe] at htc hN
  have wN : IntKind.i64.wrap ((N : Int) + 1) = ((N + 1 : Nat) : Int) := by rw [IntKind.wrap_i64]; omega
  have HNE := hide hNe
  obtain ⟨htc1, htc2⟩ := htc
  have tcI : (N : Int) ≤ (tc : Int) := by omega
  rw [← hNe]
  clear hr htb hcell hpok hlen hNe
  go_enter Try.func3, Try.ntmps3
  go_wp2_with fail
  refine sh.mono ?_
  rintro e W1 ⟨rfl, g1⟩
  have hn := unhide NW W1 g1
  rw [← unhide HNE] at hn
  clear sh NW g1
  go_wp2_with fail
  refine hn.mono ?_
  rintro e W2 ⟨b, rfl, h2⟩
  replace h2 := hide h2
  clear hn
  go_wp2_with fail
  go_loopw [9, 10, 11] (fun gv ov iv X => ∃ (k : Nat) (S : Rv) (ga : Option Addr) (gn gc : Nat), k ≤ plen ∧ gv = .slice ga gn gc ∧ ov = .bool S.ended ∧ iv = .int .i64 k ∧ Hid (OI w text b X S (.slice ga gn gc))) (fun _ _ iv _ => plen - (intOf iv).toNat)
  case atStart => exact ⟨0, newRv N, none, 0, 0, Nat.zero_le _, rfl, rfl, rfl, h2⟩
  case round =>
    clear h2
    obtain ⟨k, S, ga, gn, gc, hk, rfl, rfl, rfl, I⟩ := hrel
    obtain ⟨X, hX⟩ : ∃ X, X = wr := ⟨_, rfl⟩
    subst hX
    by_cases hlt : k < plen
    · have hkl : k < pl.length := by rw [unhide HL]; exact hlt
      obtain ⟨y, hy⟩ : ∃ y, pl[k]? = some y := ⟨_, List.getElem?_eq_getElem hkl⟩
      have hyo := unhide HO y (List.mem_of_getElem? hy)
      obtain ⟨pb, poff, rfl, hcells⟩ := (unhide HC).resolve_left (by omega)
      have CE := hide (fun (Z : World) (g : w.grownBy Z none) => And.intro (show Z.cell? ⟨pb, poff + k * 3, none⟩ = some (.int .i64 y.at_) from cell_grown (hcells k y hy 0 _ rfl) g) (And.intro (show Z.cell? ⟨pb, poff + k * 3 + 1, none⟩ = some (.int .i64 y.end_) from cell_grown (hcells k y hy 1 _ rfl) g) (show Z.cell? ⟨pb, poff + k * 3 + 2, none⟩ = some (.int .i64 y.most) from cell_grown (hcells k y hy 2 _ rfl) g)))
      have P1 := hide (fun W => pickN y.at_ (N + 1) W hyo.a (by omega) (by omega))
      have P2 := hide (fun W => pickN y.end_ (N + 1) W hyo.e (by omega) (by omega))
      have HM := hide hyo.m
      have hkn : (k : Int) < (plen : Int) := by omega
      have HLT := hide hlt
      obtain ⟨c0, c1, c2⟩ := unhide CE X (unhide I).gr
      clear hkl hcells hy hyo hlt hk
      go_wp2_with fail
      refine (unhide P1 _).mono ?_
      rintro e X' ⟨p0, rfl, hp0, hX'⟩
      subst X'
      go_wp2_with fail
      refine (unhide P2 _).mono ?_
      rintro e X' ⟨q0, rfl, hq0, hX'⟩
      subst X'
      clear P1 P2
      go_upto_if 68 with fail
      go_cut [12, 13] from 44 to 134 (fun av bv wc => ∃ (p q : Nat), av = .int .i64 p ∧ bv = .int .i64 q ∧ p ≤ q ∧ q ≤ N ∧ wc = X)
      case first =>
        by_cases hpq : (q0 : Int) < (p0 : Int)
        · as_aux_lemma =>
          go_wp2_with fail
          go_meet
          case rel => exact ⟨q0, p0, rfl, rfl, by omega, by omega, rfl⟩
        · as_aux_lemma =>
          go_wp2_with fail
          go_meet
          case rel => exact ⟨p0, q0, rfl, rfl, by omega, by omega, rfl⟩
      case rest =>
        obtain ⟨p, q, rfl, rfl, hpq, hqN, hwc⟩ := hcut
        replace hwc := hwc.symm
        subst hwc
        clear hp0 hq0 c0 c1
        obtain ⟨a', hs1, hs2⟩ := unhide PART p q hpq (by omega)
        have hw1 := hs1 X
        have HT := hide (fun fin hf => unhide TAKE b X S _ (unhide I) p q hpq (by rw [← unhide HNE]; exact hqN) a' (tc - p) (hs2 w text (by rw [← unhide HNE]; exact hqN) (unhide HR)) ⟨by omega, by omega⟩ fin hf)
        rw [← unhide HNE] at hw1
        replace hw1 := hide hw1
        clear hs1 hs2
        go_upto_region 15 with fail
        go_cut [14, 15] from 44 to 134 (fun u f wc => ∃ (u' : Value) (S' : Rv) (Y : World), u = u' ∧ Y = wc ∧ f = .int .i64 0 ∧ Hid (OI w text b Y S' (.slice ga gn gc) ∧ S'.ended = S.ended))
        case first =>
          clear CE HM c2 I
          by_cases hq : q = N
          · have hqI : ((q : Int) == (N : Int)) = true := by rw [hq]; simp
            have hqJ : (q == N) = true := by simpa using hq
            have CT := unhide HT true (fun _ => by rw [← unhide HNE]; exact hq)
            have ET := hide (ended_take (S := S) p ((text.drop p).take (q - p)) true).1
            clear HT hq
            as_aux_lemma =>
            go_wp2_with (first | (refine wpList_slice_run _ rfl _ _ _ _ rfl _ _ _ rfl rfl rfl (unhide hw1) ?_))
            refine CT.mono ?_
            rintro e Y ⟨u, rfl, h⟩
            have Q := hide (And.intro h (unhide ET))
            clear CT h
            go_wp2_with fail
            go_meet
            case rel => exact ⟨_, _, _, rfl, rfl, rfl, Q⟩
          · have hqI : ((q : Int) == (N : Int)) = false := by simp; omega
            have hqJ : (q == N) = false := by simpa using hq
            have hqK : ¬ (q : Int) = (N : Int) := by omega
            have CT := unhide HT false (fun h => by cases h)
            have ET := hide (ended_take (S := S) p ((text.drop p).take (q - p)) false).1
            clear HT
            as_aux_lemma =>
            go_wp2_with (first | (refine wpList_slice_run _ rfl _ _ _ _ rfl _ _ _ rfl rfl rfl (unhide hw1) ?_))
            refine CT.mono ?_
            rintro e Y ⟨u, rfl, h⟩
            have Q := hide (And.intro h (unhide ET))
            clear CT h
            go_wp2_with fail
            go_meet
            case rel => exact ⟨_, _, _, rfl, rfl, rfl, Q⟩
        case rest =>
          obtain ⟨u', S', Y, rfl, rfl, rfl, Q⟩ := hcut
          obtain ⟨-, -, c2'⟩ := unhide CE Y (unhide Q).1.gr
          have CR := unhide READ b Y S' _ (unhide Q).1 y.most (unhide HM)
          clear HT hw1 c2 I CE HM
          go_wp2_with fail
          refine CR.mono ?_
          rintro e Y1 ⟨n, g, rfl, hj⟩
          obtain ⟨ga', gc', Z, hap, h3, rdG, l1, l2, l3⟩ := unhide APP b S' _ y.most n g Y1 hj
          obtain ⟨-, -, o3, hrow, -, -, -⟩ := hj
          have o2 := h3.ot
          have fE : Hid ((readS S' n).ended = true → (readS S' n).read.toNat = N) := fun he => by have := ot_end o2 he; have := unhide HNE; omega
          have fO : Hid (S.ended = true → (readS S' n).ended = true ∧ n = 0) := fun he => by
            have he' : S'.ended = true := by rw [(unhide Q).2]; exact he
            exact ⟨end_stays he' n, ot_over o3 he' hrow⟩
          have HAP := hide hap
          have H3 := hide h3
          rw [← unhide HNE] at l3
          have cv1 : Hid (∀ m, (convert 22 9 (.slice ga' (readS S' n).read.toNat gc')).run Try.prog (Z.drewN m) = .ok (.string (strOfNums (text.take (readS S' n).read.toNat))) (Z.drewN m)) := fun m => conv_rd _ _ _ _ _ (by simp; have := unhide HNE; omega) (rdG.grow (grown_drewN _ _))
          have cv2 : Hid (∀ m, (convert 22 9 (.slice none (readS S' n).read.toNat tc)).run Try.prog (Z.drewN m) = .ok (.string (strOfNums (text.take (readS S' n).read.toNat))) (Z.drewN m)) := fun m => by
            refine conv_rd _ _ _ _ _ (by simp; have := unhide HNE; omega) ?_
            have r0 := (unhide HR).grow (grown_trans h3.gr (grown_drewN Z m))
            refine ⟨fun x hx => r0.1 x (List.mem_of_mem_take hx), fun hne => ?_⟩
            obtain ⟨bb, off, e1, hc⟩ := r0.2 (fun e => hne (by rw [e]; simp))
            refine ⟨bb, off, e1, fun i hi => ?_⟩
            rw [hc i (by simp at hi; omega)]
            have hi' : i < (readS S' n).read.toNat := by simp at hi; omega
            simp [List.getD, hi']
          clear hap h3 rdG o3 hrow o2 CR Q c2'
          generalize text.take (readS S' n).read.toNat = G at *
          generalize (readS S' n).read.toNat = r at *
          obtain ⟨en, HEN⟩ : ∃ en, Hid (en = (readS S' n).ended) := ⟨_, rfl⟩
          rw [← unhide HEN] at fE fO ⊢
          generalize S.ended = ov at *
          go_wp2_with (first | (at_builtin; refine wpList_append_run _ rfl _ _ 22 22 rfl _ _ rfl rfl (unhide HAP) ?_))
          clear HAP
          go_cut [133] from 44 to 134 (fun v wc => ∃ m : Nat, v = .bool false ∧ wc = Z.drewN m)
          case first =>
            have cvA := unhide cv1
            have cvB := unhide cv2
            have cvA0 := cvA 0
            have cvB0 := cvB 0
            have d1 : ¬ (N : Int) < (r : Int) := by omega
            have d1' : decide ((N : Int) < (r : Int)) = false := decide_eq_false d1
            have d1n : ¬ N < r := by omega
            have d1m : decide (N < r) = false := decide_eq_false d1n
            have d2 : (r : Int) ≤ (tc : Int) := by omega
            have d2n : r ≤ tc := by omega
            clear cv1 cv2 H3 l3 l1 l2
            cases en with
            | true =>
              have hrN := unhide fE rfl
              have e1 : ((r : Int) != (N : Int)) = false := by simp [hrN]
              have e1' : ((r : Int) == (N : Int)) = true := by simp [hrN]
              have e1n : (r != N) = false := by simp [hrN]
              have e1m : (r == N) = true := by simp [hrN]
              clear hrN fE
              cases ov with
              | true =>
                have hn0 := (unhide fO rfl).2
                have z1 : ¬ (0 : Int) < (n : Int) := by omega
                have z2 : decide ((0 : Int) < (n : Int)) = false := decide_eq_false z1
                have z3 : decide (0 < n) = false := decide_eq_false (by omega)
                clear hn0 fO
                as_aux_lemma =>
                go_wp2_with fail
                go_quiet (fail)
                go_wp2_with fail
                go_meet
                case rel => exact ⟨_, by simp, rfl⟩
              | false =>
                clear fO
                as_aux_lemma =>
                go_wp2_with fail
                go_quiet (fail)
                go_wp2_with fail
                go_meet
                case rel => exact ⟨_, by simp, rfl⟩
            | false =>
              cases ov with
              | true => exact absurd (unhide fO rfl).1 (by simp)
              | false =>
                clear fE fO
                as_aux_lemma =>
                go_wp2_with fail
                go_quiet (fail)
                go_wp2_with fail
                go_meet
                case rel => exact ⟨_, by simp, rfl⟩
          case rest =>
            obtain ⟨m, rfl, hwc⟩ := hcut
            subst hwc
            have H4 := hide ((unhide H3).grown (grown_drewN Z m))
            generalize hdum : Z.drewN m = Z9 at *
            clear hdum l1 l2 l3 cv1 cv2 fE fO
            go_wp2_with fail
            go_roundw
            case rel => exact ⟨k + 1, readS S' n, ga', r, gc', unhide HLT, rfl, by rw [unhide HEN], by go_num, H4⟩
            case measure => have := unhide HLT; simp [intOf]; omega
    · have hno : ¬ (k : Int) < (plen : Int) := by omega
      clear hlt hk
      go_wp2_with fail
      go_loopw [18] (fun iv X' => ∃ (z : Int) (S' : Rv), -1 ≤ z ∧ z ≤ (N : Int) ∧ iv = .int .i64 z ∧ Hid (OI w text b X' S' (.slice ga gn gc))) (fun iv _ => (intOf iv + 1).toNat)
      case atStart => exact ⟨(N : Int), S, by omega, by omega, rfl, I⟩
      case round =>
        clear I
        obtain ⟨z, S', hz1, hz2, rfl, I⟩ := hrel
        by_cases hz : 0 ≤ z
        · obtain ⟨j, rfl⟩ : ∃ j : Nat, z = (j : Int) := ⟨z.toNat, by omega⟩
          have hjN : j ≤ N := by omega
          obtain ⟨a', hs1, hs2⟩ := unhide PART j N hjN (by omega)
          have hw1 := hs1 wr
          rw [← unhide HNE] at hw1
          replace hw1 := hide hw1
          have CT := unhide TAKE b wr S' _ (unhide I) j N hjN (by rw [← unhide HNE]; exact Nat.le_refl _) a' (tc - j) (hs2 w text (by rw [← unhide HNE]; exact Nat.le_refl _) (unhide HR)) ⟨by omega, by omega⟩ true (fun _ => unhide HNE)
          have ji : IntKind.i64.wrap ((j : Int) - 1) = (j : Int) - 1 := by rw [IntKind.wrap_i64]; omega
          have HJ := hide hjN
          clear hs1 hs2 I hz1 hz2 hjN
          go_wp2_with (first | (refine wpList_slice_run _ rfl _ _ _ _ rfl _ _ _ rfl rfl rfl (unhide hw1) ?_))
          refine CT.mono ?_
          rintro e X2 ⟨u, rfl, h⟩
          replace h := hide h
          clear CT hw1
          generalize takeS S' (j : Int) ((text.drop j).take (N - j)) true = S2 at *
          by_cases hb : (4096 : Int) < (N : Int)
          · skip
            obtain ⟨X9, hX9⟩ : ∃ X9, X9 = X2 := ⟨_, rfl⟩
            rw [← hX9]
            have I9 : Hid (OI w text b X9 S2 (.slice ga gn gc)) := by show OI _ _ _ _ _ _; rw [hX9]; exact unhide h
            have CT := unhide TALL b X9 S2 _ (unhide I9)
            rw [← unhide HNE] at CT
            clear hX9 h
            go_wp2_with fail
            refine CT.mono ?_
            rintro e Y ⟨u, rfl, h⟩
            have CR := unhide READ b Y _ _ h ((N + 1 : Nat) : Int) ⟨by omega, by omega⟩
            clear CT
            go_wp2_with fail
            refine CR.mono ?_
            rintro e Y1 ⟨n, g, rfl, hj⟩
            obtain ⟨ga', gc', Z, hap, h3, rdG, l1, l2, l3⟩ := unhide APP b _ _ _ n g Y1 hj
            have hmost : (((N + 1 : Nat) : Int)) = (text.length : Int) + 1 := by have := unhide HNE; omega
            rw [hmost] at hj
            obtain ⟨f1, f2, f3, f4⟩ := unhide ALL b S2 _ n g X9 Y1 (unhide I9) hj
            have er : (readS (takeS S2 0 text true) n).read.toNat = N := by rw [f2]; have := unhide HNE; omega
            have et : text.take N = text := by rw [unhide HNE]; simp
            have HAP := hide hap
            have CV := unhide VIEW b Z _ _ h3
            have G3 := hide h3.gr
            unfold rviewC at CV
            rw [f4, f3, f1, f2] at CV
            rw [er] at HAP rdG
            rw [et] at rdG
            rw [f1]
            rw [← unhide HNE] at CV
            have rdZ := hide rdG
            clear hap h3 rdG hj f1 f2 f3 f4 er et hmost CR h I9 l1 l2 l3
            go_wp2_with (first | (at_builtin; refine wpList_append_run _ rfl _ _ 22 22 rfl _ _ rfl rfl (unhide HAP) ?_))
            refine CV.mono ?_
            rintro e Z1 ⟨va, vn, vc, rfl, gv⟩
            clear CV HAP
            obtain ⟨Z2, hZ2⟩ : ∃ Z2, Z2 = Z1.alloc (.cells #[.int .i64 (readS (takeS S2 0 text true) n).limit, .int .i64 N, .int .i64 (readS (takeS S2 0 text true) n).high, .int .i64 N, .int .i64 0, .slice va vn vc, .bool true, .bool (readS (takeS S2 0 text true) n).reset] 38) := ⟨_, rfl⟩
            have g2 : Z.grownBy Z2 none := by rw [hZ2]; exact grown_trans gv (grown_alloc _ _)
            have bv : Blk Z2 Z1.heap.size #[.int .i64 (readS (takeS S2 0 text true) n).limit, .int .i64 N, .int .i64 (readS (takeS S2 0 text true) n).high, .int .i64 N, .int .i64 0, .slice va vn vc, .bool true, .bool (readS (takeS S2 0 text true) n).reset] 38 := by rw [hZ2]; exact Blk.new _ _ _
            have m3 := bv.cell 3 _ rfl
            have m4 := bv.cell 4 _ rfl
            have m6 := bv.cell 6 _ rfl
            have GE := hide (grown_trans (unhide G3) g2)
            have cv1 : (convert 22 9 (.slice ga' N gc')).run Try.prog Z2 = .ok (.string (strOfNums text)) Z2 := conv_rd _ _ _ _ _ (unhide HNE).symm ((unhide rdZ).grow g2)
            have cv2 : (convert 22 9 (.slice none N tc)).run Try.prog Z2 = .ok (.string (strOfNums text)) Z2 := conv_rd _ _ _ _ _ (unhide HNE).symm ((unhide HR).grow (unhide GE))
            rw [hZ2] at m3 m4 m6 cv1 cv2 GE
            have ee : ((N : Int) == (N : Int)) = true := by simp
            generalize strOfNums text = SS at *
            clear g2 bv gv rdZ G3 hZ2
            go_wp2_with fail
            go_ret
            exact ⟨by simp, unhide GE⟩
          · go_wp2_with fail
            go_roundw
            case rel => exact ⟨(j : Int) - 1, S2, by omega, by have := unhide HJ; omega, rfl, h⟩
            case measure => simp [intOf]
        · clear hz1 hz2
          obtain ⟨X9, hX9⟩ : ∃ X9, X9 = wr := ⟨_, rfl⟩
          rw [← hX9]
          have I9 : Hid (OI w text b X9 S' (.slice ga gn gc)) := by show OI _ _ _ _ _ _; rw [hX9]; exact unhide I
          have CT := unhide TALL b X9 S' _ (unhide I9)
          rw [← unhide HNE] at CT
          clear hX9 I
          go_wp2_with fail
          refine CT.mono ?_
          rintro e Y ⟨u, rfl, h⟩
          have CR := unhide READ b Y _ _ h ((N + 1 : Nat) : Int) ⟨by omega, by omega⟩
          clear CT
          go_wp2_with fail
          refine CR.mono ?_
          rintro e Y1 ⟨n, g, rfl, hj⟩
          obtain ⟨ga', gc', Z, hap, h3, rdG, l1, l2, l3⟩ := unhide APP b _ _ _ n g Y1 hj
          have hmost : (((N + 1 : Nat) : Int)) = (text.length : Int) + 1 := by have := unhide HNE; omega
          rw [hmost] at hj
          obtain ⟨f1, f2, f3, f4⟩ := unhide ALL b S' _ n g X9 Y1 (unhide I9) hj
          have er : (readS (takeS S' 0 text true) n).read.toNat = N := by rw [f2]; have := unhide HNE; omega
          have et : text.take N = text := by rw [unhide HNE]; simp
          have HAP := hide hap
          have CV := unhide VIEW b Z _ _ h3
          have G3 := hide h3.gr
          unfold rviewC at CV
          rw [f4, f3, f1, f2] at CV
          rw [er] at HAP rdG
          rw [et] at rdG
          rw [f1]
          rw [← unhide HNE] at CV
          have rdZ := hide rdG
          clear hap h3 rdG hj f1 f2 f3 f4 er et hmost CR h I9 l1 l2 l3
          go_wp2_with (first | (at_builtin; refine wpList_append_run _ rfl _ _ 22 22 rfl _ _ rfl rfl (unhide HAP) ?_))
          refine CV.mono ?_
          rintro e Z1 ⟨va, vn, vc, rfl, gv⟩
          clear CV HAP
          obtain ⟨Z2, hZ2⟩ : ∃ Z2, Z2 = Z1.alloc (.cells #[.int .i64 (readS (takeS S' 0 text true) n).limit, .int .i64 N, .int .i64 (readS (takeS S' 0 text true) n).high, .int .i64 N, .int .i64 0, .slice va vn vc, .bool true, .bool (readS (takeS S' 0 text true) n).reset] 38) := ⟨_, rfl⟩
          have g2 : Z.grownBy Z2 none := by rw [hZ2]; exact grown_trans gv (grown_alloc _ _)
          have bv : Blk Z2 Z1.heap.size #[.int .i64 (readS (takeS S' 0 text true) n).limit, .int .i64 N, .int .i64 (readS (takeS S' 0 text true) n).high, .int .i64 N, .int .i64 0, .slice va vn vc, .bool true, .bool (readS (takeS S' 0 text true) n).reset] 38 := by rw [hZ2]; exact Blk.new _ _ _
          have m3 := bv.cell 3 _ rfl
          have m4 := bv.cell 4 _ rfl
          have m6 := bv.cell 6 _ rfl
          have GE := hide (grown_trans (unhide G3) g2)
          have cv1 : (convert 22 9 (.slice ga' N gc')).run Try.prog Z2 = .ok (.string (strOfNums text)) Z2 := conv_rd _ _ _ _ _ (unhide HNE).symm ((unhide rdZ).grow g2)
          have cv2 : (convert 22 9 (.slice none N tc)).run Try.prog Z2 = .ok (.string (strOfNums text)) Z2 := conv_rd _ _ _ _ _ (unhide HNE).symm ((unhide HR).grow (unhide GE))
          rw [hZ2] at m3 m4 m6 cv1 cv2 GE
          have ee : ((N : Int) == (N : Int)) = true := by simp
          generalize strOfNums text = SS at *
          clear g2 bv gv rdZ G3 hZ2
          go_wp2_with fail
          go_ret
          exact ⟨by simp, unhide GE⟩
end Go.Proofs.Ythihabjegpacaaa

namespace Go.Proofs.Ythihabjegpacaaa
open Go.ChangeShapes Go.WideShapes Go.ChangeAt Go.RowKit
set_option linter.unusedVariables false
set_option maxRecDepth 100000

theorem orders_walk (ta : Option Addr) (tn tc : Nat) (text : List Int) (pa : Option Addr) (plen pcap : Nat) (pl : List PiE) (w : World) (htl : text.length = tn) (hr : Rd w ta text) (htc : tn ≤ tc ∧ tc ≤ 9223372036854775807) (hN : tn ≤ 1048576) (hp : IsPcs w pa plen pcap pl) (hpl : plen ≤ 1048576) :
    Calls Try.prog 3 #[.slice ta tn tc, .slice pa plen pcap] w fun e w' => e = .returned (.bool true) ∧ w.grownBy w' none := by
  cases ta with
  | none => exact orders_none tn tc text pa plen pcap pl w htl hr htc hN hp hpl
  | some ad => exact orders_some ad tn tc text pa plen pcap pl w htl hr htc hN hp hpl

namespace recvOrdersFrame

theorem own : ownKnob Try.prog.godebug = none := by kernel_rfl
theorem laidOut : laidOutB Try.prog = true := by kernel_rfl

set_option maxRecDepth 100000 in
theorem lifted (os : Os) (started : os.Started) (H : Type) (enc : TypeId × Value → H) (F : Stop.Interp) :
    ReturnsInHanded {} Try.checked os 3 .any ((Rows.OpenSpec.upto Rows.recvOrdersSpec).pre6 enc Try.prog Try.f3 Rows.recvOrdersUptoRow.domain false) (((Rows.OpenSpec.upto Rows.recvOrdersSpec).at F).post enc Try.prog Try.f3 false true false false) := by
  refine returnsInHanded_of_cond_sized (C := Try.checked) (s := Rows.OpenSpec.upto Rows.recvOrdersSpec) (k := Rows.uptoSmall) rfl own started (by kernel_rfl) Try.func3
    (OpenSpec.witness (enc := enc) (C := Try.checked) (s := Rows.OpenSpec.upto Rows.recvOrdersSpec) (k := Rows.uptoSmall) rfl false ⟨#[], #[.slice none 0 0, .slice none 0 0], []⟩ 8 (by kernel_rfl) (by kernel_rfl) (by kernel_rfl)
      (x := ([.nil, .nil], [], [])) (by kernel_rfl) rfl (by kernel_rfl)) ?_
  intro W base args ds gs before hval0 hW hcnd hk hsz0 _
  have hsz : (DataW.weightsEach Try.prog (Try.f3.params.toList ++ (Rows.OpenSpec.upto Rows.recvOrdersSpec).bare.plain.varTypes Try.prog) (ds ++ gs)).all (· ≤ reachBytes) = true := hsz0
  have hval : ∀ (j : Nat) t v, Try.f3.params[j]? = some t → args[j]? = some v → Value.okWide Try.prog W .any base t v := hval0
  have hW' := hW
  obtain ⟨p, q, hA0, hV, rfl, hfz, hnd⟩ := hW
  have hA : DataW.TrodAll enc Try.prog W 0 (fun _ => true) true Try.f3.params.toList args.toList ds p := hA0
  rw [Try.params3] at hA hval hsz
  obtain ⟨v0, vs0, d0, ds0, p0, q0, hargs, rfl, rfl, h0, r0⟩ := trodAll_cons hA
  obtain ⟨v1, vs1, d1, ds1, p1, q1, rfl, rfl, rfl, h1, r1⟩ := trodAll_cons r0
  obtain ⟨rfl, rfl, rfl⟩ := trodAll_nil r1
  obtain rfl : args = #[v0, v1] := by cases args; simp_all
  obtain ⟨rfl, rfl⟩ := trodVars_none hV
  have k0 := h0
  have lt0 : ∀ x ∈ p0, x.block < W.heap.size := by obtain ⟨m, hm⟩ := k0; exact DataW.trod_lt m _ _ _ hm
  obtain ⟨a0, len0, cap0, t0, rfl, tl0, tr0, tc0, -, tb0⟩ : ∃ a l c p, v0 = .slice a l c ∧ p.length = l ∧ Rd W a p ∧ (l ≤ c ∧ c ≤ 9223372036854775807) ∧ l ≤ 140737488355328 ∧ l ≤ Rows.uptoBulk d0 := by
    obtain ⟨a, l, c, rfl⟩ := okWide_slice Try.underlying22 (hval 0 22 v0 rfl rfl)
    obtain ⟨fuel, hf⟩ := h0
    exact data_bulk (y := (d0, p0)) (by simpa [Value.cells] using hf) (fun k hk => by
      have := List.all_eq_true.1 hsz k (DataW.weights_mem_each (j := 0) (t := 22) (d := d0) rfl rfl k hk)
      simpa using this)
  have tm0 : len0 ≤ 1048576 := Nat.le_trans tb0 (bulk_mem hk (d := d0) (by simp))
  have k1 := h1
  have lt1 : ∀ x ∈ p1, x.block < W.heap.size := by obtain ⟨m, hm⟩ := k1; exact DataW.trod_lt m _ _ _ hm
  obtain ⟨a1, len1, cap1, rfl⟩ := okWide_slice Try.underlying23 (hval 1 23 v1 rfl rfl)
  obtain ⟨ol1, w1, b1⟩ : ∃ ol, IsPcs W a1 len1 cap1 ol ∧ len1 ≤ 1048576 := by
    obtain ⟨fuel, hf⟩ := h1
    exact open_pcs (x := (d1, p1)) (by simpa [Value.cells] using hf) (bulk_mem hk (d := d1) (by simp))
  clear hA0 hval0
  refine (orders_walk a0 len0 cap0 t0 a1 len1 cap1 ol1 W tl0 tr0 tc0 tm0 w1 b1).mono fun e W' ⟨he, gr⟩ => ?_
  have bel : Below W.heap.size W W' := (Below.refl _ W).grown gr (Nat.le_refl _) (fun k hk => by cases hk)
  subst he
  exact ⟨_, rfl, _, _, _, [], _, [], hW', trodAll_mk1 (shut_bool Try.underlying4 _), (trodAll_cons_mk (Below.trod laidOut (by kernel_rfl) (of_decide_eq_true (by kernel_rfl)) k0 bel lt0) (trodAll_cons_mk (Below.trod laidOut (by kernel_rfl) (of_decide_eq_true (by kernel_rfl)) k1 bel lt1) trodAll_mk0)), rfl, bel.frame _, fun h => by cases h⟩

theorem over : Rows.recvOrdersUptoRow.holds Try.pinned (Rows.OpenSpec.upto Rows.recvOrdersSpec) :=
  OpenClaim.holds_of_cond 3 Try.f3 rfl rfl rfl rfl rfl rfl rfl ⟨rfl, rfl, rfl, rfl, rfl⟩ rfl rfl rfl rfl rfl (by kernel_rfl) Try.func3 (by kernel_rfl)
    (of_decide_eq_true (by kernel_rfl)) (by unfold Func.isWrapper; first | (rw [if_pos (by decide +kernel)]; kernel_rfl) | (rw [if_neg (by decide +kernel)]; exact ⟨rfl, rfl⟩))
    (fun os started H enc _ F => lifted os started H enc F)
end recvOrdersFrame

/-- THE STATEMENT -/
theorem recvOrders_holds : Rows.RecvOrdersUptoSaid := recvOrdersFrame.over
end Go.Proofs.Ythihabjegpacaaa
