/- T7D, T7G, T7C, BK, T7E, T7H, V1E, V1H, one text. -/
import Derived.Test.YthihabjegpacaaaGreatPGPlaA
import Derived.Laws.BytesArg
import Derived.Lib.SlBytesConst
import Derived.Test.YthihabjegpacaaaGreatRows
import Derived.ProofKit
import Derived.OpenShut
import Derived.ShutString
import Derived.ChangeOld
import Derived.SizedLaws
import Derived.Deep.Slices
import Derived.Maps.AppendAt
import Derived.Test.YthihabjegpacaaaGreatV1D
import Derived.BigQuiet
namespace Go.Proofs.YthihabjegpacaaaGreat
set_option maxRecDepth 100000
set_option linter.unusedVariables false
set_option maxHeartbeats 1000000

/-- What has come is no more than so many bytes. -/
def Few (S : Rv) (t : Nat) : Prop := ∃ L : List Int, L.length ≤ t ∧ ∀ x, (S.T x).isSome = true → x ∈ L
theorem few_aux (lo : Int) : ∀ (n : Nat) (L : List Int), (∀ i : Nat, i < n → lo + i ∈ L) → n ≤ L.length
  | 0, _, _ => Nat.zero_le _
  | n + 1, L, h => by
    have hm := h n (by omega)
    have h1 := few_aux lo n (L.erase (lo + n)) (fun i hi => (List.mem_erase_of_ne (by omega)).2 (h i (by omega)))
    rw [List.length_erase_of_mem hm] at h1
    have := List.length_pos_of_mem hm
    omega
theorem Few.row {S : Rv} {t : Nat} (h : Few S t) {most : Int} {n : Nat} (hn : RowN S most n) : n ≤ t := by
  obtain ⟨L, hl, hm⟩ := h
  have := few_aux S.read n L (fun i hi => hm _ (hn.got i hi))
  omega

/-- What a step leaves. -/
structure StB (S S' : Rv) (n f : Int) (got d : Nat) : Prop where
  ok : RvOk S'
  n0 : 0 ≤ n
  nf : f ≠ 0 → n = 0
  hi : S'.high = S.high + n
  rd : S'.read = S.read + got
  lm : S.limit ≤ S'.limit
  len : S'.K.length ≤ S.K.length + 1
  few : ∀ t, Few S t → Few S' (t + d)

theorem stb_self {S : Rv} (h : RvOk S) (d : Nat) : StB S S 0 0 0 d := ⟨h, by omega, fun _ => rfl, by omega, by omega, by omega, by omega, fun t ⟨L, h1, h2⟩ => ⟨L, by omega, h2⟩⟩
theorem stb_no {S : Rv} (h : RvOk S) (f : Int) (d : Nat) : StB S S 0 f 0 d := ⟨h, by omega, fun _ => rfl, by omega, by omega, by omega, by omega, fun t ⟨L, h1, h2⟩ => ⟨L, by omega, h2⟩⟩
theorem stb_take {S : Rv} (h : RvOk S) (off : Int) (p : List Int) (fin : Bool) (hb : ∀ y ∈ p, IsB y) : StB S (takeS S off p fin) (takeN S off p.length fin) (takeE S off p.length fin) 0 p.length := by
  unfold takeS takeN
  by_cases he : takeE S off p.length fin = 0
  · rw [if_pos he, if_pos he]
    obtain ⟨t1, t2, t3, t4⟩ := takeE_0 he
    have hlm := h.lm
    refine ⟨rvok_take h hb he, by unfold riseN; omega, fun q => absurd he q, ?_, by simp [takeG], by simp [takeG], ?_, fun t ⟨L, h1, h2⟩ => ⟨L ++ (List.range p.length).map (fun i : Nat => off + (i : Int)), by simp; omega, fun x hx => ?_⟩⟩
    · show max S.high (off + p.length) = S.high + riseN S (off + p.length)
      unfold riseN; omega
    · show (if S.reset = true then S.K else addS 0 off (off + p.length - 1) S.K).length ≤ _
      split
      · omega
      · exact (addS_gx (rv_gx h) (by omega) (by omega)).2
    · have hx' : ((if S.reset = true then S.T else putT S.T off p) x).isSome = true := hx
      rw [List.mem_append]
      split at hx'
      · exact .inl (h2 x hx')
      · rcases (putT_isSome _ _ _ _).1 hx' with q | q
        · exact .inl (h2 x q)
        · exact .inr (List.mem_map.2 ⟨(x - off).toNat, by simp; omega, by omega⟩)
  · rw [if_neg he, if_neg he]
    exact stb_no h _ _
theorem stb_read {S : Rv} (h : RvOk S) {most : Int} {n : Nat} (hn : RowN S most n) : StB S (readS S n) 0 0 n 0 :=
  ⟨rvok_read h hn, by omega, fun _ => rfl, by simp [readS], by simp [readS], by simp [readS], by simp [readS], fun t q => q⟩
theorem stb_raise {S : Rv} (h : RvOk S) (l : Int) : StB S (raiseS S l) 0 0 0 0 :=
  ⟨rvok_raise h l, by omega, fun _ => rfl, by simp [raiseS], by simp [raiseS], by simp only [raiseS]; omega, by simp [raiseS], fun t q => q⟩
theorem stb_reset {S : Rv} (h : RvOk S) (f : Int) : StB S (resetS S f) (resetN S f) (resetE S f) 0 0 := by
  unfold resetS resetN
  by_cases he : resetE S f = 0
  · rw [if_pos he, if_pos he]
    obtain ⟨t1, t2, t3, t4⟩ := resetE_0 he
    have hhl := h.hl; have hlm := h.lm; have hrh := h.rh; have hr0 := h.r0
    refine ⟨rvok_reset h he, by unfold riseN; omega, fun q => absurd he q, ?_, ?_, ?_, ?_, fun t ⟨L, h1, h2⟩ => ⟨L, by omega, fun x hx => h2 x ?_⟩⟩
    · show max S.high f = S.high + riseN S f
      unfold riseN; omega
    · unfold resetG; cases S.ended <;> simp [dropS]
    · unfold resetG; cases S.ended <;> simp [dropS]
    · unfold resetG
      cases S.ended
      · have := (addS_gx (L := []) (lo := 0) (hi := S.read - 1) trivial (by omega) (by omega)).2
        simp [dropS]
        simp at this
        omega
      · simp
    · unfold resetG at hx
      cases he : S.ended
      · rw [he] at hx
        simp [dropS] at hx
        split at hx
        · exact hx
        · cases hx
      · rw [he] at hx
        simpa using hx
  · rw [if_neg he, if_neg he]
    exact stb_no h _ _

theorem StB.more {S S' : Rv} {n f : Int} {got : Nat} (h : StB S S' n f got 0) (d : Nat) : StB S S' n f got d := ⟨h.ok, h.n0, h.nf, h.hi, h.rd, h.lm, h.len, fun t q => by
  obtain ⟨L, h1, h2⟩ := h.few t q
  exact ⟨L, by omega, h2⟩⟩

/-- The first run holds what was read. -/
theorem head_run {S : Rv} (h : RvOk S) (hr : 0 < S.read) : ∃ s L, S.K = s :: L ∧ s.1 = 0 ∧ S.read - 1 ≤ s.2 := by
  have hg := h.gK
  have hm : ∀ x, 0 ≤ x → x < S.read → memB x S.K = true := fun x h0 h1 => by rw [h.kT]; exact h.low x h0 h1
  cases hK : S.K with
  | nil => have := hm 0 (by omega) hr; rw [hK] at this; cases this
  | cons s L =>
    rw [hK] at hg hm
    obtain ⟨g1, g2, g3, g4⟩ := hg
    refine ⟨s, L, rfl, ?_, ?_⟩
    · have := hm 0 (by omega) hr
      rw [memB_cons] at this
      simp only [Bool.or_eq_true, Bool.and_eq_true, decide_eq_true_eq] at this
      rcases this with q | q
      · omega
      · have := memB_in g4 q; omega
    · by_cases c : S.read - 1 ≤ s.2
      · exact c
      · have := hm (s.2 + 1) (by omega) (by omega)
        rw [memB_cons] at this
        simp only [Bool.or_eq_true, Bool.and_eq_true, decide_eq_true_eq] at this
        rcases this with q | q
        · omega
        · have := memB_in g4 q; omega
theorem cnt_read {S : Rv} (h : RvOk S) : S.read ≤ cnt S.K ∧ cnt S.K ≤ S.high := by
  have hr0 := h.r0; have hrh := h.rh
  have hb := cnt_bounds h.gK (by omega)
  refine ⟨?_, by omega⟩
  by_cases c : 0 < S.read
  · obtain ⟨s, L, e, e1, e2⟩ := head_run h c
    have hg := h.gK
    rw [e] at hg
    have := cnt_bounds hg.2.2.2
    rw [e]
    simp only [cnt]
    have h3 := hg.2.2.1; have h2 := hg.2.1
    by_cases c2 : s.2 + 2 ≤ S.high - 1 + 1
    · have := this c2; omega
    · have : L = [] := by
        cases L with
        | nil => rfl
        | cons t L => have := hg.2.2.2.1; have := hg.2.2.2.2.1; have := hg.2.2.2.2.2.1; omega
      subst this
      simp only [cnt]
      omega
  · omega
end Go.Proofs.YthihabjegpacaaaGreat

namespace Go.Proofs.YthihabjegpacaaaGreat
set_option maxRecDepth 100000
set_option linter.unusedVariables false
set_option maxHeartbeats 1000000

theorem good_len2 {mx : Int} : ∀ {L : List Sp} {mn : Int}, Good mn mx L → (L.length : Int) ≤ max 0 (mx - mn + 1)
  | [], mn, _ => by simp; omega
  | s :: L, mn, h => by
    obtain ⟨h1, h2, h3, h4⟩ := h
    have := good_len2 h4
    simp only [List.length_cons]
    omega
theorem k_len {S : Rv} (h : RvOk S) : (S.K.length : Int) ≤ S.high := by
  have := good_len2 h.gK
  have := h.r0; have := h.rh
  omega
theorem he_len_aux {hi : Int} : ∀ (E : List He) (lo : Int), E.Pairwise (fun a b => a.till ≤ b.off) → (∀ e ∈ E, lo ≤ e.off ∧ e.p ≠ [] ∧ e.till ≤ hi) → (E.length : Int) ≤ max 0 (hi - lo)
  | [], lo, _, _ => by simp; omega
  | e :: E, lo, hp, h => by
    rw [List.pairwise_cons] at hp
    obtain ⟨h1, h2, h3⟩ := h e (List.mem_cons_self ..)
    have := he_len_aux E e.till hp.2 (fun x hx => ⟨hp.1 x hx, (h x (List.mem_cons_of_mem _ hx)).2⟩)
    have hl : 0 < e.p.length := List.length_pos_iff.2 h2
    have ht : e.till = e.off + e.p.length := rfl
    simp only [List.length_cons]
    omega
theorem he_len {S : Rv} {E : List He} (hok : RvOk S) (h : HeOk S E) : (E.length : Int) ≤ S.high := by
  have hr := hok.r0; have hh := hok.rh
  have := he_len_aux (hi := S.high) E 0 h.srt (fun e he => by
    obtain ⟨p1, p2, p3⟩ := h.pos e he
    refine ⟨p1, p2, ?_⟩
    have hl : 0 < e.p.length := List.length_pos_iff.2 p2
    have hx : e.p[e.p.length - 1]? = some (e.p[e.p.length - 1]'(by omega)) := List.getElem?_eq_getElem _
    have hT := h.is e he _ _ hx
    have hm : memB (e.off + ((e.p.length - 1 : Nat) : Int)) S.K = true := by rw [hok.kT, hT]; rfl
    have := memB_in hok.gK hm
    show e.off + (e.p.length : Int) ≤ S.high
    omega)
  omega
theorem row_high {S : Rv} (h : RvOk S) {most : Int} {n : Nat} (hn : RowN S most n) : S.read + n ≤ S.high := (rvok_read h hn).rh

/-- What has come is of the text. -/
structure OT (text : List Int) (S : Rv) : Prop where
  ok : RvOk S
  lim : S.limit = text.length
  rs : S.reset = false
  is : ∀ x y, S.T x = some y → 0 ≤ x ∧ text[x.toNat]? = some y
  fin : S.final = -1 ∨ S.final = text.length
theorem ot_new {text : List Int} (h : text.length ≤ 4611686018427387903) : OT text (newRv text.length) := ⟨rvok_new ⟨by omega, by omega⟩, rfl, rfl, fun x y h => (by cases h), .inl rfl⟩
theorem part_len {text : List Int} {a b : Nat} (hab : a ≤ b) (hb : b ≤ text.length) : ((text.drop a).take (b - a)).length = b - a := by simp; omega
theorem part_get {text : List Int} {a b i : Nat} (hi : i < b - a) : ((text.drop a).take (b - a))[i]? = text[a + i]? := by rw [List.getElem?_take, if_pos hi, List.getElem?_drop]
theorem part_b {text : List Int} {a b : Nat} (h : ∀ x ∈ text, IsB x) : ∀ x ∈ (text.drop a).take (b - a), IsB x := fun x hx => h x (List.mem_of_mem_drop (List.mem_of_mem_take hx))
theorem ot_takeE {text : List Int} {S : Rv} (h : OT text S) {a b : Nat} (hab : a ≤ b) (hb : b ≤ text.length) (fin : Bool) (hf : fin = true → b = text.length) (hN : text.length ≤ 1048576) : takeE S a (b - a) fin = 0 := by
  have hl := h.lim; have hk := h.ok.hl
  unfold takeE
  rw [if_neg (by omega), if_neg (by omega), if_neg]
  unfold againstB
  simp only [Bool.or_eq_true, Bool.and_eq_true, decide_eq_true_eq, not_or, not_and]
  refine ⟨fun q => ?_, fun q => ?_⟩
  · have := h.fin; omega
  · have := hf q; omega
theorem ot_take {text : List Int} {S : Rv} (h : OT text S) {a b : Nat} (hab : a ≤ b) (hb : b ≤ text.length) (fin : Bool) (hf : fin = true → b = text.length) (hN : text.length ≤ 1048576) (htb : ∀ x ∈ text, IsB x) :
    OT text (takeS S a ((text.drop a).take (b - a)) fin) ∧ takeS S a ((text.drop a).take (b - a)) fin = takeG S a ((text.drop a).take (b - a)) fin := by
  have hl := part_len hab hb
  have he : takeE S a ((text.drop a).take (b - a)).length fin = 0 := by rw [hl]; exact ot_takeE h hab hb fin hf hN
  have es : takeS S a ((text.drop a).take (b - a)) fin = takeG S a ((text.drop a).take (b - a)) fin := by unfold takeS; rw [if_pos he]
  refine ⟨?_, es⟩
  rw [es]
  refine ⟨rvok_take h.ok (part_b htb) he, h.lim, h.rs, fun x y hy => ?_, ?_⟩
  · have hy : (if S.reset = true then S.T else putT S.T a ((text.drop a).take (b - a))) x = some y := hy
    rw [h.rs, if_neg (by simp)] at hy
    cases hx : S.T x with
    | some z => rw [putT_some hx] at hy; cases hy; exact h.is x _ hx
    | none =>
      rw [putT_none hx] at hy
      split at hy
      · rename_i c
        rw [hl] at c
        rw [part_get (by omega)] at hy
        refine ⟨by omega, ?_⟩
        rwa [show a + (x - (a : Int)).toNat = x.toNat by omega] at hy
      · cases hy
  · show (if fin = true then (a : Int) + _ else S.final) = -1 ∨ (if fin = true then (a : Int) + _ else S.final) = _
    by_cases c : fin = true
    · rw [if_pos c, hl]; right; have := hf c; omega
    · rw [if_neg c]; exact h.fin
theorem ot_read {text : List Int} {S : Rv} (h : OT text S) {most : Int} {n : Nat} (hn : RowN S most n) : OT text (readS S n) := ⟨rvok_read h.ok hn, h.lim, h.rs, h.is, h.fin⟩
theorem ot_bytes {text : List Int} {S : Rv} (h : OT text S) {most : Int} {n : Nat} (hn : RowN S most n) : bytesT S n = (text.drop S.read.toNat).take n := by
  have hr := h.ok.r0
  have hh := row_high h.ok hn
  have hhl := h.ok.hl; have hl := h.lim
  apply List.ext_getElem?
  intro i
  by_cases hi : i < n
  · rw [bytesT_is hn.got hi, List.getElem?_take, if_pos hi, List.getElem?_drop]
    cases hx : S.T (S.read + i) with
    | none => have := hn.got i hi; rw [hx] at this; cases this
    | some y =>
      obtain ⟨q1, q2⟩ := h.is _ _ hx
      rw [show (S.read + (i : Int)).toNat = S.read.toNat + i by omega] at q2
      exact q2.symm
  · rw [List.getElem?_eq_none (by rw [bytesT_len]; omega), List.getElem?_eq_none (by simp; omega)]
theorem ot_got {text : List Int} {S : Rv} (h : OT text S) {most : Int} {n : Nat} (hn : RowN S most n) : text.take S.read.toNat ++ bytesT S n = text.take (readS S n).read.toNat := by
  have hr := h.ok.r0
  rw [ot_bytes h hn, show (readS S n).read.toNat = S.read.toNat + n by show (S.read + (n : Int)).toNat = _; omega, List.take_add]
theorem ot_rd {text : List Int} {S : Rv} (h : OT text S) : 0 ≤ S.read ∧ S.read ≤ text.length := by
  have := h.ok.r0; have := h.ok.rh; have := h.ok.hl; have := h.lim; omega
/-- Where it has ended, all is read. -/
theorem ot_end {text : List Int} {S : Rv} (h : OT text S) (he : S.ended = true) : S.read = text.length := by
  have h1 := h.ok.en he
  have := h.ok.r0
  rcases h.fin with q | q <;> omega
theorem ot_over {text : List Int} {S : Rv} (h : OT text S) (he : S.ended = true) {most : Int} {n : Nat} (hn : RowN S most n) : n = 0 := by
  have h1 := ot_end h he
  have := row_high h.ok hn
  have := h.ok.hl; have := h.lim
  omega
theorem end_stays {S : Rv} (he : S.ended = true) (n : Nat) : (readS S n).ended = true := by show (S.ended || _) = true; rw [he]; rfl
theorem ended_take {S : Rv} (off : Int) (p : List Int) (fin : Bool) : (takeS S off p fin).ended = S.ended ∧ (takeS S off p fin).read = S.read := by unfold takeS; split <;> exact ⟨rfl, rfl⟩
/-- All has come, and is read. -/
theorem ot_all {text : List Int} {S : Rv} (h : OT text S) (hN : text.length ≤ 1048576) (htb : ∀ x ∈ text, IsB x) {n : Nat} (hn : RowN (takeS S 0 text true) ((text.length : Int) + 1) n) :
    OT text (takeS S 0 text true) ∧ (readS (takeS S 0 text true) n).ended = true ∧ (readS (takeS S 0 text true) n).read = text.length ∧ (readS (takeS S 0 text true) n).final = text.length ∧ cnt (readS (takeS S 0 text true) n).K - (readS (takeS S 0 text true) n).read = 0 := by
  have ht : ((text.drop 0).take (text.length - 0)) = text := by simp
  obtain ⟨o1, e1⟩ := ot_take (a := 0) (b := text.length) h (Nat.zero_le _) (Nat.le_refl _) true (fun _ => rfl) hN htb
  rw [ht] at o1 e1
  have e1 : takeS S 0 text true = takeG S 0 text true := e1
  have o1 : OT text (takeS S 0 text true) := o1
  have hf : (takeS S 0 text true).final = text.length := by rw [e1]; show (if true = true then (0 : Int) + text.length else S.final) = _; simp
  have hall : ∀ x : Int, 0 ≤ x → x < text.length → ((takeS S 0 text true).T x).isSome = true := fun x h0 h1 => by
    rw [e1]
    show ((if S.reset = true then S.T else putT S.T 0 text) x).isSome = true
    rw [h.rs, if_neg (by simp), putT_isSome]
    right; omega
  have hh := row_high o1.ok hn
  have hhl := o1.ok.hl; have hl := o1.lim; have hr := o1.ok.r0
  have hn2 : (takeS S 0 text true).read + n = text.length := by
    rcases hn.end_ with q | q
    · omega
    · by_cases c : (takeS S 0 text true).read + n < text.length
      · have := hall _ (by omega) c
        rw [q] at this; cases this
      · omega
  have o2 := ot_read o1 hn
  have hrd : (readS (takeS S 0 text true) n).read = text.length := hn2
  have hc := cnt_read o2.ok
  have h2 := o2.ok.hl; have l2 := o2.lim
  refine ⟨o1, ?_, hrd, hf, by omega⟩
  show ((takeS S 0 text true).ended || (decide ((takeS S 0 text true).read + n = (takeS S 0 text true).final) && !(takeS S 0 text true).reset)) = true
  rw [decide_eq_true (by rw [hf]; exact hn2), o1.rs]
  simp
end Go.Proofs.YthihabjegpacaaaGreat

namespace Go.Proofs.YthihabjegpacaaaGreat
open Go.RowKit
set_option linter.unusedVariables false
set_option maxHeartbeats 1000000
set_option maxRecDepth 100000

theorem conv_rd (w : World) (a : Option Addr) (l : List Int) (n cap : Nat) (hn : l.length = n) (hr : Rd w a l) :
    (convert 36 9 (.slice a n cap)).run Tryz.prog w = .ok (.string (strOfNums l)) w := by
  subst hn
  by_cases h : l = []
  · subst h
    rw [run_convert_bytes_string w 36 9 5 _ _ cap Tryz.underlying36 Tryz.underlying5 Tryz.underlying9]
    cases a <;> simp [Conv.bytesToString, loadCells]
    all_goals rfl
  · obtain ⟨b, off, rfl, hc⟩ := hr.2 h
    exact run_convert_bytes_arg w 36 5 Tryz.underlying36 Tryz.underlying5 b off _ cap l rfl hc 9 Tryz.underlying9
theorem str_toList (l : List Int) : (strOfNums l).toList = l.map fun n => UInt8.ofNat n.toNat := by
  rw [ByteArray.toList_eq]
  rfl
theorem kp_none {w W : World} (k : Kp (fun _ => False) w W) : w.grownBy W none := ⟨k.os, k.tape, k.output, k.size, fun g hg _ => k.block g hg (fun h => h)⟩
theorem rd_blk {W : World} {g : Nat} {p : List Int} {t : TypeId} (h : Blk W g (by8 p) t) (hb : ∀ x ∈ p, IsB x) : Rd W (some ⟨g, 0, none⟩) p := ⟨hb, fun _ => ⟨_, 0, rfl, fun i hi => by
  rw [Nat.zero_add]
  exact h.cell i _ (by8_get p i _ (by simp [List.getD, hi]))⟩⟩

/-- Take of bytes that the caller has just made. -/
theorem take_new {w W : World} {M : Nat → Prop} {b bk : Nat} {vh : Value} {E : List He} {S : Rv} (h : RA w M b bk vh E W S) (hok : RvOk S) (hE : HeOk S E) (nE : E.length ≤ 100000000) (nK : S.K.length ≤ 100000000) (off : Int) (p : List Int) (fin : Bool) (f : Nat × Nat) (hb : ∀ x ∈ p, IsB x) (hp : p.length ≤ 100000000) :
    Calls Tryz.prog 10 #[ptr b, .int .i64 off, .slice (some ⟨W.heap.size, 0, none⟩) p.length p.length, .bool fin] (W.alloc (.cells (by8 p) 5 f)) fun e W' => e = .returned (.tuple #[.int .i64 (takeN S off p.length fin), .int .i64 (takeE S off p.length fin)]) ∧ TakeP w M b bk E (takeS S off p fin) p.length W' ∧ Kp (fun k => (M k ∨ w.heap.size ≤ k) ∧ k < W.heap.size) W W' := by
  have g : W.grownBy (W.alloc (.cells (by8 p) 5 f)) none := grown_alloc _ _
  have hrd : Rd (W.alloc (.cells (by8 p) 5 f)) (some ⟨W.heap.size, 0, none⟩) p := ⟨hb, fun _ => ⟨_, 0, rfl, fun i hi => by
    unfold World.cell?
    simp only [heap_alloc_new, Nat.zero_add]
    exact by8_get p i _ (by simp [List.getD, hi])⟩⟩
  refine (take_at (h.rebase g) hok hE nE nK off _ p.length p.length fin p hrd (fun _ pb off e => ?_) rfl ⟨Nat.le_refl _, by omega⟩ hp).mono ?_
  · cases e
    exact ⟨fun q => by omega, by rw [alloc_size]; omega⟩
  · rintro e W' ⟨rfl, vh', E', q, q2, q3⟩
    exact ⟨rfl, ⟨vh', E', q.unbase (h.kp.nothing g), q2, q3⟩, ⟨q.kp.os.trans g.os, q.kp.tape.trans g.tape, q.kp.output.trans g.output, Nat.le_trans g.size q.kp.size, fun k hk hn => (q.kp.block k (Nat.lt_of_lt_of_le hk g.size) hn).trans (g.block k hk (by simp))⟩⟩

abbrev sh1 : Rv := takeG (newRv 10) 4 [101, 102] false
abbrev sh2 : Rv := takeG sh1 2 [88, 89, 90] false
abbrev sh3 : Rv := takeG sh2 0 [97, 98] false
abbrev sh4 : Rv := readS sh3 3

theorem sh_row {n : Nat} (h : RowN sh3 3 n) : n = 3 := by
  have h1 := h.le
  have h2 := h.end_
  have h3 : (n : Int) ≤ 3 := by omega
  have : n = 0 ∨ n = 1 ∨ n = 2 ∨ n = 3 := by omega
  rcases this with rfl | rfl | rfl | rfl
  · rcases h2 with q | q
    · exact absurd q (by decide)
    · exact absurd q (by decide)
  · rcases h2 with q | q
    · exact absurd q (by decide)
    · exact absurd q (by decide)
  · rcases h2 with q | q
    · exact absurd q (by decide)
    · exact absurd q (by decide)
  · rfl

theorem shown_ok (w : World) : Calls Tryz.prog 4 #[] w fun e w' => e = .returned (.bool true) ∧ w.grownBy w' none := by
  have k0 : RvOk (newRv 10) := rvok_new ⟨by omega, by omega⟩
  have k1 : RvOk sh1 := rvok_take k0 (by simp [IsB]) (by decide)
  have k2 : RvOk sh2 := rvok_take k1 (by simp [IsB]) (by decide)
  have k3 : RvOk sh3 := rvok_take k2 (by simp [IsB]) (by decide)
  have hnew := new_at 10 w ⟨by omega, by omega⟩
  go_enter Tryz.func4, Tryz.ntmps4
  go_wp2_with fail
  refine hnew.mono ?_
  rintro e W1 ⟨b, bk, rfl, h1⟩
  have hbad := new_bad (-1) W1 (by omega)
  have H1 := hide h1
  clear hnew h1
  go_wp2_with fail
  refine hbad.mono ?_
  rintro e W1' ⟨rfl, rfl⟩
  clear hbad
  have hw1 := take_new (unhide H1) k0 (heok_new 10) (by simp) (by decide) 4 [101, 102] false (2, 3) (by simp [IsB]) (by simp)
  rw [show takeN (newRv 10) 4 ([101, 102] : List Int).length false = 6 by decide, show takeE (newRv 10) 4 ([101, 102] : List Int).length false = 0 by decide, show takeS (newRv 10) 4 [101, 102] false = sh1 by unfold takeS; rw [if_pos (by decide)]] at hw1
  simp only [List.length_cons, List.length_nil, by8, List.map_cons, List.map_nil, Nat.reduceAdd, Nat.zero_add] at hw1
  have hcv1 := Lib.run_convert_bytes_const (P := Tryz.prog) W1' 36 5 #[.int .u8 101, .int .u8 102] 2 2 Tryz.underlying36 Tryz.underlying5
  simp only [List.size_toArray, List.length_cons, List.length_nil, Nat.reduceAdd, Nat.zero_add] at hcv1
  clear H1
  go_wp2_with fail
  refine hw1.mono ?_
  rintro e W2 ⟨rfl, ⟨vh2, E2, h2, e2, l2⟩, -⟩
  have hw2 := take_new h2 k1 e2 (by simp at l2; omega) (by decide) 2 [88, 89, 90] false (3, 4) (by simp [IsB]) (by simp)
  rw [show takeN sh1 2 ([88, 89, 90] : List Int).length false = 0 by decide, show takeE sh1 2 ([88, 89, 90] : List Int).length false = 0 by decide, show takeS sh1 2 [88, 89, 90] false = sh2 by unfold takeS; rw [if_pos (by decide)]] at hw2
  simp only [List.length_cons, List.length_nil, by8, List.map_cons, List.map_nil, Nat.reduceAdd, Nat.zero_add] at hw2
  have hcv2 := Lib.run_convert_bytes_const (P := Tryz.prog) W2 36 5 #[.int .u8 88, .int .u8 89, .int .u8 90] 3 3 Tryz.underlying36 Tryz.underlying5
  simp only [List.size_toArray, List.length_cons, List.length_nil, Nat.reduceAdd, Nat.zero_add] at hcv2
  have L2 := hide l2
  clear hw1 hcv1 h2 e2 l2
  go_wp2_with fail
  refine hw2.mono ?_
  rintro e W3 ⟨rfl, ⟨vh3, E3, h3, e3, l3⟩, -⟩
  have l2 := unhide L2
  have hw3 := take_new h3 k2 e3 (by simp at l2 l3; omega) (by decide) 0 [97, 98] false (2, 3) (by simp [IsB]) (by simp)
  rw [show takeN sh2 0 ([97, 98] : List Int).length false = 0 by decide, show takeE sh2 0 ([97, 98] : List Int).length false = 0 by decide, show takeS sh2 0 [97, 98] false = sh3 by unfold takeS; rw [if_pos (by decide)]] at hw3
  simp only [List.length_cons, List.length_nil, by8, List.map_cons, List.map_nil, Nat.reduceAdd, Nat.zero_add] at hw3
  have hcv3 := Lib.run_convert_bytes_const (P := Tryz.prog) W3 36 5 #[.int .u8 97, .int .u8 98] 2 2 Tryz.underlying36 Tryz.underlying5
  simp only [List.size_toArray, List.length_cons, List.length_nil, Nat.reduceAdd, Nat.zero_add] at hcv3
  have L3 := hide l3
  clear hw2 hcv2 h3 e3 l3 l2
  go_wp2_with fail
  refine hw3.mono ?_
  rintro e W4 ⟨rfl, ⟨vh4, E4, h4, e4, l4⟩, -⟩
  have l2 := unhide L2
  have l3 := unhide L3
  have nE4 : E4.length ≤ 7 := by simp at l2 l3; omega
  have hrd := read_at h4 k3 e4 (by omega) 3 (by omega) (fun n q => by have := sh_row q; omega)
  have K4 := hide h4.kp
  have NE := hide nE4
  clear hw3 hcv3 h4 e4 l4 l2 l3 L2 L3 nE4
  go_wp2_with fail
  refine hrd.mono ?_
  rintro e W5 ⟨n, g, rfl, q⟩
  obtain rfl := sh_row q.row
  have q1 := q.blk
  obtain ⟨V, vh5, E5, v1, v2, v3, h5, e5, l5⟩ := q.ra
  rw [show (readS sh3 3).ended = false by decide]
  have hw5 := take_new h5 (rvok_read k3 q.row) e5 (by have := unhide NE; omega) (by decide) 8 [105, 106, 107] false (3, 4) (by simp [IsB]) (by simp)
  rw [show takeN (readS sh3 3) 8 ([105, 106, 107] : List Int).length false = 0 by decide, show takeE (readS sh3 3) 8 ([105, 106, 107] : List Int).length false = 160 by decide] at hw5
  simp only [List.length_cons, List.length_nil, by8, List.map_cons, List.map_nil, Nat.reduceAdd, Nat.zero_add] at hw5
  have hcv5 := Lib.run_convert_bytes_const (P := Tryz.prog) W5 36 5 #[.int .u8 105, .int .u8 106, .int .u8 107] 3 3 Tryz.underlying36 Tryz.underlying5
  simp only [List.size_toArray, List.length_cons, List.length_nil, Nat.reduceAdd, Nat.zero_add] at hcv5
  have V1 := hide v1; have V2 := hide v2; have V3 := hide v3; have Q1 := hide q1
  clear hrd h5 e5 l5 q v1 v2 v3 q1
  go_wp2_with fail
  refine hw5.mono ?_
  rintro e W6 ⟨rfl, ⟨vh6, E6, h6, e6, l6⟩, k6⟩
  have b6 : Blk W6 g (by8 [97, 98, 88]) 5 := by
    have q1 := unhide Q1
    have : bytesT sh3 3 = [97, 98, 88] := by decide
    rw [this] at q1
    exact (k6.block g q1.lt (fun z => by have := unhide V2; have := unhide V3; omega)).trans q1
  have G6 := hide (kp_none (h6.unbase ((unhide K4).nothing (unhide V1))).kp)
  have hcv := conv_rd W6 (some ⟨g, 0, none⟩) [97, 98, 88] 3 3 rfl (rd_blk b6 (by simp [IsB]))
  have hs : ((strOfNums [97, 98, 88]).toList == [97, 98, 88]) = true := by rw [str_toList]; decide
  clear hw5 hcv5 h6 e6 l6 k6 b6 V1 V2 V3 Q1 K4 NE
  go_wp2
  go_ret
  exact ⟨rfl, unhide G6⟩
end Go.Proofs.YthihabjegpacaaaGreat

namespace Go.Proofs.YthihabjegpacaaaGreat
set_option maxRecDepth 100000

theorem bulk_pos {H : Type} (d : DataW H) : 0 < Rows.uptoBulk d := by
  cases d with
  | lit l => cases l <;> simp [Rows.uptoBulk]
  | _ => simp [Rows.uptoBulk]

theorem bulk_count {H : Type} : ∀ l : List (DataW H), l.length ≤ Rows.uptoBulkAll l
  | [] => Nat.zero_le _
  | d :: r => by
    have h1 := bulk_pos d
    have h2 := bulk_count r
    simp only [Rows.uptoBulkAll, List.length_cons]
    omega

theorem bulk_slice {H : Type} (e s : List (DataW H)) : e.length + s.length < Rows.uptoBulk (.slice e s) := by
  have h1 := bulk_count e
  have h2 := bulk_count s
  simp only [Rows.uptoBulk]
  omega

theorem bulk_among {H : Type} {d : DataW H} : ∀ {l : List (DataW H)}, d ∈ l → Rows.uptoBulk d ≤ Rows.uptoBulkAll l
  | x :: r, h => by
    simp only [Rows.uptoBulkAll]
    rcases List.mem_cons.1 h with e | e
    · subst e; omega
    · have := bulk_among e; omega

theorem bulk_mem {H : Type} {d : DataW H} {l : List (DataW H)} (hk : Rows.uptoSmall H l = true) (h : d ∈ l) : Rows.uptoBulk d ≤ 1048576 := by
  have h1 : Rows.uptoBulkAll l ≤ 1048576 := of_decide_eq_true hk
  have h2 := bulk_among h
  omega
end Go.Proofs.YthihabjegpacaaaGreat

namespace Go.Proofs.YthihabjegpacaaaGreat
open Go.ChangeShapes Go.WideShapes Go.ChangeAt Go.RowKit
set_option linter.unusedVariables false
set_option maxRecDepth 100000
set_option maxHeartbeats 1000000

abbrev i64B (x : Int) : Prop := -9223372036854775808 ≤ x ∧ x ≤ 9223372036854775807
structure OpE where
  kind : Int
  other : Bool
  off : Int
  da : Option Addr
  dn : Nat
  dc : Nat
  fin : Bool
  most : Int
  p : List Int
structure OpE.Ok (w : World) (x : OpE) : Prop where
  k : i64B x.kind
  o : i64B x.off
  m : i64B x.most
  len : x.p.length = x.dn
  cap : x.dn ≤ x.dc ∧ x.dc ≤ 9223372036854775807
  big : x.dn ≤ 140737488355328
  rd : Rd w x.da x.p
def OpE.cs (x : OpE) : List Value := [.int .i64 x.kind, .bool x.other, .int .i64 x.off, .slice x.da x.dn x.dc, .bool x.fin, .int .i64 x.most]
/-- A script that came in. -/
structure IsOps (w : World) (a : Option Addr) (len cap : Nat) (ol : List OpE) : Prop where
  hlen : ol.length = len
  hcap : len ≤ cap ∧ cap ≤ 9223372036854775807
  ok : ∀ x ∈ ol, x.Ok w
  cell : len = 0 ∨ ∃ b off, a = some ⟨b, off, none⟩ ∧ ∀ i x, ol[i]? = some x → ∀ j v, x.cs[j]? = some v → w.cell? ⟨b, off + i * 6 + j, none⟩ = some v

theorem wf_i64 {z : Int} (h : (Lit.int .i64 z).wf = true) : -9223372036854775808 ≤ z ∧ z ≤ 9223372036854775807 := by
  simp [Lit.wf, IntKind.min, IntKind.max] at h
  exact ⟨of_decide_eq_true h.1, of_decide_eq_true h.2⟩
theorem wf_u8 {z : Int} (h : (Lit.int .u8 z).wf = true) : 0 ≤ z ∧ z ≤ 255 := by
  simp [Lit.wf, IntKind.min, IntKind.max] at h
  exact ⟨of_decide_eq_true h.1, of_decide_eq_true h.2⟩

theorem list_gen {α : Type} {P : Nat → α → Prop} : ∀ n : Nat, (∀ i, i < n → ∃ x, P i x) → ∃ l : List α, l.length = n ∧ ∀ i x, l[i]? = some x → P i x
  | 0, _ => ⟨[], rfl, fun i x h => by simp at h⟩
  | n + 1, h => by
    obtain ⟨l, hl, hP⟩ := list_gen n (fun i hi => h i (by omega))
    obtain ⟨x, hx⟩ := h n (by omega)
    refine ⟨l ++ [x], by simp [hl], fun i y hy => ?_⟩
    by_cases c : i < n
    · rw [List.getElem?_append_left (by omega)] at hy
      exact hP i y hy
    · have hi : i < (l ++ [x]).length := (List.getElem?_eq_some_iff.1 hy).1
      simp [hl] at hi
      obtain rfl : i = n := by omega
      rw [List.getElem?_append_right (by omega), hl] at hy
      simp at hy
      subst hy
      exact hx

theorem add_0 (ad : Addr) : ad.add 0 = ad := by simp [Addr.add]
theorem spot_none {w : World} {ad : Addr} {v : Value} (h : w.cell? ad = some v) : ad.spot = none := by
  unfold World.cell? at h
  split at h
  · split at h
    · cases h
    · rename_i hsp
      simpa using hsp
  · cases h

def tot (ol : List OpE) : Nat → Int
  | 0 => 0
  | k + 1 => tot ol k + ((ol[k]?.map fun x => x.dn).getD 0 : Nat)
theorem tot_at {ol : List OpE} {k : Nat} {x : OpE} (h : ol[k]? = some x) : tot ol (k + 1) = tot ol k + (x.dn : Int) := by simp [tot, h]
theorem tot_nn (ol : List OpE) : ∀ k, 0 ≤ tot ol k
  | 0 => Int.le_refl _
  | k + 1 => by have := tot_nn ol k; simp only [tot]; omega
theorem tot_mono (ol : List OpE) {k n : Nat} (h : k < n) : tot ol (k + 1) ≤ tot ol n := by
  induction n with
  | zero => omega
  | succ n ih =>
    by_cases c : k = n
    · subst c; exact Int.le_refl _
    · have := ih (by omega)
      simp only [tot] at this ⊢
      omega
theorem tot_all {H : Type} : ∀ (ol : List OpE) (ds : List (DataW H)), ol.length = ds.length → (∀ (i : Nat) (x : OpE) (d : DataW H), ol[i]? = some x → ds[i]? = some d → x.dn ≤ Rows.uptoBulk d) → (ol.map fun x => x.dn).sum ≤ Rows.uptoBulkAll ds
  | [], _, _, _ => Nat.zero_le _
  | x :: xs, [], hl, _ => by simp at hl
  | x :: xs, d :: ds, hl, h => by
    have h1 := h 0 x d rfl rfl
    have h3 := tot_all xs ds (by simpa using hl) (fun i y e hy he => h (i + 1) y e (by simpa using hy) (by simpa using he))
    simp only [Rows.uptoBulkAll, List.map_cons, List.sum_cons]
    omega
theorem tot_take (ol : List OpE) : ∀ k, tot ol k ≤ (((ol.map fun x => x.dn).take k).sum : Nat)
  | 0 => by simp [tot]
  | k + 1 => by
    have := tot_take ol k
    simp only [tot]
    rw [List.take_add_one, List.sum_append, List.getElem?_map]
    cases ol[k]? with
    | none => simp; omega
    | some x => simp; omega
theorem sum_take : ∀ (l : List Nat) (k : Nat), (l.take k).sum ≤ l.sum
  | [], k => by simp
  | x :: l, 0 => by simp
  | x :: l, k + 1 => by have := sum_take l k; simp only [List.take_succ_cons, List.sum_cons]; omega
theorem tot_bulk16 {H : Type} (ol : List OpE) (ds : List (DataW H)) (hl : ol.length = ds.length) (h : ∀ (i : Nat) (x : OpE) (d : DataW H), ol[i]? = some x → ds[i]? = some d → x.dn ≤ Rows.uptoBulk d) (k : Nat) : tot ol k ≤ (Rows.uptoBulkAll ds : Nat) := by
  have h1 := tot_take ol k
  have h2 := tot_all ol ds hl h
  have h3 := sum_take (ol.map fun x => x.dn) k
  omega

section
variable {H : Type} {enc : TypeId × Value → H} {w : World} {base : Nat} {spare : Nat → Bool} {held : Bool}

theorem data_bulk {n : Nat} {v : Value} {y : DataW H × List MemPlace} (h : DataW.trod enc Tryz.prog w base spare held n 36 [v] = some y) (hw : ∀ k ∈ y.1.weights Tryz.prog 36, k ≤ reachBytes) :
    ∃ a l c p, v = .slice a l c ∧ p.length = l ∧ Rd w a p ∧ (l ≤ c ∧ c ≤ 9223372036854775807) ∧ l ≤ 140737488355328 ∧ l ≤ Rows.uptoBulk y.1 := by
  have c5 : Tryz.prog.cellsOf 5 = 1 := by kernel_rfl
  rcases Go.Deep.open_slice Tryz.underlying36 h with ⟨hcs, _⟩ | ⟨ad, l, c, m, nn, D, Pl, hcs, _, hl, hm, hmm, hxe, hx⟩
  · simp at hcs
    subst hcs
    exact ⟨none, 0, 0, [], rfl, rfl, ⟨fun x hx => (by cases hx), fun hne => absurd rfl hne⟩, by omega, by omega, by omega⟩
  · simp at hcs
    subst hcs
    have hlm : l ≤ m := by rw [hmm]; split <;> omega
    have each : ∀ i, i < l → ∃ x : Int, IsB x ∧ w.cell? (ad.add i) = some (.int .u8 x) := fun i hi => by
      obtain ⟨cs', h1, h2⟩ := hx i (by omega)
      rw [c5] at h1
      obtain ⟨_, hlen, hcell⟩ := World.cells?_some h1
      obtain ⟨z, e, _, r⟩ := DataW.trod_int Tryz.underlying5 h2
      subst e
      refine ⟨z, wf_u8 r, ?_⟩
      have := hcell 0 (by omega)
      rw [Nat.mul_one] at this
      rw [add_0] at this
      exact this
    obtain ⟨p, hp, hP⟩ := list_gen l each
    refine ⟨_, _, _, p, rfl, hp, ⟨fun x hx => ?_, fun hne => ?_⟩, ⟨hl, by unfold maxLen at hm; omega⟩, ?_, ?_⟩
    · obtain ⟨i, hi⟩ := List.getElem?_of_mem hx
      exact (hP i x hi).1
    · have h0 : 0 < l := by rw [← hp]; exact List.length_pos_iff.2 hne
      obtain ⟨x, _, hc⟩ := each 0 h0
      rw [add_0] at hc
      have hs := spot_none hc
      obtain ⟨bb, off, sp⟩ := ad
      simp only at hs
      subst hs
      refine ⟨bb, off, rfl, fun i hi => ?_⟩
      have hv : p[i]? = some (p[i]'hi) := List.getElem?_eq_getElem _
      have := (hP i _ hv).2
      rw [Addr.add_lit] at this
      rw [this]
      simp [List.getD, hv]
    · have hb : Tryz.prog.bytesOf 5 = 1 := by kernel_rfl
      have := hw ((m : Nat) * 1) (by
        rw [hxe]
        simp only [DataW.weights, Tryz.underlying36, List.mem_cons]
        left
        rw [hb]
        simp only [List.length_map, List.length_range]
        omega)
      unfold reachBytes at this
      omega
    · rw [hxe]
      have := bulk_slice (H := H) ((List.range l).map D) ((List.range (m - l)).map fun j => D (l + j))
      simp only [List.length_map, List.length_range] at this
      exact Nat.le_of_lt (Nat.lt_of_le_of_lt (Nat.le_add_right _ _) this)

theorem weights_all {P : Program} {e : TypeId} : ∀ {l : List (DataW H)} {d : DataW H}, d ∈ l → ∀ k ∈ d.weights P e, k ∈ DataW.weightsAll P e l
  | d0 :: l, d, h, k, hk => by
    simp only [DataW.weightsAll, List.mem_append]
    rcases List.mem_cons.1 h with rfl | h
    · exact .inl hk
    · exact .inr (weights_all h k hk)

theorem op_bulk {n : Nat} {cs : List Value} {y : DataW H × List MemPlace} (h2 : DataW.trod enc Tryz.prog w base spare held n 40 cs = some y) (hl : cs.length = 6) (hw : ∀ k ∈ y.1.weights Tryz.prog 40, k ≤ reachBytes) : ∃ x : OpE, x.Ok w ∧ cs = x.cs ∧ x.dn ≤ Rows.uptoBulk y.1 := by
  obtain ⟨xs, m, hk, hxy, hcl, hxl, hf⟩ := DataW.trod_struct Tryz.underlying40 h2
  have c3 : Tryz.prog.cellsOf 3 = 1 := by kernel_rfl
  have c2 : Tryz.prog.cellsOf 2 = 1 := by kernel_rfl
  have c4 : Tryz.prog.cellsOf 4 = 1 := by kernel_rfl
  have cB : Tryz.prog.cellsOf 36 = 1 := by kernel_rfl
  match xs, hxl, cs, hl with
  | [y0, y1, y2, y3, y4, y5], _, [v0, v1, v2, v3, v4, v5], _ =>
    have f0 := hf 0 _ rfl
    have f1 := hf 1 _ rfl
    have f2 := hf 2 _ rfl
    have f3 := hf 3 _ rfl
    have f4 := hf 4 _ rfl
    have f5 := hf 5 _ rfl
    simp [c2, c3, c4, cB] at f0 f1 f2 f3 f4 f5
    obtain ⟨k, e0, _, r0⟩ := DataW.trod_int Tryz.underlying3 f0
    obtain ⟨o, e1, _⟩ := DataW.trod_bool Tryz.underlying4 f1
    obtain ⟨i, e2, _, r3⟩ := DataW.trod_int Tryz.underlying2 f2
    obtain ⟨l, e4, _⟩ := DataW.trod_bool Tryz.underlying4 f4
    obtain ⟨mo, e5, _, r6⟩ := DataW.trod_int Tryz.underlying3 f5
    have hy : y.1 = .agg [y0.1, y1.1, y2.1, y3.1, y4.1, y5.1] := by rw [hxy]; rfl
    obtain ⟨a, dn, dc, p, e3, hp, hrd, hcp, hbig, hbk⟩ := data_bulk f3 (fun k hk => hw k (by
      rw [hy]
      simp only [DataW.weights, Tryz.underlying40]
      exact DataW.weights_mem_each (j := 3) (t := 36) (d := y3.1) rfl rfl k hk))
    simp only [List.cons.injEq, and_true] at e0 e1 e2 e4 e5
    subst e0 e1 e2 e3 e4 e5
    refine ⟨⟨k, o, i, a, dn, dc, l, mo, p⟩, ⟨wf_i64 r0, wf_i64 r3, wf_i64 r6, hp, hcp, hbig, hrd⟩, rfl, ?_⟩
    show dn ≤ Rows.uptoBulk y.1
    have h3 : Rows.uptoBulk y.1 = Rows.uptoBulkAll [y0.1, y1.1, y2.1, y3.1, y4.1, y5.1] + 1 := by rw [hy, Rows.uptoBulk]
    have b1 := Nat.le_trans hbk (bulk_among (d := y3.1) (l := [y0.1, y1.1, y2.1, y3.1, y4.1, y5.1]) (by simp))
    omega

theorem open_ops_bulk {a : Option Addr} {len cap fuel : Nat} {x : DataW H × List MemPlace} (hf : DataW.trod enc Tryz.prog w base spare held fuel 22 [.slice a len cap] = some x) (hw : ∀ k ∈ x.1.weights Tryz.prog 22, k ≤ reachBytes) (hb : Rows.uptoBulk x.1 ≤ 1048576) : ∃ ol, IsOps w a len cap ol ∧ len ≤ 1048576 ∧ tot ol len ≤ 1048576 ∧ ∀ x ∈ ol, x.dn ≤ 1048576 := by
  have c7 : Tryz.prog.cellsOf 40 = 6 := by kernel_rfl
  rcases Go.Deep.open_slice Tryz.underlying22 hf with ⟨hcs, _⟩ | ⟨ad, l, c, m, n, D, Pl, hcs, _, hl, hm, hmm, hxe, hx⟩
  · simp at hcs
    obtain ⟨rfl, rfl, rfl⟩ := hcs
    exact ⟨[], ⟨rfl, by omega, by simp, .inl rfl⟩, by omega, by simp [tot], by simp⟩
  · simp at hcs
    obtain ⟨rfl, rfl, rfl⟩ := hcs
    have hlm : len ≤ m := by rw [hmm]; split <;> omega
    have hx1 : x.1 = .slice ((List.range len).map D) ((List.range (m - len)).map fun j => D (len + j)) := by rw [hxe]
    rw [hx1] at hb
    simp only [Rows.uptoBulk] at hb
    have bk : Rows.uptoBulkAll ((List.range len).map D) ≤ 1048575 := by omega
    have hD : ∀ i, i < len → ∀ k ∈ (D i).weights Tryz.prog 40, k ≤ reachBytes := fun i hi k hk => hw k (by
      rw [hx1]
      simp only [DataW.weights, Tryz.underlying22, List.mem_cons, List.mem_append]
      exact .inr (.inl (weights_all (d := D i) (List.mem_map.2 ⟨i, by simpa using hi, rfl⟩) k hk)))
    have each : ∀ i, i < len → ∃ x : OpE, (x.Ok w ∧ x.dn ≤ Rows.uptoBulk (D i)) ∧ ∀ j v, x.cs[j]? = some v → w.cell? (ad.add (i * 6) |>.add j) = some v := fun i hi => by
      obtain ⟨cs', h1, h2⟩ := hx i (by omega)
      rw [c7] at h1
      obtain ⟨_, hlen, hcell⟩ := World.cells?_some h1
      obtain ⟨x, ok, rfl, bx⟩ := op_bulk h2 hlen (hD i hi)
      exact ⟨x, ⟨ok, bx⟩, fun j v hj => by rw [hcell j (by have := (List.getElem?_eq_some_iff.1 hj).1; simpa [OpE.cs] using this)]; exact hj⟩
    obtain ⟨ol, hol, hP⟩ := list_gen len each
    have tl : len ≤ 1048576 := by
      have := bulk_count ((List.range len).map D)
      simp only [List.length_map, List.length_range] at this
      omega
    have db : ∀ (i : Nat) (x : OpE) (d : DataW H), ol[i]? = some x → ((List.range len).map D)[i]? = some d → x.dn ≤ Rows.uptoBulk d := fun i x d hxi hd => by
      have hi : i < len := by rw [← hol]; exact (List.getElem?_eq_some_iff.1 hxi).1
      rw [List.getElem?_map, List.getElem?_range hi] at hd
      simp only [Option.map_some, Option.some.injEq] at hd
      subst hd
      exact (hP i x hxi).1.2
    have tt := tot_bulk16 ol ((List.range len).map D) (by simp [hol]) db len
    refine ⟨ol, ⟨hol, ⟨hl, by unfold maxLen at hm; omega⟩, fun x hx => ?_, ?_⟩, tl, by omega, fun x hx => ?_⟩
    · obtain ⟨i, hi⟩ := List.getElem?_of_mem hx
      exact (hP i x hi).1.1
    · by_cases h0 : len = 0
      · exact .inl h0
      · right
        obtain ⟨x, ok, hc⟩ := each 0 (by omega)
        have hs : ad.spot = none := by
          have := hc 0 _ rfl
          rw [Nat.zero_mul, add_0, add_0] at this
          exact spot_none this
        obtain ⟨bb, off, sp⟩ := ad
        simp only at hs
        subst hs
        refine ⟨bb, off, rfl, fun i x hi => ?_⟩
        intro j v hj
        have := (hP i x hi).2 j v hj
        simpa only [Addr.add_lit] using this
    · obtain ⟨i, hi⟩ := List.getElem?_of_mem hx
      have hil : i < len := by rw [← hol]; exact (List.getElem?_eq_some_iff.1 hi).1
      have := db i x (D i) hi (by rw [List.getElem?_map, List.getElem?_range hil]; rfl)
      have := bulk_among (d := D i) (l := (List.range len).map D) (List.mem_map.2 ⟨i, by simpa using hil, rfl⟩)
      omega
end

def PickP (w : World) (e : Ending) (w' : World) : Prop := ∃ k : Nat, e = .returned (.int .i64 (k : Int)) ∧ k < 5 ∧ w' = w
theorem pick5 (c : Int) (w : World) (hc : -9223372036854775808 ≤ c ∧ c ≤ 9223372036854775807) : Calls Tryz.prog 13 #[.int .i64 c, .int .i64 5] w (PickP w) := by
  by_cases h : c < 0
  · have d : decide (c < 0) = true := decide_eq_true h
    have w1 : IntKind.i64.wrap (c + 1) = c + 1 := by rw [IntKind.wrap_i64]; omega
    have w2 : IntKind.i64.wrap (-(c + 1)) = -(c + 1) := by rw [IntKind.wrap_i64]; omega
    obtain ⟨m, hm⟩ : ∃ m : Nat, -(c + 1) = (m : Int) := ⟨(-(c + 1)).toNat, by omega⟩
    have ht : Int.tmod (-(c + 1)) 5 = ((m % 5 : Nat) : Int) := by rw [hm, show (5 : Int) = ((5 : Nat) : Int) from rfl, ← Int.ofNat_tmod]
    have HM := hide hm
    clear hm
    have hk : m % 5 < 5 := Nat.mod_lt _ (by omega)
    generalize m % 5 = k at *
    go_enter Tryz.func13, Tryz.ntmps13
    go_wp2
    all_goals go_ret
    all_goals exact ⟨k, by simp [*], hk, rfl⟩
  · have d : decide (c < 0) = false := decide_eq_false h
    obtain ⟨m, hm⟩ : ∃ m : Nat, c = (m : Int) := ⟨c.toNat, by omega⟩
    have ht : Int.tmod c 5 = ((m % 5 : Nat) : Int) := by rw [hm, show (5 : Int) = ((5 : Nat) : Int) from rfl, ← Int.ofNat_tmod]
    have HM := hide hm
    clear hm
    have hk : m % 5 < 5 := Nat.mod_lt _ (by omega)
    generalize m % 5 = k at *
    go_enter Tryz.func13, Tryz.ntmps13
    go_wp2
    all_goals go_ret
    all_goals exact ⟨k, by simp [*], hk, rfl⟩
end Go.Proofs.YthihabjegpacaaaGreat

namespace Go.Proofs.YthihabjegpacaaaGreat
open Go.RowKit
set_option linter.unusedVariables false
set_option maxHeartbeats 1000000
set_option maxRecDepth 100000

/-- Bytes that a call collects. -/
def GB (n0 : Nat) (W : World) (v : Value) (T : List Int) : Prop := W.ownsRow n0 5 1 v T.length (T.map (Value.int .u8))
theorem gb_nil (n0 : Nat) (W : World) : GB n0 W (.slice none 0 0) [] := ⟨rfl, .inl ⟨rfl, rfl⟩⟩
theorem GB.kept {n0 : Nat} {W W' : World} {v : Value} {T : List Int} (h : GB n0 W v T) (hk : ∀ g, v.ownBlock = some g → W'.heap[g]? = W.heap[g]?) : GB n0 W' v T := by
  refine ⟨h.1, ?_⟩
  rcases h.2 with h2 | ⟨g, c, cur, e1, q1, q2, q3⟩
  · exact .inl h2
  · exact .inr ⟨g, c, cur, e1, q1, (hk g (by rw [e1]; rfl)).trans q2, q3⟩
theorem GB.own {n0 : Nat} {W : World} {v : Value} {T : List Int} (h : GB n0 W v T) {g : Nat} (e : v.ownBlock = some g) : n0 ≤ g ∧ g < W.heap.size ∧ ∃ c, W.heap[g]? = some (.cells c 5 (0, 0)) := by
  rcases h.2 with ⟨rfl, -⟩ | ⟨g', c, cur, rfl, q1, q2, -⟩
  · cases e
  · cases e; exact ⟨q1, (Array.getElem?_eq_some_iff.1 q2).1, _, q2⟩
theorem GB.rd {n0 : Nat} {W : World} {v : Value} {T : List Int} (h : GB n0 W v T) (hb : ∀ x ∈ T, IsB x) : ∃ a c, v = .slice a T.length c ∧ T.length ≤ c ∧ c ≤ 9223372036854775807 ∧ Rd W a T := by
  rcases h.2 with ⟨rfl, e2⟩ | ⟨g, c, cur, rfl, q1, q2, q3, q4, q5, q6⟩
  · have : T = [] := List.length_eq_zero_iff.1 e2
    subst this
    exact ⟨none, 0, rfl, Nat.le_refl _, by omega, hb, fun h => absurd rfl h⟩
  · refine ⟨_, c, rfl, q3, by unfold maxLen at q4; omega, hb, fun _ => ⟨g, 0, rfl, fun i hi => ?_⟩⟩
    rw [Nat.zero_add]
    unfold World.cell?
    rw [q2]
    have h1 : (cur.toList.take (T.length * 1))[i]? = (T.map (Value.int .u8))[i]? := by rw [q6]
    rw [List.getElem?_take, if_pos (by omega), Array.getElem?_toList] at h1
    simp only
    rw [h1]
    simp [List.getD, hi]
theorem gb_app {n0 : Nat} (W : World) (v : Value) (T D : List Int) (g c : Nat) (h : GB n0 W v T) (h0 : n0 ≤ W.heap.size) (hc : Blk W g (by8 D) 5) (hb : T.length + D.length ≤ 1000000000) :
    ∃ v' W', (Builtin.append_ #[36, 36] 36 #[v, .slice (some ⟨g, 0, none⟩) D.length c]).run Tryz.prog W = .ok v' W' ∧ GB n0 W' v' (T ++ D) ∧ W.grownBy W' v.ownBlock ∧ (v'.ownBlock = v.ownBlock ∨ v'.ownBlock = some W.heap.size) := by
  obtain ⟨i, hi, hz0, hz1, hz2⟩ := info_parts Tryz.infoB
  obtain ⟨v', W', hr, ho, hgr, hnil, hob⟩ := run_append_own_at (P := Tryz.prog) W n0 36 36 5 i _ 1 1 Tryz.underlying36 hi hz0 hz1 hz2 rfl (by decide) v T.length (T.map (Value.int .u8)) h ⟨g, 0, none⟩ D.length c (D.map (Value.int .u8)) (by simp) (fun j u hj => by
    rw [List.getElem?_map] at hj
    cases hx : D[j]? with
    | none => rw [hx] at hj; simp at hj
    | some x =>
      rw [hx] at hj; simp at hj; subst hj
      have : (⟨g, 0, none⟩ : Addr).add j = ⟨g, j, none⟩ := by unfold Addr.add; split <;> simp_all
      rw [this]
      exact hc.cell j _ (by8_get D j x hx)) (by intro u hu; obtain ⟨x, -, rfl⟩ := List.mem_map.1 hu; rfl) (by unfold maxLen; omega) (by omega) h0
  have e2 : (T ++ D).length = T.length + D.length := by simp
  have ho' : GB n0 W' v' (T ++ D) := by unfold GB; rw [e2, List.map_append]; exact ho
  exact ⟨v', W', hr, ho', hgr, hob⟩

/-- A Recv with all its blocks (M), beside what was made for the caller. -/
structure RM (w X : World) (b : Nat) (M : Nat → Prop) (S : Rv) : Prop where
  ra : ∃ bk vh E, RA X M b bk vh E X S ∧ HeOk S E
  mw : ∀ k, M k → w.heap.size ≤ k
  ml : ∀ k, M k → k < X.heap.size
  gr : w.grownBy X none
/-- What its calls leave. -/
structure RmTo (w X : World) (M : Nat → Prop) (b : Nat) (S' : Rv) (Y : World) (M' : Nat → Prop) : Prop where
  rm : RM w Y b M' S'
  kp : Kp M X Y
  out : ∀ k, k < X.heap.size → ¬ M k → ¬ M' k
theorem rm_base {w X Y : World} {b bk : Nat} {M : Nat → Prop} {vh : Value} {E : List He} {S : Rv} (hw : w.grownBy X none) (hm : ∀ k, M k → w.heap.size ≤ k) (h : RA X M b bk vh E Y S) (hE : HeOk S E) : RmTo w X M b S Y (fun k => (M k ∨ X.heap.size ≤ k) ∧ k < Y.heap.size) := by
  have g := h.rebase (World.grownBy.refl Y none)
  refine ⟨⟨⟨bk, vh, E, g, hE⟩, ?_, fun k hk => hk.2, ?_⟩, h.kp, fun k h1 h2 hk => ?_⟩
  · rintro k ⟨h1 | h1, -⟩
    · exact hm k h1
    · exact Nat.le_trans hw.size h1
  · exact ⟨h.kp.os.trans hw.os, h.kp.tape.trans hw.tape, h.kp.output.trans hw.output, Nat.le_trans hw.size h.kp.size, fun i hi _ => (h.kp.block i (Nat.lt_of_lt_of_le hi hw.size) (fun q => by have := hm i q; omega)).trans (hw.block i hi (by simp))⟩
  · rcases hk.1 with q | q
    · exact h2 q
    · omega
theorem rm_new {w X : World} {limit : Int} (g : w.grownBy X none) (hc : 0 ≤ limit ∧ limit ≤ 4611686018427387903) : Calls Tryz.prog 5 #[.int .i64 limit] X fun e Y => ∃ b M, e = .returned (.tuple #[ptr b, .int .i64 0]) ∧ RM w Y b M (newRv limit) :=
  (new_at limit X hc).mono fun e Y ⟨b, bk, he, h⟩ => ⟨b, _, he, (rm_base g (fun k q => absurd q (fun q => q)) h (heok_new limit)).rm⟩
theorem rm_out {w X : World} {b : Nat} {M : Nat → Prop} {S : Rv} (h : RM w X b M S) {a : Option Addr} {p : List Int} (hr : Rd w a p) : Out X M a p := fun hne pb off e => by
  obtain ⟨b', off', e', hc'⟩ := hr.2 hne
  have hpos : 0 < p.length := List.length_pos_iff.2 hne
  have hlt : b' < w.heap.size := World.block_lt_of_cell? _ _ (hc' 0 hpos)
  rw [e] at e'
  cases e'
  exact ⟨fun q => by have := h.mw _ q; omega, Nat.lt_of_lt_of_le hlt h.gr.size⟩
theorem rm_take {w X : World} {b : Nat} {M : Nat → Prop} {S : Rv} (h : RM w X b M S) (hok : RvOk S) (hl : S.limit ≤ 1048576) (off : Int) (a : Option Addr) (n pc : Nat) (fin : Bool) (p : List Int) (hr : Rd w a p) (hn : p.length = n) (hpc : n ≤ pc ∧ pc ≤ 9223372036854775807) (hnn : n ≤ 1048576) :
    Calls Tryz.prog 10 #[ptr b, .int .i64 off, .slice a n pc, .bool fin] X fun e Y => e = .returned (.tuple #[.int .i64 (takeN S off n fin), .int .i64 (takeE S off n fin)]) ∧ ∃ M', RmTo w X M b (takeS S off p fin) Y M' := by
  obtain ⟨bk, vh, E, hA, hE⟩ := h.ra
  have h1 := he_len hok hE; have h2 := k_len hok; have h3 := hok.hl
  exact (take_at hA hok hE (by omega) (by omega) off a n pc fin p (hr.grow h.gr) (rm_out h hr) hn hpc (by omega)).mono fun e Y ⟨he, vh', E', q1, q2, q3⟩ => ⟨he, _, rm_base h.gr h.mw q1 q2⟩
theorem rm_read {w X : World} {b : Nat} {M : Nat → Prop} {S : Rv} (h : RM w X b M S) (hok : RvOk S) (hl : S.limit ≤ 1048576) (most : Int) (hm : -9223372036854775808 ≤ most ∧ most ≤ 9223372036854775807) :
    Calls Tryz.prog 11 #[ptr b, .int .i64 most] X fun e Y => ∃ n g M', e = .returned (.tuple #[.slice (some ⟨g, 0, none⟩) n n, .bool (readS S n).ended]) ∧ RowN S most n ∧ Blk Y g (by8 (bytesT S n)) 5 ∧ X.heap.size ≤ g ∧ ¬ M' g ∧ RmTo w X M b (readS S n) Y M' := by
  obtain ⟨bk, vh, E, hA, hE⟩ := h.ra
  have h1 := he_len hok hE; have h3 := hok.hl
  refine (read_at hA hok hE (by omega) most hm (fun n q => by have := row_high hok q; have := hok.r0; omega)).mono fun e Y ⟨n, g, he, q⟩ => ?_
  obtain ⟨W1, vh', E', g1, l1, l2, r1, e1, -⟩ := q.ra
  have z := rm_base (w := w) (X := W1) (grown_trans h.gr g1) (fun k hk => h.mw k (hk.1.resolve_right (by omega))) r1 e1
  refine ⟨n, g, _, he, q.row, q.blk, l1, fun hk => ?_, z.rm, ?_, fun k hk hn hq => ?_⟩
  · rcases hk.1 with q | q
    · omega
    · omega
  · refine ⟨r1.kp.os.trans g1.os, r1.kp.tape.trans g1.tape, r1.kp.output.trans g1.output, Nat.le_trans g1.size r1.kp.size, fun k hk hn => ?_⟩
    exact (r1.kp.block k (Nat.lt_of_lt_of_le hk g1.size) (fun q => hn (q.1.resolve_right (by omega)))).trans (g1.block k hk (by simp))
  · have := g1.size
    rcases hq.1 with q | q
    · exact hn (q.1.resolve_right (by omega))
    · omega
/-- What is no block of it may be written. -/
theorem RM.other {w X Y : World} {b : Nat} {M D : Nat → Prop} {S : Rv} (h : RM w X b M S) (k : Kp D X Y) (hM : ∀ g, M g → ¬ D g) (hD : ∀ g, D g → w.heap.size ≤ g) : RM w Y b M S := by
  obtain ⟨bk, vh, E, hA, hE⟩ := h.ra
  exact ⟨⟨bk, vh, E, hA.keep k hM, hE⟩, h.mw, fun g q => Nat.lt_of_lt_of_le (h.ml g q) k.size, ⟨k.os.trans h.gr.os, k.tape.trans h.gr.tape, k.output.trans h.gr.output, Nat.le_trans h.gr.size k.size, fun i hi _ => (k.block i (Nat.lt_of_lt_of_le hi h.gr.size) (fun q => by have := hD i q; omega)).trans (h.gr.block i hi (by simp))⟩⟩
theorem RM.grown {w X Y : World} {b : Nat} {M : Nat → Prop} {S : Rv} (h : RM w X b M S) (g : X.grownBy Y none) : RM w Y b M S := h.other (Kp.grown g (fun _ => False)) (fun _ _ q => q) (fun _ q => q.elim)
theorem RmTo.gb {w X Y : World} {M M' : Nat → Prop} {b n0 : Nat} {S' : Rv} (h : RmTo w X M b S' Y M') {v : Value} {T : List Int} (g : GB n0 X v T) (hn : ∀ k, v.ownBlock = some k → ¬ M k) : GB n0 Y v T ∧ ∀ k, v.ownBlock = some k → ¬ M' k :=
  ⟨g.kept fun k e => h.kp.block k (g.own e).2.1 (hn k e), fun k e => h.out k (g.own e).2.1 (hn k e)⟩

/-- A part of a text that came in. -/
theorem sl_part {ta : Option Addr} {tn tc : Nat} (a b : Nat) (hab : a ≤ b) (hb : b ≤ tc) : ∃ a', (∀ W : World, (Instr.sliceAt 36 (.slice ta tn tc) (some (.int .i64 (a : Int))) (some (.int .i64 (b : Int))) none).run Tryz.prog W = .ok (.slice a' (b - a) (tc - a)) W) ∧ ∀ (W : World) (text : List Int), b ≤ text.length → Rd W ta text → Rd W a' ((text.drop a).take (b - a)) := by
  refine ⟨if tc = a then ta else ta.map (·.add (a * 1)), fun W => ?_, fun W text hl hr => ⟨part_b hr.1, fun hne => ?_⟩⟩
  · have e : Tryz.prog.elem 36 = 5 := by kernel_rfl
    have ht : Tryz.prog.underlying 36 = some (.slice (Tryz.prog.elem 36)) := by rw [e]; exact Tryz.underlying36
    rw [run_sliceAt_slice _ _ _ _ _ _ ht, run_slice_lh _ _ _ _ _ ht _ _ _ _ (by omega) (by omega) (by omega)]
    obtain ⟨i, hi, hz, hs, hb'⟩ := info_parts Tryz.infoB
    have : (sizeOf (Tryz.prog.elem 36)).run Tryz.prog W = .ok 1 W := by
      rw [e]
      simp [sizeOf, typeInfo, hi, hs]
    rw [this]
    simp [Result.andThen, sliced]
  · have hp := part_len (text := text) hab hl
    have hpos : 0 < b - a := by rw [← hp]; exact List.length_pos_iff.2 hne
    obtain ⟨g, off, rfl, hc⟩ := hr.2 (fun e => by rw [e] at hl; simp at hl; omega)
    refine ⟨g, off + a, ?_, fun i hi => ?_⟩
    · rw [if_neg (by omega)]
      simp only [Option.map_some, Addr.add_lit, Nat.mul_one]
    · rw [hp] at hi
      have := hc (a + i) (by omega)
      rw [← Nat.add_assoc] at this
      rw [this]
      simp [List.getD, part_get hi]
theorem wpList_slice_run {P : Program} {ops : Array Oper} {rest : List Oper} {o : Oper} {a : Act} {Q : Exit → Act → World → Prop} (w : World) (hgd : o.guard = none) (t : TypeId) (x lo hi : Operand) (ho : o.op = .slice t x (some lo) (some hi) none) (v vl vh : Value)
    (hx : a.eval x = v) (hl : a.eval lo = vl) (hh : a.eval hi = vh) {v' : Value} (hr : (Instr.sliceAt t v (some vl) (some vh) none).run P w = .ok v' w) (h : wpList P ops Q rest (a.put o.dst v') w) : wpList P ops Q (o :: rest) a w :=
  wpList_plain hgd fun K hK => by
    unfold Oper.wp
    simp [execOp, ho, hx, hl, hh, hr, Result.andThen]
    exact hK _ _ h
end Go.Proofs.YthihabjegpacaaaGreat

namespace Go.Proofs.YthihabjegpacaaaGreat
open Go.RowKit
set_option linter.unusedVariables false
set_option maxRecDepth 100000
set_option maxHeartbeats 4000000

/-- How many of the first ones stand in a row. -/
structure Lead (S : Rv) (H : List Hd) (most : Int) (m : Nat) : Prop where
  le : m ≤ H.length
  at_ : ∀ i x, i < m → H[i]? = some x → x.1 = S.read + i
  mo : (m : Int) ≤ max most 0
theorem srt_lt {H : List Hd} (h : H.Pairwise (fun a b => a.1 < b.1)) {i j : Nat} {x y : Hd} (hi : H[i]? = some x) (hj : H[j]? = some y) (hij : i < j) : x.1 < y.1 := by
  have a := List.getElem?_eq_some_iff.1 hi
  have b := List.getElem?_eq_some_iff.1 hj
  have := List.pairwise_iff_getElem.1 h i j a.1 b.1 hij
  rw [a.2, b.2] at this
  exact this
theorem Lead.got {S : Rv} {H : List Hd} {most : Int} {m : Nat} (h : Lead S H most m) (hI : IsH S H) {i : Nat} (hi : i < m) : ∃ x, H[i]? = some x ∧ x.1 = S.read + i ∧ S.T (S.read + i) = some x.2 := by
  have hx : H[i]? = some (H[i]'(by have := h.le; omega)) := List.getElem?_eq_getElem _
  have e := h.at_ i _ hi hx
  have := (hI.is _ (List.mem_of_getElem? hx)).2
  rw [e] at this
  exact ⟨_, hx, e, this⟩
theorem Lead.row {S : Rv} {H : List Hd} {most : Int} {m : Nat} (h : Lead S H most m) (hI : IsH S H) (he : ¬ (m : Int) < most ∨ m = H.length ∨ ∃ x, H[m]? = some x ∧ x.1 ≠ S.read + m) : RowN S most m := by
  refine ⟨fun i hi => by obtain ⟨x, -, -, e⟩ := h.got hI hi; rw [e]; rfl, h.mo, ?_⟩
  rcases he with q | q
  · left; have := h.mo; omega
  · right
    cases hT : S.T (S.read + m) with
    | none => rfl
    | some y =>
      obtain ⟨i, hi⟩ := List.getElem?_of_mem (hI.all _ _ (by omega) hT)
      have hil := (List.getElem?_eq_some_iff.1 hi).1
      by_cases c : i < m
      · have := h.at_ i _ c hi; simp at this; omega
      · rcases q with rfl | ⟨x, hx, hne⟩
        · omega
        · by_cases c2 : i = m
          · subst c2; rw [hx] at hi; cases hi; exact absurd rfl hne
          · have h1 := srt_lt hI.srt hx hi (by omega)
            simp at h1
            have h2 := (hI.is x (List.mem_of_getElem? hx)).1
            cases m with
            | zero => simp at h1; omega
            | succ m =>
              obtain ⟨z, hz, ez, -⟩ := h.got hI (i := m) (by omega)
              have h3 := srt_lt hI.srt hz hx (by omega)
              omega
theorem Lead.bytes {S : Rv} {H : List Hd} {most : Int} {m : Nat} (h : Lead S H most m) (hI : IsH S H) : bytesT S m = (H.take m).map Prod.snd := by
  apply List.ext_getElem?
  intro i
  by_cases hi : i < m
  · obtain ⟨x, hx, ex, eT⟩ := h.got hI hi
    rw [bytesT_get S hi eT, List.getElem?_map, List.getElem?_take, if_pos hi, hx]
    rfl
  · rw [List.getElem?_eq_none (by rw [bytesT_len]; omega), List.getElem?_eq_none (by simp; omega)]
theorem Lead.drop {S : Rv} {H : List Hd} {most : Int} {m : Nat} (h : Lead S H most m) (hI : IsH S H) {S' : Rv} (hr : S'.read = S.read + m) (hT : S'.T = S.T) : IsH S' (H.drop m) := by
  have hs := hI.srt
  rw [← List.take_append_drop m H, List.pairwise_append] at hs
  refine ⟨hs.2.1, fun x hx => ?_, fun x y hx hy => ?_⟩
  · rw [hr, hT]
    obtain ⟨q1, q2⟩ := hI.is x (List.mem_of_mem_drop hx)
    refine ⟨?_, q2⟩
    cases m with
    | zero => simpa using q1
    | succ m =>
      obtain ⟨z, hz, ez, -⟩ := h.got hI (i := m) (by omega)
      have : z.1 < x.1 := hs.2.2 z (List.mem_of_getElem? (show (H.take (m + 1))[m]? = some z by rw [List.getElem?_take, if_pos (by omega)]; exact hz)) x hx
      omega
  · rw [hr] at hx
    rw [hT] at hy
    obtain ⟨i, hi⟩ := List.getElem?_of_mem (hI.all x y (by omega) hy)
    by_cases c : i < m
    · have := h.at_ i _ c hi; simp at this; omega
    · exact List.mem_of_getElem? (show (H.drop m)[i - m]? = some (x, y) by rw [List.getElem?_drop, show m + (i - m) = i by omega]; exact hi)
theorem Lead.next {S : Rv} {H : List Hd} {most : Int} {m : Nat} (h : Lead S H most m) {x : Hd} (hx : H[m]? = some x) (hm : (m : Int) < most) (he : x.1 = S.read + m) : Lead S H most (m + 1) := by
  have hlt := (List.getElem?_eq_some_iff.1 hx).1
  refine ⟨hlt, fun i y hi hy => ?_, by omega⟩
  by_cases c : i = m
  · subst c; rw [hx] at hy; cases hy; exact he
  · exact h.at_ i y (by omega) hy

section
variable {W : World} {r : Nat} {a : Option Addr} {c : Nat} {S : Rv} {H : List Hd}
/-- While Do goes on. -/
structure DoI (W : World) (r : Nat) (S : Rv) (a : Option Addr) (H : List Hd) (most : Int) (m : Nat) (v : Value) (a' : Option Addr) (c' : Nat) (X : World) : Prop where
  ld : Lead S H most m
  gb : GB W.heap.size X v ((H.take m).map Prod.snd)
  dr : DR X r a' c' { S with read := S.read + m } (H.drop m)
  gr : W.grownBy X (some r)
  nw : NwH W a H a' (H.drop m)
def slLen : Value → Nat
  | .slice _ n _ => n
  | _ => 0
def DoP (W : World) (r : Nat) (S : Rv) (a : Option Addr) (H : List Hd) (most : Int) (n : Nat) (v : Value) (W' : World) : Prop := RowN S most n ∧ GB W.heap.size W' v (bytesT S n) ∧ (∃ a' c' H', DR W' r a' c' (readS S n) H' ∧ H'.length ≤ H.length ∧ NwH W a H a' H') ∧ W.grownBy W' (some r)
/-- One byte. -/
theorem do_step {most : Int} {m : Nat} {oa : Option Addr} {oc : Nat} {a' : Option Addr} {c' : Nat} {X : World} (hI : IsH S H) (h : DoI W r S a H most m (.slice oa m oc) a' c' X) (hH : H.length ≤ 100000000) (hr : r < W.heap.size) (hm : (m : Int) < most) {x : Hd} (hx : H[m]? = some x) (he : x.1 = S.read + m) :
    ∃ oa' oc' X2, (Builtin.append_ #[36, 36] 36 #[.slice oa m oc, .slice (some ⟨X.heap.size, 0, none⟩) 1 1]).run Tryz.prog (X.alloc (.cells #[.int .u8 x.2] 5)) = .ok (.slice oa' (m + 1) oc') X2 ∧ X2.cell? ⟨r, 4, none⟩ = some (.slice a' (H.length - m) c') ∧ X2.frozen? ⟨r, 4, none⟩ = false ∧
    ∃ a2, (Instr.sliceAt 54 (.slice a' (H.length - m) c') (some (.int .i64 1)) none none).run Tryz.prog X2 = .ok (.slice a2 (H.length - m - 1) (c' - 1)) X2 ∧ (X2.setCell ⟨r, 4, none⟩ (.slice a2 (H.length - m - 1) (c' - 1))).cell? ⟨r, 1, none⟩ = some (.int .i64 (S.read + m)) ∧ (X2.setCell ⟨r, 4, none⟩ (.slice a2 (H.length - m - 1) (c' - 1))).frozen? ⟨r, 1, none⟩ = false ∧
    DoI W r S a H most (m + 1) (.slice oa' (m + 1) oc') a2 (c' - 1) ((X2.setCell ⟨r, 4, none⟩ (.slice a2 (H.length - m - 1) (c' - 1))).setCell ⟨r, 1, none⟩ (.int .i64 (S.read + m + 1))) := by
  have hlt := (List.getElem?_eq_some_iff.1 hx).1
  have lt : ((H.take m).map Prod.snd).length = m := by simp; omega
  have ld : (H.drop m).length = H.length - m := by simp
  have ga := grown_alloc X (.cells #[.int .u8 x.2] 5)
  have gb1 : GB W.heap.size (X.alloc (.cells #[.int .u8 x.2] 5)) (.slice oa m oc) ((H.take m).map Prod.snd) := h.gb.kept fun g e => ga.block g (h.gb.own e).2.1 (by simp)
  obtain ⟨v', X2, hap, gb2, g2, hob⟩ := gb_app (n0 := W.heap.size) (X.alloc (.cells #[.int .u8 x.2] 5)) (.slice oa m oc) ((H.take m).map Prod.snd) [x.2] X.heap.size 1 gb1 (Nat.le_trans h.gr.size ga.size) (Blk.new X _ _) (by rw [lt]; simp; omega)
  have e1 : (H.take m).map Prod.snd ++ [x.2] = (H.take (m + 1)).map Prod.snd := by rw [List.take_add_one, hx]; simp
  rw [e1] at gb2
  have l2 : ((H.take (m + 1)).map Prod.snd).length = m + 1 := by simp; omega
  obtain ⟨oa', oc', rfl⟩ : ∃ oa' oc', v' = .slice oa' (m + 1) oc' := by
    rcases gb2.2 with ⟨-, e⟩ | ⟨g, c, cur, e, -⟩
    · rw [l2] at e; omega
    · rw [l2] at e; exact ⟨_, _, e⟩
  -- the struct and its list are not the row that is grown
  have hv : ∀ k, (Value.slice oa m oc).ownBlock = some k → W.heap.size ≤ k := fun k e => (h.gb.own e).1
  have gX : X.grownBy X2 (Value.slice oa m oc).ownBlock := by
    cases hv2 : (Value.slice oa m oc).ownBlock with
    | none => rw [hv2] at g2; exact grown_trans ga g2
    | some k => rw [hv2] at g2; exact ⟨g2.os.trans ga.os, g2.tape.trans ga.tape, g2.output.trans ga.output, Nat.le_trans ga.size g2.size, fun i hi hn => (g2.block i (Nat.lt_of_lt_of_le hi ga.size) hn).trans (ga.block i hi (by simp))⟩
  have bk2 : Blk X2 r (drc (.slice a' (H.drop m).length c') { S with read := S.read + m }) 56 := (gX.block r h.dr.blk.lt (fun e => by have := hv r e.symm; omega)).trans h.dr.blk
  have rd2 : RdH X2 a' c' (H.drop m) := h.dr.rd.kept fun g cur hg => gX.block g (Array.getElem?_eq_some_iff.1 hg).1 fun e => by
    obtain ⟨-, -, cc, hcc⟩ := h.gb.own e.symm
    rw [hg] at hcc
    simp at hcc
  rw [ld] at bk2
  have cap := rd2.cap
  rw [ld] at cap
  obtain ⟨a2, s2, r2⟩ := sl_l (a := a') (n := H.length - m) (c := c') 1 (by omega) cap.1
  have rd3 := (r2 X2 (H.drop m)).1 ld rd2
  have nd3 := (r2 X2 (H.drop m)).2 rd2
  rw [List.drop_drop] at nd3
  rw [List.drop_drop] at rd3
  have b3 := bk2.setC 4 (.slice a2 (H.length - m - 1) (c' - 1))
  have b4 := b3.setC 1 (.int .i64 (S.read + m + 1))
  have ld1 : (H.drop (m + 1)).length = H.length - m - 1 := by simp; omega
  refine ⟨oa', oc', X2, hap, bk2.cell 4 _ rfl, bk2.thaw 4, a2, s2 X2, b3.cell 1 _ rfl, b3.thaw 1, h.ld.next hx hm he, ?_, ⟨?_, ?_, (h.ld.next hx hm he).drop hI (by show S.read + ((m + 1 : Nat) : Int) = _; rfl) rfl⟩, ?_, fun g q => h.nw g (nd3 g q)⟩
  · refine gb2.kept fun g e => ?_
    have hg := gb2.own e
    have ne : g ≠ r := by omega
    rw [set_heap _ _ _ _ _ ne, set_heap _ _ _ _ _ ne]
  · have e2 : S.read + (m : Int) + 1 = S.read + ((m + 1 : Nat) : Int) := by omega
    rw [ld1]
    rw [e2] at b4
    rw [e2]
    exact b4
  · exact (rd3.set bk2).set b3
  · have gW : W.grownBy X2 (some r) := by
      refine ⟨gX.os.trans h.gr.os, gX.tape.trans h.gr.tape, gX.output.trans h.gr.output, Nat.le_trans h.gr.size gX.size, fun i hi hn => ?_⟩
      rw [gX.block i (Nat.lt_of_lt_of_le hi h.gr.size) (fun e => by have := hv i e.symm; omega)]
      exact h.gr.block i hi hn
    exact grown_trS gW (grown_trS (grown_atS _ _ _) (grown_atS _ _ _))
end
end Go.Proofs.YthihabjegpacaaaGreat

namespace Go.Proofs.YthihabjegpacaaaGreat
open Go.RowKit
set_option linter.unusedVariables false
set_option maxRecDepth 100000
set_option maxHeartbeats 4000000

section
variable {W : World} {r : Nat} {a : Option Addr} {c : Nat} {S : Rv} {H : List Hd}
theorem rdo_reset (h : DR W r a c S H) (hok : RvOk S) (most : Int) (hrs : S.reset = true) :
    Calls Tryz.prog 17 #[ptr r, .int .i64 most] W fun e W' => ∃ n v, e = .returned (.tuple #[v, .bool (readS S n).ended]) ∧ DoP W r S a H most n v W' := by
  obtain ⟨th, -, -, -, -, -, -, c6⟩ := h.cells
  rw [hrs] at c6
  have e0 : readS S 0 = S := by
    have h1 : (S.ended || (decide (S.read + ((0 : Nat) : Int) = S.final) && !S.reset)) = S.ended := by rw [hrs]; simp
    unfold readS
    rw [h1]
    simp
  have F : Hid ((readS S 0).ended = false ∧ DoP W r S a H most 0 (.slice none 0 0) W) := ⟨by rw [e0]; exact (hok.rf hrs).2, ⟨fun i hi => by omega, by omega, .inr (by simpa using hok.rs hrs S.read (Int.le_refl _))⟩, gb_nil _ _, ⟨a, c, H, by rw [e0]; exact h, Nat.le_refl _, nwh_refl _ _ _⟩, World.grownBy.refl _ _⟩
  clear h hrs e0
  go_enter Tryz.func17, Tryz.ntmps17
  go_wp2_with fail
  go_ret2
  exact ⟨0, _, by rw [(unhide F).1]; rfl, (unhide F).2⟩

/-- The end of it. -/
theorem do_end {most : Int} {m : Nat} {v : Value} {a' : Option Addr} {c' : Nat} {X : World} (hok : RvOk S) (hrs : S.reset = false) (hI : IsH S H) (h : DoI W r S a H most m v a' c' X) (hr : r < W.heap.size) (he : ¬ (m : Int) < most ∨ m = H.length ∨ ∃ x, H[m]? = some x ∧ x.1 ≠ S.read + m) (q : Nat) :
    (S.read + m = S.final → 0 ≤ S.final ∧ (readS S m).ended = true ∧ DoP W r S a H most m v ((X.drewN q).setCell ⟨r, 5, none⟩ (.bool true))) ∧ (S.read + m ≠ S.final → (readS S m).ended = false ∧ DoP W r S a H most m v (X.drewN q)) := by
  have row := h.ld.row hI he
  have gq : X.grownBy (X.drewN q) none := grown_drewN X q
  have hr0 := hok.r0
  have gW : W.grownBy (X.drewN q) (some r) := grown_trS h.gr (grown_wkS gq)
  have dq : DR (X.drewN q) r a' c' { S with read := S.read + m } (H.drop m) := h.dr.grown gq
  have gb : GB W.heap.size (X.drewN q) v (bytesT S m) := by rw [h.ld.bytes hI]; exact h.gb.kept fun g e => gq.block g (h.gb.own e).2.1 (by simp)
  refine ⟨fun e => ⟨by omega, ?_, row, ?_, ⟨a', c', H.drop m, ?_, by simp, h.nw⟩, grown_trS gW (grown_atS _ _ _)⟩, fun e => ?_⟩
  · show (S.ended || (decide (S.read + m = S.final) && !S.reset)) = true
    rw [decide_eq_true e, hrs]; simp
  · refine gb.kept fun g eg => set_heap _ _ _ _ _ (by have := (gb.own eg).1; omega)
  · refine dq.put 5 (.bool true) ?_ (dq.ish.same rfl rfl)
    unfold readS
    rw [decide_eq_true e, hrs]
    simp [drc]
  · have hen : S.ended = false := by
      cases q : S.ended with
      | false => rfl
      | true =>
        have h1 := hok.en q
        have h2 := row_high hok row
        have := hok.fin
        exact absurd (by omega : S.read + m = S.final) e
    have er : (readS S m).ended = false := by
      show (S.ended || (decide (S.read + m = S.final) && !S.reset)) = false
      rw [hen, decide_eq_false e]; rfl
    refine ⟨er, row, gb, ⟨a', c', H.drop m, ?_, by simp, h.nw⟩, gW⟩
    have e2 : readS S m = { S with read := S.read + m } := by
      unfold readS
      rw [decide_eq_false e]
      simp
    rw [e2]
    exact dq

theorem rdo_any (h : DR W r a c S H) (hok : RvOk S) (most : Int) (hm : -9223372036854775808 ≤ most ∧ most ≤ 9223372036854775807) (hH : H.length ≤ 100000000) :
    Calls Tryz.prog 17 #[ptr r, .int .i64 most] W fun e W' => ∃ n v, e = .returned (.tuple #[v, .bool (readS S n).ended]) ∧ DoP W r S a H most n v W' := by
  rcases (show S.reset = true ∨ S.reset = false by cases S.reset <;> simp) with hrs | hrs
  · exact rdo_reset h hok most hrs
  · have hr := h.blk.lt
    have hI := hide h.ish
    obtain ⟨th, -, -, -, -, -, -, c6⟩ := h.cells
    rw [hrs] at c6
    have hr0 := hok.r0; have hrh := hok.rh; have hhl := hok.hl; have hlm := hok.lm
    have STEP := hide (fun (m : Nat) (oa : Option Addr) (oc : Nat) (a' : Option Addr) (c' : Nat) (X : World) (x : Hd) (h : DoI W r S a H most m (.slice oa m oc) a' c' X) (hm : (m : Int) < most) (hx : H[m]? = some x) (he : x.1 = S.read + m) => do_step (unhide hI) h hH hr hm hx he)
    have END := hide (fun (m : Nat) (v : Value) (a' : Option Addr) (c' : Nat) (X : World) (h : DoI W r S a H most m v a' c' X) (he : ¬ (m : Int) < most ∨ m = H.length ∨ ∃ x, H[m]? = some x ∧ x.1 ≠ S.read + m) (q : Nat) => do_end hok hrs (unhide hI) h hr he q)
    have D0 : Hid (DoI W r S a H most 0 (.slice none 0 0) a c W) := ⟨⟨Nat.zero_le _, fun i x hi => by omega, by omega⟩, gb_nil _ _, by simpa using h, World.grownBy.refl _ _, by simpa using nwh_refl W a H⟩
    have OK := hide hok
    clear h hok hrs
    go_enter Tryz.func17, Tryz.ntmps17
    go_wp2_with fail
    go_loopw [6] (fun ov wr => ∃ (m : Nat) (oa : Option Addr) (oc : Nat) (a' : Option Addr) (c' : Nat), m ≤ H.length ∧ ov = .slice oa m oc ∧ Hid (DoI W r S a H most m (.slice oa m oc) a' c' wr)) (fun ov _ => H.length - slLen ov)
    case atStart => exact ⟨0, none, 0, a, c, Nat.zero_le _, rfl, D0⟩
    case round =>
      clear D0
      obtain ⟨m, oa, oc, a', c', hmH, rfl, D⟩ := hrel
      have hd := unhide D
      obtain ⟨th', -, y1, -, y3, y4, y5, -⟩ := hd.dr.cells
      have ld : (H.drop m).length = H.length - m := by simp
      rw [ld] at y4
      obtain ⟨X, hX⟩ : ∃ X, X = wr := ⟨_, rfl⟩
      subst hX
      have mI : ¬ (9223372036854775807 : Int) < (m : Int) := by omega
      obtain ⟨l, hl⟩ : ∃ l, l = H.length - m := ⟨_, rfl⟩
      rw [← hl] at y4
      by_cases hmm : (m : Int) < most
      · have m1 : decide ((m : Int) < most) = true := decide_eq_true hmm
        by_cases hl0 : 0 < l
        · have l1 : (0 : Int) < (l : Int) := by omega
          have l2 : decide ((0 : Int) < (l : Int)) = true := decide_eq_true l1
          have hx : H[m]? = some (H[m]'(by omega)) := List.getElem?_eq_getElem _
          generalize H[m]'(by omega) = x at *
          have hxd : (H.drop m)[0]? = some x := by rw [List.getElem?_drop, Nat.add_zero]; exact hx
          obtain ⟨g, o, ha⟩ : ∃ g o, a' = some ⟨g, o, none⟩ := by
            rcases hd.dr.rd.sh with ⟨-, e, -⟩ | e
            · rw [ld] at e; omega
            · exact e
          subst ha
          obtain ⟨x1, x2⟩ := hd.dr.rd.cells hxd
          rw [Nat.zero_mul, Nat.add_zero] at x1 x2
          have HX := hide hx
          have HL := hide hl
          clear hx hxd hl
          by_cases he : x.1 = S.read + (m : Int)
          · have e1 : (x.1 == S.read + (m : Int)) = true := by simpa using he
            have HE := hide he
            have D1 : Hid (∀ q, DoI W r S a H most m (.slice oa m oc) (some ⟨g, o, none⟩) c' (X.drewN q)) := fun q => ⟨hd.ld, hd.gb.kept fun k e => rfl, hd.dr.grown (grown_drewN X q), grown_trS hd.gr (grown_wkS (grown_drewN X q)), hd.nw⟩
            have wr1 : IntKind.i64.wrap (S.read + (m : Int) + 1) = S.read + (m : Int) + 1 := by rw [IntKind.wrap_i64]; omega
            clear he hd END D hmH
            go_wp2_with fail
            go_quiet (fail)
            obtain ⟨X1, hX1⟩ : ∃ X1, X1 = X.drewN nq := ⟨_, rfl⟩
            have g1 : X.grownBy X1 none := by rw [hX1]; exact grown_drewN X nq
            have hd1 := unhide D1 nq
            rw [← hX1] at hd1 ⊢
            obtain ⟨oa', oc', X2, p1, z1, z2, a2, s2, z3, z4, DN⟩ := unhide STEP m oa oc _ c' _ x hd1 hmm (unhide HX) (unhide HE)
            obtain ⟨-, -, -, -, -, y4', -, -⟩ := hd1.dr.cells
            rw [ld, ← unhide HL] at y4'
            have x2' := cell_grown x2 g1
            rw [← unhide HL] at z1 s2 z3 z4 DN
            have P1 := hide p1
            have S2 := hide s2
            have DD := hide DN
            have HM : Hid (m + 1 ≤ H.length) := by have := (List.getElem?_eq_some_iff.1 (unhide HX)).1; show m + 1 ≤ H.length; omega
            clear D1 STEP hd1 p1 s2 DN hX1 g1 x1 x2 y1 y3 y4 y5 th'
            go_upto_region 6 with (at_builtin; refine wpList_append_run _ rfl (Operand.tmp 37) (Operand.tmp 45) 36 36 rfl (.slice oa m oc) (.slice (some ⟨X1.heap.size, 0, none⟩) 1 1) rfl rfl (unhide P1) ?_)
            clear P1 y4' x2'
            go_wp2_with (first | (refine wpList_sliceL_run _ rfl 54 (Operand.tmp 51) (Operand.const (Value.int IntKind.i64 1)) rfl (.slice (some ⟨g, o, none⟩) l c') (.int .i64 1) rfl rfl (unhide S2) ?_))
            exact ⟨⟨m + 1, oa', oc', a2, c' - 1, unhide HM, rfl, DD⟩, by have := unhide HM; simp [slLen]; omega⟩
          · have e1 : (x.1 == S.read + (m : Int)) = false := by simpa using he
            have D1 : Hid (∀ q, DoI W r S a H most m (.slice oa m oc) _ c' (X.drewN q)) := fun q => ⟨hd.ld, hd.gb.kept fun k e => rfl, hd.dr.grown (grown_drewN X q), grown_trS hd.gr (grown_wkS (grown_drewN X q)), hd.nw⟩
            have EE := hide (fun q q2 => unhide END m _ _ c' (X.drewN q) (unhide D1 q) (.inr (.inr ⟨x, unhide HX, he⟩)) q2)
            have E1 := hide (fun q => unhide END m _ _ c' X (unhide D) (.inr (.inr ⟨x, unhide HX, he⟩)) q)
            clear D D1 STEP END hd hmH
            go_wp2_with fail
            go_quiet (fail)
            by_cases f1 : 0 ≤ S.final
            · have f1' : decide (0 ≤ S.final) = true := decide_eq_true f1
              by_cases f2 : S.read + (m : Int) = S.final
              · have f2' : (S.read + (m : Int) == S.final) = true := by simpa using f2
                have FE := hide (fun q => ((unhide E1 q).1 f2).2)
                clear EE E1 f2
                go_wp2_with fail
                go_quiet (fail)
                go_wp2_with fail
                go_ret2
                exact ⟨m, _, by rw [(unhide FE 0).1]; rfl, (unhide FE _).2⟩
              · have f2' : (S.read + (m : Int) == S.final) = false := by simpa using f2
                have FE := hide (fun q q2 => (unhide EE q q2).2 f2)
                clear EE E1 f2
                go_wp2_with fail
                go_quiet (fail)
                go_wp2_with fail
                go_ret2
                exact ⟨m, _, by rw [(unhide FE 0 0).1]; rfl, (unhide FE _ _).2⟩
            · have f1' : decide (0 ≤ S.final) = false := decide_eq_false f1
              have FE := hide (fun q q2 => (unhide EE q q2).2 (by omega))
              clear EE E1
              go_wp2_with fail
              go_quiet (fail)
              go_wp2_with fail
              go_ret2
              exact ⟨m, _, by rw [(unhide FE 0 0).1]; rfl, (unhide FE _ _).2⟩
        · have l1 : ¬ (0 : Int) < (l : Int) := by omega
          have l2 : decide ((0 : Int) < (l : Int)) = false := decide_eq_false l1
          have hmL : m = H.length := by omega
          replace hmL := hide hmL
          clear hl
          have D1 : Hid (∀ q, DoI W r S a H most m (.slice oa m oc) _ c' (X.drewN q)) := fun q => ⟨hd.ld, hd.gb.kept fun k e => rfl, hd.dr.grown (grown_drewN X q), grown_trS hd.gr (grown_wkS (grown_drewN X q)), hd.nw⟩
          have EE := hide (fun q q2 => unhide END m _ _ c' (X.drewN q) (unhide D1 q) (.inr (.inl (unhide hmL))) q2)
          have E1 := hide (fun q => unhide END m _ _ c' X (unhide D) (.inr (.inl (unhide hmL))) q)
          clear D D1 STEP END hd hmH
          go_wp2_with fail
          go_quiet (fail)
          by_cases f1 : 0 ≤ S.final
          · have f1' : decide (0 ≤ S.final) = true := decide_eq_true f1
            by_cases f2 : S.read + (m : Int) = S.final
            · have f2' : (S.read + (m : Int) == S.final) = true := by simpa using f2
              have FE := hide (fun q => ((unhide E1 q).1 f2).2)
              clear EE E1 f2
              go_wp2_with fail
              go_quiet (fail)
              go_wp2_with fail
              go_ret2
              exact ⟨m, _, by rw [(unhide FE 0).1]; rfl, (unhide FE _).2⟩
            · have f2' : (S.read + (m : Int) == S.final) = false := by simpa using f2
              have FE := hide (fun q q2 => (unhide EE q q2).2 f2)
              clear EE E1 f2
              go_wp2_with fail
              go_quiet (fail)
              go_wp2_with fail
              go_ret2
              exact ⟨m, _, by rw [(unhide FE 0 0).1]; rfl, (unhide FE _ _).2⟩
          · have f1' : decide (0 ≤ S.final) = false := decide_eq_false f1
            have FE := hide (fun q q2 => (unhide EE q q2).2 (by omega))
            clear EE E1
            go_wp2_with fail
            go_quiet (fail)
            go_wp2_with fail
            go_ret2
            exact ⟨m, _, by rw [(unhide FE 0 0).1]; rfl, (unhide FE _ _).2⟩
      · have m1 : decide ((m : Int) < most) = false := decide_eq_false hmm
        clear hl
        have D1 : Hid (∀ q, DoI W r S a H most m (.slice oa m oc) _ c' (X.drewN q)) := fun q => ⟨hd.ld, hd.gb.kept fun k e => rfl, hd.dr.grown (grown_drewN X q), grown_trS hd.gr (grown_wkS (grown_drewN X q)), hd.nw⟩
        have EE := hide (fun q q2 => unhide END m _ _ c' (X.drewN q) (unhide D1 q) (.inl (by omega)) q2)
        have E1 := hide (fun q => unhide END m _ _ c' X (unhide D) (.inl (by omega)) q)
        clear D D1 STEP END hd hmH
        go_wp2_with fail
        go_quiet (fail)
        by_cases f1 : 0 ≤ S.final
        · have f1' : decide (0 ≤ S.final) = true := decide_eq_true f1
          by_cases f2 : S.read + (m : Int) = S.final
          · have f2' : (S.read + (m : Int) == S.final) = true := by simpa using f2
            have FE := hide (fun q => ((unhide E1 q).1 f2).2)
            clear EE E1 f2
            go_wp2_with fail
            go_quiet (fail)
            go_wp2_with fail
            go_ret2
            exact ⟨m, _, by rw [(unhide FE 0).1]; rfl, (unhide FE _).2⟩
          · have f2' : (S.read + (m : Int) == S.final) = false := by simpa using f2
            have FE := hide (fun q q2 => (unhide EE q q2).2 f2)
            clear EE E1 f2
            go_wp2_with fail
            go_quiet (fail)
            go_wp2_with fail
            go_ret2
            exact ⟨m, _, by rw [(unhide FE 0 0).1]; rfl, (unhide FE _ _).2⟩
        · have f1' : decide (0 ≤ S.final) = false := decide_eq_false f1
          have FE := hide (fun q q2 => (unhide EE q q2).2 (by omega))
          clear EE E1
          go_wp2_with fail
          go_quiet (fail)
          go_wp2_with fail
          go_ret2
          exact ⟨m, _, by rw [(unhide FE 0 0).1]; rfl, (unhide FE _ _).2⟩
end
end Go.Proofs.YthihabjegpacaaaGreat
