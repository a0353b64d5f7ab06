/- Packets, plain: what Encode writes and what a reader reads. No program in sight. -/
import Derived.Test.YtpcnpdippnljpaaKQ
import Derived.Test.YtpcnpdippnljpaaKQE
namespace Go.Proofs.Ytpcnpdippnljpaa
open Go.RowKit
set_option linter.unusedVariables false
set_option maxRecDepth 100000

structure Pk where
  space : Int
  dst : List Int
  src : List Int
  number : Int
  width : Int
  payload : List Int
deriving DecidableEq

abbrev MAXP : Int := 4611686018427387903

def badK (p : Pk) : Prop := ¬ (p.space = 0 ∨ p.space = 1 ∨ p.space = 2)
def badF (p : Pk) : Prop := 20 < p.dst.length ∨ 20 < p.src.length ∨ (p.space = 2 ∧ 0 < p.src.length) ∨ p.width < 1 ∨ 4 < p.width
def badN (p : Pk) : Prop := p.number < 0 ∨ MAXP < p.number ∨ (p.space ≠ 2 ∧ 16383 < p.width + p.payload.length)
instance (p : Pk) : Decidable (badK p) := by unfold badK; infer_instance
instance (p : Pk) : Decidable (badF p) := by unfold badF; infer_instance
instance (p : Pk) : Decidable (badN p) := by unfold badN; infer_instance

/-- Encode's error. -/
def encE (p : Pk) : Int := if badK p then 53 else if badF p then 54 else if badN p then 54 else 0
/-- The number, cut. -/
def cutP (p : Pk) : List Int := dig (p.number % st p.width) p.width.toNat
/-- The parts. -/
def partsP (p : Pk) : List (List Int) :=
  if p.space = 2 then [[63 + p.width], p.dst, cutP p, p.payload]
  else [[191 + 32 * p.space + p.width], [0, 0, 0, 1], [(p.dst.length : Int)], p.dst, [(p.src.length : Int)], p.src, (if p.space = 0 then [0] else []), layF (p.width + p.payload.length) 2, cutP p, p.payload]
def bytesP (p : Pk) : List Int := (partsP p).flatten
/-- How many bytes stand ahead of the payload. -/
def overP (p : Pk) : Int := 1 + p.dst.length + p.width + (if p.space = 2 then 0 else 8 + p.src.length + (if p.space = 0 then 1 else 0))

/-! The reader: a place, and what is wrong (0: nothing). -/
abbrev St := Nat × Int
def rMust (s : St) (b : Bool) (y : Int) : St := if b = false ∧ s.2 = 0 then (s.1, y) else s
def rRead (s : St) (t : Int × Int × Int) : Int × St := if s.2 = 0 then (if t.2.2 = 0 then (t.1, (t.2.1.toNat, 0)) else (0, (s.1, 50))) else (0, s)
def rPlain (l : List Int) (s : St) (n : Int) : Int × St := rRead s (readF l s.1 n)
def rSized (l : List Int) (s : St) : Int × St := rRead s (getF l s.1)
def rPass (l : List Int) (s : St) (n : Int) : St := if s.2 = 0 then (if n ≤ (l.length : Int) - s.1 then (s.1 + n.toNat, 0) else (s.1, 50)) else s
def rBytes (l : List Int) (s : St) (n : Int) : List Int × St := ((l.drop s.1).take ((rPass l s n).1 - s.1), rPass l s n)
def rId (l : List Int) (s : St) : List Int × St := rBytes l (rMust (rPlain l s 1).2 (decide ((rPlain l s 1).1 ≤ 20)) 54) (rPlain l s 1).1
/-- Of each space the greatest number. -/
abbrev Lg := Int × Int × Int
def Lg.at (g : Lg) (space : Int) : Int := if space = 0 then g.1 else if space = 1 then g.2.1 else g.2.2
def rNum (l : List Int) (g : Lg) (s : St) (space width : Int) : Int × St := (wholeV (g.at space) (rPlain l s width).1 width, (rPlain l s width).2)
def spcF (x : Int) : Int × Bool := if x / 16 % 4 = 0 then (0, true) else if x / 16 % 4 = 2 then (1, true) else (0, false)
def widF (x : Int) : Int := x % 4 + 1
def bitL (x : Int) : Bool := decide (x / 64 % 2 = 1 ∧ x / 4 % 4 = 0)
def bitS (x : Int) : Bool := decide (x / 64 % 2 = 1 ∧ x / 8 % 4 = 0)

/-- The states of a long packet's reading, one behind the other. -/
def sL1 (s : St) (x : Int) : St := rMust s (bitL x) 51
def sL2 (l : List Int) (s : St) (x : Int) : Int × St := rPlain l (sL1 s x) 4
def sL3 (l : List Int) (s : St) (x : Int) : St := rMust (sL2 l s x).2 (decide ((sL2 l s x).1 = 1)) 52
def sL4 (l : List Int) (s : St) (x : Int) : St := rMust (sL3 l s x) (spcF x).2 53
def sL5 (l : List Int) (s : St) (x : Int) : List Int × St := rId l (sL4 l s x)
def sL6 (l : List Int) (s : St) (x : Int) : List Int × St := rId l (sL5 l s x).2
def sT (l : List Int) (s : St) (space : Int) : St := if space = 0 then rPass l (rSized l s).2 (rSized l s).1 else s
def sL7 (l : List Int) (s : St) (x : Int) : St := sT l (sL6 l s x).2 (spcF x).1
def sL8 (l : List Int) (s : St) (x : Int) : Int × St := rSized l (sL7 l s x)
def sL9 (l : List Int) (s : St) (x : Int) : St := rMust (sL8 l s x).2 (decide (widF x ≤ (sL8 l s x).1)) 54
def sLa (l : List Int) (g : Lg) (s : St) (x : Int) : Int × St := rNum l g (sL9 l s x) (spcF x).1 (widF x)
def sLb (l : List Int) (g : Lg) (s : St) (x : Int) : List Int × St := rBytes l (sLa l g s x).2 (IntKind.u64.wrap ((sL8 l s x).1 - widF x))
def longR (l : List Int) (g : Lg) (s : St) (x : Int) : Pk × St := (⟨(spcF x).1, (sL5 l s x).1, (sL6 l s x).1, (sLa l g s x).1, widF x, (sLb l g s x).1⟩, (sLb l g s x).2)

def sS1 (s : St) (x : Int) : St := rMust s (bitS x) 51
def sS2 (l : List Int) (s : St) (x idlen : Int) : List Int × St := rBytes l (sS1 s x) idlen
def sS3 (l : List Int) (g : Lg) (s : St) (x idlen : Int) : Int × St := rNum l g (sS2 l s x idlen).2 2 (widF x)
def sS4 (l : List Int) (g : Lg) (s : St) (x idlen : Int) : List Int × St := rBytes l (sS3 l g s x idlen).2 ((l.length : Int) - (sS3 l g s x idlen).2.1)
def shortR (l : List Int) (g : Lg) (s : St) (x idlen : Int) : Pk × St := (⟨2, (sS2 l s x idlen).1, [], (sS3 l g s x idlen).1, widF x, (sS4 l g s x idlen).1⟩, (sS4 l g s x idlen).2)

def packR (l : List Int) (g : Lg) (at_ : Nat) (idlen : Int) : Pk × St :=
  if 128 ≤ (rPlain l (at_, 0) 1).1 then longR l g (rPlain l (at_, 0) 1).2 (rPlain l (at_, 0) 1).1 else shortR l g (rPlain l (at_, 0) 1).2 (rPlain l (at_, 0) 1).1 idlen

def okN (n : Int) : Prop := -1 ≤ n ∧ n ≤ MAXP
instance (n : Int) : Decidable (okN n) := by unfold okN; infer_instance
def okG (g : Lg) : Prop := okN g.1 ∧ okN g.2.1 ∧ okN g.2.2
instance (g : Lg) : Decidable (okG g) := by unfold okG; infer_instance
def noP : Pk := ⟨0, [], [], 0, 0, []⟩
/-- Decode. -/
def decP (l : List Int) (i idlen : Int) (g : Lg) : Pk × Int × Int :=
  if i < 0 ∨ (l.length : Int) < i ∨ ¬ (okG g ∧ 0 ≤ idlen ∧ idlen ≤ 20) then (noP, 0, 1)
  else if (packR l g i.toNat idlen).2.2 = 0 then ((packR l g i.toNat idlen).1, ((packR l g i.toNat idlen).2.1 : Int), 0) else (noP, 0, (packR l g i.toNat idlen).2.2)

/-! Steps that are wrong stay wrong; steps that go on. -/
theorem rMust_no {s : St} {b : Bool} {y : Int} (h : s.2 ≠ 0) : rMust s b y = s := by unfold rMust; rw [if_neg (fun c => h c.2)]
theorem rMust_yes (s : St) (y : Int) : rMust s true y = s := by unfold rMust; rw [if_neg (by simp)]
theorem rMust_fst (s : St) (b : Bool) (y : Int) : (rMust s b y).1 = s.1 := by unfold rMust; split <;> rfl
theorem rRead_no {s : St} {t : Int × Int × Int} (h : s.2 ≠ 0) : rRead s t = (0, s) := by unfold rRead; rw [if_neg h]
theorem rPass_no {l : List Int} {s : St} {n : Int} (h : s.2 ≠ 0) : rPass l s n = s := by unfold rPass; rw [if_neg h]
theorem rBytes_no {l : List Int} {s : St} {n : Int} (h : s.2 ≠ 0) : rBytes l s n = ([], s) := by unfold rBytes; rw [rPass_no h]; simp
theorem rId_no {l : List Int} {s : St} (h : s.2 ≠ 0) : rId l s = ([], s) := by
  unfold rId rPlain; rw [rRead_no h, rMust_no h, rBytes_no h]

end Go.Proofs.Ytpcnpdippnljpaa
