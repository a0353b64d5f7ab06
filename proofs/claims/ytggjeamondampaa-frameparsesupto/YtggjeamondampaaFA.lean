/- Frames, plain: which parts a type has, what is written, what is read. No program in sight. -/
import Derived.Test.YtggjeamondampaaBase
namespace Go.Proofs.Ytggjeamondampaa
set_option linter.unusedVariables false
set_option maxRecDepth 100000

structure Fr where
  kind : Int
  stream : Int
  offset : Int
  data : List Int
  size : Int
  fin : Bool
  tail : Bool
  limit : Int
  uni : Bool
  code : Int
  own : Bool
  delay : Int
  runs : List (Int × Int)
  marks : Bool
  c0 : Int
  c1 : Int
  c2 : Int

abbrev MAXN : Int := 4611686018427387903

def Fr.zero : Fr := ⟨0, 0, 0, [], 0, false, false, 0, false, 0, false, 0, [], false, 0, 0, 0⟩

/-- A number that is read at the front of bytes. -/
def numF : List Int → Option (Int × List Int)
  | [] => none
  | x :: r => if r.length + 1 < sz x then none else some (joinF (x % 64) (r.take (sz x - 1)), r.drop (sz x - 1))

/-- The bytes of a number, as short as can be. -/
def encN (v : Int) : List Int := layF v (sizeF v)

/-- The parts of a type: the frame as its type alone makes it, and four parts. -/
def shapeF (k : Int) : Option (Fr × (Nat × Nat × Nat × Nat)) :=
  if k = 0 then some ({ Fr.zero with kind := 0 }, 14, 0, 0, 0)
  else if k = 1 ∨ k = 30 then some ({ Fr.zero with kind := k }, 0, 0, 0, 0)
  else if k = 2 then some ({ Fr.zero with kind := 2 }, 8, 7, 9, 0)
  else if k = 3 then some ({ Fr.zero with kind := 2, marks := true }, 8, 7, 9, 10)
  else if k = 4 then some ({ Fr.zero with kind := 4 }, 1, 5, 6, 0)
  else if k = 5 then some ({ Fr.zero with kind := 5 }, 1, 5, 0, 0)
  else if k = 6 then some ({ Fr.zero with kind := 6 }, 2, 11, 0, 0)
  else if 8 ≤ k ∧ k ≤ 15 then
    some ({ Fr.zero with kind := 8, fin := decide (k % 2 = 1), tail := decide (k / 2 % 2 = 0) }, 1, (if k / 4 % 2 = 1 then 2 else 0), (if k / 2 % 2 = 0 then 12 else 11), 0)
  else if k = 16 ∨ k = 20 then some ({ Fr.zero with kind := k }, 3, 0, 0, 0)
  else if k = 17 ∨ k = 21 then some ({ Fr.zero with kind := k }, 1, 3, 0, 0)
  else if k = 19 ∨ k = 23 then some ({ Fr.zero with kind := k - 1, uni := true }, 4, 0, 0, 0)
  else if k = 18 ∨ k = 22 then some ({ Fr.zero with kind := k }, 4, 0, 0, 0)
  else if k = 26 ∨ k = 27 then some ({ Fr.zero with kind := k }, 13, 0, 0, 0)
  else if k = 28 then some ({ Fr.zero with kind := 28 }, 5, 6, 11, 0)
  else if k = 29 then some ({ Fr.zero with kind := 28, own := true }, 5, 11, 0, 0)
  else none

def isKindF (k : Int) : Bool := match shapeF k with | some (f, _) => decide (f.kind = k) | none => false

def one (b : Bool) : Int := if b then 1 else 0

def typeF (f : Fr) : Int :=
  if f.kind = 8 then 8 + (one (decide (f.offset > 0)) * 4 + one (!f.tail) * 2 + one f.fin)
  else if f.kind = 2 then 2 + one f.marks
  else if f.kind = 18 ∨ f.kind = 22 then f.kind + one f.uni
  else if f.kind = 28 then 28 + one f.own
  else f.kind

/-- The number of a part that is one number. -/
def fieldF (f : Fr) (p : Nat) : Int :=
  if p = 1 then f.stream else if p = 2 then f.offset else if p = 3 ∨ p = 4 then f.limit else if p = 5 then f.code else if p = 7 then f.delay else f.size

def setF (f : Fr) (p : Nat) (v : Int) : Fr :=
  if p = 1 then { f with stream := v } else if p = 2 then { f with offset := v } else if p = 3 ∨ p = 4 then { f with limit := v } else if p = 5 then { f with code := v } else if p = 7 then { f with delay := v } else { f with size := v }

def mostF (p : Nat) : Int := if p = 4 then 1152921504606846976 else MAXN

/-- F1, from a run on: the bound that its greatest number must keep. -/
def fallF : Int → List (Int × Int) → Bool
  | _, [] => true
  | b, r :: l => decide (0 ≤ r.1) && decide (r.1 ≤ r.2) && decide (r.2 ≤ b) && fallF (r.1 - 2) l

def areF (l : List (Int × Int)) : Bool := fallF MAXN l && !l.isEmpty

def numb (v m : Int) : Bool := decide (0 ≤ v) && decide (v ≤ m)

def fitsF (f : Fr) (p : Nat) : Bool :=
  if p = 0 ∨ p = 8 then true
  else if p = 14 then numb (f.size - 1) 65534
  else if p = 9 then areF f.runs
  else if p = 10 then numb f.c0 MAXN && numb f.c1 MAXN && numb f.c2 MAXN
  else if p = 11 ∨ p = 12 then decide ((f.data.length : Int) ≤ MAXN - f.offset)
  else if p = 13 then decide (f.data.length = 8)
  else numb (fieldF f p) (mostF p)

def takeF (f : Fr) (p : Nat) : Fr :=
  if p = 0 ∨ p = 8 then f
  else if p = 9 then { f with runs := [] }
  else if p = 10 then { f with c0 := 0, c1 := 0, c2 := 0 }
  else if p = 11 ∨ p = 12 ∨ p = 13 then { f with data := [] }
  else setF f p 0

def bareF (r bare : Fr) : Bool :=
  r.data.isEmpty && r.runs.isEmpty && decide (r.c0 = bare.c0 ∧ r.c1 = bare.c1 ∧ r.c2 = bare.c2) && decide (r.stream = 0) && decide (r.offset = 0) && decide (r.size = 0) && decide (r.limit = 0) && decide (r.code = 0) && decide (r.delay = 0) &&
    decide (r.fin = bare.fin) && decide (r.tail = bare.tail) && decide (r.uni = bare.uni) && decide (r.own = bare.own) && decide (r.marks = bare.marks)

def P4 := Nat × Nat × Nat × Nat
def mayF (f bare : Fr) (l : Nat × Nat × Nat × Nat) : Bool :=
  fitsF f l.1 && fitsF f l.2.1 && fitsF f l.2.2.1 && fitsF f l.2.2.2 && bareF (takeF (takeF (takeF (takeF f l.1) l.2.1) l.2.2.1) l.2.2.2) bare

/-- The lengths and gaps of further runs. -/
def gapsF : Int → List (Int × Int) → List Int
  | _, [] => []
  | lo, r :: l => (lo - r.2 - 2) :: (r.2 - r.1) :: gapsF r.1 l

def runsN : List (Int × Int) → List Int
  | [] => []
  | r :: l => (l.length : Int) :: (r.2 - r.1) :: gapsF r.1 l

/-- The numbers of a part. -/
def numsP (f : Fr) (p : Nat) : List Int :=
  if p = 0 ∨ p = 12 ∨ p = 13 ∨ p = 14 then []
  else if p = 8 then [(f.runs.headD (0, 0)).2]
  else if p = 9 then runsN f.runs
  else if p = 10 then [f.c0, f.c1, f.c2]
  else if p = 11 then [(f.data.length : Int)]
  else [fieldF f p]

/-- What stands behind all numbers. -/
def restF (f : Fr) (p : Nat) (rest : List Int) : List Int := if p = 14 then List.replicate (f.size - 1).toNat 0 else rest

/-- What a frame is written as: its numbers and the bytes behind them, or an error. -/
def tellF (f : Fr) : (List Int × List Int) ⊕ Int :=
  if isKindF f.kind then
    match shapeF (typeF f) with
    | none => .inr 42
    | some (bare, l) =>
      if mayF f bare l then .inl (typeF f :: (numsP f l.1 ++ numsP f l.2.1 ++ numsP f l.2.2.1 ++ numsP f l.2.2.2), restF f l.1 f.data)
      else .inr 42
  else .inr 41

def encL (l : List Int) : List Int := l.flatMap encN

def encF (f : Fr) : List Int × Int :=
  match tellF f with
  | .inl (n, r) => (encL n ++ r, 0)
  | .inr e => ([], e)

/- reading -/
def runF (hi : Int) (l : List Int) : ((Int × Int) × List Int) ⊕ Int :=
  if hi < 0 then .inr 42
  else match numF l with
    | none => .inr 40
    | some (less, l1) => if less > hi then .inr 42 else .inl ((hi - less, hi), l1)

def moreF : Nat → Int → List Int → (List (Int × Int) × List Int) ⊕ Int
  | 0, _, l => .inl ([], l)
  | n + 1, lo, l =>
    match numF l with
    | none => .inr 40
    | some (gap, l1) =>
      match runF (lo - gap - 2) l1 with
      | .inr e => .inr e
      | .inl (r, l2) =>
        match moreF n r.1 l2 with
        | .inr e => .inr e
        | .inl (rs, l3) => .inl (r :: rs, l3)

def runsF (hi : Int) (l : List Int) : (List (Int × Int) × List Int) ⊕ Int :=
  match numF l with
  | none => .inr 40
  | some (n, l1) =>
    match runF hi l1 with
    | .inr e => .inr e
    | .inl (r, l2) =>
      match moreF n.toNat r.1 l2 with
      | .inr e => .inr e
      | .inl (rs, l3) => .inl (r :: rs, l3)

/-- How many bytes 00 stand at the front, at most m. -/
def zrs : Nat → List Int → Nat
  | 0, _ => 0
  | _ + 1, [] => 0
  | m + 1, x :: l => if x = 0 then zrs m l + 1 else 0

def bytesF (off n : Int) (l : List Int) : (List Int × List Int) ⊕ Int :=
  if n > MAXN - off then .inr 42 else if n > (l.length : Int) then .inr 40 else .inl (l.take n.toNat, l.drop n.toNat)

def readP (p : Nat) (f : Fr) (l : List Int) : (Fr × List Int) ⊕ Int :=
  if p = 0 then .inl (f, l)
  else if p = 14 then .inl ({ f with size := (zrs 65534 l : Int) + 1 }, l.drop (zrs 65534 l))
  else if p = 8 then match numF l with | none => .inr 40 | some (v, l1) => .inl ({ f with runs := [(0, v)] }, l1)
  else if p = 9 then match runsF (f.runs.headD (0, 0)).2 l with | .inr e => .inr e | .inl (rs, l1) => .inl ({ f with runs := rs }, l1)
  else if p = 10 then
    match numF l with
    | none => .inr 40
    | some (a, l1) => match numF l1 with
      | none => .inr 40
      | some (b, l2) => match numF l2 with
        | none => .inr 40
        | some (c, l3) => .inl ({ f with c0 := a, c1 := b, c2 := c }, l3)
  else if p = 11 then
    match numF l with
    | none => .inr 40
    | some (n, l1) => match bytesF f.offset n l1 with | .inr e => .inr e | .inl (d, l2) => .inl ({ f with data := d }, l2)
  else if p = 12 then match bytesF f.offset l.length l with | .inr e => .inr e | .inl (d, l2) => .inl ({ f with data := d }, l2)
  else if p = 13 then match bytesF 0 8 l with | .inr e => .inr e | .inl (d, l2) => .inl ({ f with data := d }, l2)
  else match numF l with
    | none => .inr 40
    | some (v, l1) => if v > mostF p then .inr 42 else .inl (setF f p v, l1)

def bind' (x : (Fr × List Int) ⊕ Int) (k : Fr → List Int → (Fr × List Int) ⊕ Int) : (Fr × List Int) ⊕ Int :=
  match x with | .inr e => .inr e | .inl (f, l) => k f l

def readPs (p : Nat × Nat × Nat × Nat) (f : Fr) (l : List Int) : (Fr × List Int) ⊕ Int :=
  bind' (readP p.1 f l) fun f l => bind' (readP p.2.1 f l) fun f l => bind' (readP p.2.2.1 f l) fun f l => readP p.2.2.2 f l

def decF (l : List Int) : (Fr × List Int) ⊕ Int :=
  match numF l with
  | none => .inr 40
  | some (k, l1) =>
    match shapeF k with
    | none => .inr 41
    | some (f, ps) => if (l.length : Int) - l1.length ≠ sizeF k then .inr 41 else readPs ps f l1

end Go.Proofs.Ytggjeamondampaa
