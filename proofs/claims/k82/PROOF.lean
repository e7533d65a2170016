import PyProof.Rows.All
import Wide.All
import OpenK.AllK
import Wide.FinOn
import PySem.Syntax
import HandS.StrMore
import HandS.ForMost
import HandS.ForExc
import HandS.More
import HandS.TupAny
import HandS.LawCells
import HandS.IsInst
import HandS.Style
import HandS.TupMul
import KE.OsArith
import HandS.OwnEq
import HandS.DictEq
import HandS.ExcInit
import HandS.ExcField
import HandS.TryMany
import HandS.List
import HandS.Text
import HandS.RaiseMore
import PyProof.StrLaws
import PyProof.StrLawsRepr
import PyProof.FactsStr
import PyProof.CollectStr
import HandS.CallRecv
import HandS.Zip
import HandS.Small
import HandS.DictComp
import HandS.ExcIs
import KE.KExcIs
import KE.RegKIsAll
import HandS.Ends
import HandS.Words
import HandS.WordsExc
import PySem.Challenge.RW_copybooks_k82_read_run
set_option linter.all false
set_option maxRecDepth 100000
namespace VM
open PySem

/-! ### values -/
inductive D where
  | non | bl (b : Bool) | int (i : Int) | str (s : Str)
  | tup (xs : List D) | lst (xs : List D) | dct (id : Nat) (ks vs : List D)
  | ins (c id : Nat) (fs : List Nat) (vs : List D)
  | glo (n : Nat) | fn (f : Nat)
  | kst (xs : List D) | kdc (ks vs : List D)
instance : Inhabited D := ⟨.non⟩

inductive Cell where
  | lst (xs : List D) | dct (ks vs : List D) | ins (c : Nat) (fs : List Nat) (vs : List D)

structure Gs where
  next : Nat
  cell : Nat → Option Cell
def Gs.set (g : Gs) (n : Nat) (c : Cell) : Gs := ⟨g.next, fun m => if m = n then some c else g.cell m⟩
def Gs.drop (g : Gs) (n : Nat) : Gs := ⟨g.next, fun m => if m = n then none else g.cell m⟩
/-- a number that no other thing has -/
def Gs.bump (g : Gs) : Gs := ⟨g.next + 1, g.cell⟩
def Gs.new (g : Gs) (c : Cell) : Gs := ⟨g.next + 1, fun m => if m = g.next then some c else g.cell m⟩

/-- what a slot holds: a value, or a list, a dict, an instance of its own that may change -/
inductive SV where
  | val (d : D) | ml (xs : List D) | md (ks vs : List D) | mi (c : Nat) (fs : List Nat) (vs : List D) | xc (c : Nat) (vs : List D)
abbrev Sg := List (Option SV)

inductive Out (α : Type) where
  | ok (a : α) (g : Gs)
  | ex (c : Nat) (vs : List D) (g : Gs)
  | no
def Out.bind {α β : Type} (o : Out α) (f : α → Gs → Out β) : Out β := match o with
  | .ok a g => f a g
  | .ex c vs g => .ex c vs g
  | .no => .no
def Out.opt {α : Type} (o : Option α) (g : Gs) : Out α := match o with
  | some a => .ok a g
  | none => .no

/-! ### the syntax -/
inductive Bop where
  | add | sub | mul | fdiv | mod | pow | band
  deriving DecidableEq
inductive Cop where
  | eq | ne | lt | le | gt | ge | inn | nin | is_ | isn
  deriving DecidableEq

inductive Ty where
  | int | bool | str | list | tuple | dict | cls (c : Nat)
  deriving DecidableEq
/-- built-in functions, methods of built-in types that leave the value as it is, that change it -/
inductive Bi where
  | int | tuple | all | any | sum | min | max | abs | str | ord | repr
  deriving DecidableEq
inductive Bm where
  | get | join | index | startswith | upper | find | rfind | partition | count
  deriving DecidableEq
inductive Mm where
  | append | extend | insert | clear | reverse | setdefault
  deriving DecidableEq

mutual
inductive E where
  | cst (d : D)
  | v (i : Nat)
  | gc (x : Nat)
  | bin (o : Bop) (a b : P)
  | neg (a : E)
  | not_ (a : T)
  | and_ (a : E) (b : E)
  | or_ (a : E) (b : E)
  | cmp (o : Cop) (a b : P)
  | chn (o o' : Cop) (a b c : E)
  | ife (c : T) (a b : E)
  | tup (es : Es)
  | fz (f : F)
  | ng (f : F)
  | idx (a : P) (i : E)
  | sl (a : P) (lo hi : Oe)
  | att (a : E) (f : Nat)
  | atm (i : Nat) (f : Nat)
  | call (f : Nat) (es : Es)
  | calv (i : Nat) (es : Es)
  | new (c : Nat) (es : Es)
  | meth (a : E) (m : Nat) (es : Es)
  | len (a : P)
  | isi (a : P) (ts : List Ty)
  | bi (n : Bi) (ps : Ps)
  | bm (a : P) (m : Bm) (ps : Ps)
inductive P where
  | e (e : E)
  | m (i : Nat)
inductive T where
  | e (e : E) | m (i : Nat) | not_ (a : T) | and_ (a b : T) | or_ (a b : T)
inductive Ot where
  | none | some (t : T)
inductive F where
  | lst (es : Es)
  | comp (elt : E) (tg : Tg) (it : Iv) (own : List Nat) (c : Ot)
  | list (a : P)
  | sl (a : P) (lo hi : Oe)
  | rev (a : P)
  | cat (a b : P)
  | rep (a : P) (b : E)
  | srt (a : P)
  | call (f : Nat) (es : Es)
  | meth (a : E) (m : Nat) (es : Es)
  | split (a b : E)
  | dlit (ps : Prs)
  | dcomp (k v : E) (tg : Tg) (it : Iv) (own : List Nat) (c : Ot)
  | dict (a : P)
inductive Es where
  | nil | cons (e : E) (es : Es)
inductive Ps where
  | nil | cons (e : P) (es : Ps)
inductive Prs where
  | nil | cons (k v : E) (ps : Prs)
inductive Oe where
  | none | some (e : E)
inductive Iv where
  | e (a : P) | rng (a : E) | rng2 (a b : E) | enum (a : P) | zip (a b : P) | zip3 (a b c : P) | items (a : P)
inductive Tg where
  | n (i : Nat) | t (ts : Tgs)
inductive Tgs where
  | nil | cons (t : Tg) (ts : Tgs)
end

mutual
inductive S where
  | set (t : Tg) (e : E)
  | setm (i : Nat) (f : F)
  | seta (o : E) (a : Nat) (e : E)
  | setam (i : Nat) (a : Nat) (e : E)
  | seti (p : P) (i : E) (e : E)
  | mut (p : P) (m : Mm) (es : Es)
  | pop (t : Option Tg) (p : P) (i : Oe)
  | aug (i : Nat) (o : Bop) (e : E)
  | auga (o : E) (a : Nat) (op : Bop) (e : E)
  | dels (p : P) (i : Oe) (lo : Oe)
  | exp (e : E)
  | ret (e : E)
  | retf (f : F)
  | retm (i : Nat)
  | retn
  | if_ (c : T) (a b : Ss)
  | whl (c : T) (b : Ss)
  | for_ (t : Tg) (it : Iv) (b : Ss)
  | brk | cnt | pass
  | raise (c : Nat) (es : Es)
  | try_ (b : Ss) (hs : Hs)
  | frz (i : Nat)
  | fzg (i : Nat)
inductive Ss where
  | nil | cons (s : S) (ss : Ss)
inductive Hs where
  | nil | cons (c : Nat) (i : Option Nat) (b : Ss) (hs : Hs) | get (c i j : Nat) (tup : Bool) (fs : List Nat) (hs : Hs) | told (c i c1 c3 f : Nat) (hs : Hs)
end

mutual
def Tg.own : Tg → List Nat
  | .n i => [i]
  | .t ts => ts.own
def Tgs.own : Tgs → List Nat
  | .nil => []
  | .cons t ts => t.own ++ ts.own
end
def P.own : P → List Nat
  | .m i => [i]
  | .e _ => []
mutual
def S.own : S → List Nat
  | .set t _ => t.own
  | .setm i _ => [i]
  | .pop (some t) _ _ => t.own
  | .aug i _ _ => [i]
  | .if_ _ a b => a.own ++ b.own
  | .whl _ b => b.own
  | .for_ t _ b => t.own ++ b.own
  | .try_ b hs => b.own ++ hs.own
  | _ => []
def Ss.own : Ss → List Nat
  | .nil => []
  | .cons s ss => s.own ++ ss.own
def Hs.own : Hs → List Nat
  | .nil => []
  | .cons _ none b hs => b.own ++ hs.own
  | .cons _ (some i) b hs => i :: (b.own ++ hs.own)
  | .get _ i j _ _ hs => i :: j :: hs.own
  | .told _ i _ _ _ hs => i :: hs.own
end

structure Fn where
  np : Nat
  ns : Nat
  body : Ss
inductive CK where
  | froz | mut | exc
  deriving DecidableEq
structure Cls where
  kind : CK
  fields : List Nat
  bases : List Nat
  init : Option Nat
  meths : List (Nat × Nat)
structure Prog where
  fn : Nat → Option Fn
  con : Nat → Option D
  cls : Nat → Option Cls
def Prog.meth (Gam : Prog) (c m : Nat) : Option Nat := match Gam.cls c with
  | some k => k.meths.lookup m
  | none => none

/-! ### operations on values -/
def sizeM : Nat := 100000
def isZ (b : Bool) : Int := if b then 1 else 0
def toI : D → Option Int
  | .int i => some i
  | .bl b => some (isZ b)
  | _ => none
/-- the items of a sequence -/
def seqL (g : Gs) : D → Option (List D)
  | .lst xs => some xs
  | .glo n => match g.cell n with
    | some (.lst xs) => some xs
    | _ => none
  | _ => none
def seqT : D → Option (List D)
  | .tup xs => some xs
  | _ => none
def seqA (g : Gs) (d : D) : Option (List D) := match d with
  | .tup xs => some xs
  | .kst xs => some xs
  | d => seqL g d
def dctA (g : Gs) : D → Option (List D × List D)
  | .dct _ ks vs => some (ks, vs)
  | .glo n => match g.cell n with
    | some (.dct ks vs) => some (ks, vs)
    | _ => none
  | _ => none
def truthD (g : Gs) : D → Option Bool
  | .non => some false
  | .bl b => some b
  | .int i => some (decide (i ≠ 0))
  | .str s => if s.cps.size ≤ sizeM then some (decide (s.cps.size ≠ 0)) else none
  | .tup xs => some (!xs.isEmpty)
  | .lst xs => some (!xs.isEmpty)
  | .kst xs => some (!xs.isEmpty)
  | .kdc _ _ => none
  | .dct _ ks _ => some (!ks.isEmpty)
  | .ins .. => none
  | .fn _ => none
  | .glo n => match g.cell n with
    | some (.lst xs) => some (!xs.isEmpty)
    | some (.dct ks _) => some (!ks.isEmpty)
    | _ => none

/-! == by depth -/
def eqItems (f : D → D → Option Bool) : List D → List D → Option Bool
  | [], [] => some true
  | [], _ :: _ => some false
  | _ :: _, [] => some false
  | x :: xs, y :: ys => match f x y with
    | none => none
    | some a => match eqItems f xs ys with
      | none => none
      | some b => some (a && b)
def eqLeaf (x y : D) : Option Bool := match x with
  | .non => (match y with
    | .non => some true
    | .bl _ => some false
    | .int _ => some false
    | .str _ => some false
    | .tup _ => some false
    | .lst _ => some false
    | _ => none)
  | .bl a => (match y with
    | .non => some false
    | .bl b => some (a == b)
    | .int i => some (isZ a == i)
    | .str _ => some false
    | .tup _ => some false
    | .lst _ => some false
    | _ => none)
  | .int a => (match y with
    | .non => some false
    | .bl b => some (a == isZ b)
    | .int i => some (a == i)
    | .str _ => some false
    | .tup _ => some false
    | .lst _ => some false
    | _ => none)
  | .str a => (match y with
    | .non => some false
    | .bl _ => some false
    | .int _ => some false
    | .str b => some (a == b)
    | .tup _ => some false
    | .lst _ => some false
    | _ => none)
  | _ => none
/-- surely one and the same thing -/
def sameI (x y : D) : Bool := match x with
  | .ins _ i _ _ => (match y with
    | .ins _ j _ _ => i == j && i != 0
    | _ => false)
  | .dct i _ _ => (match y with
    | .dct j _ _ => i == j && i != 0
    | _ => false)
  | _ => false
/-- == of items -/
def eqI (f : D → D → Option Bool) (x y : D) : Option Bool := if sameI x y then some true else f x y
def eqSeq (f : D → D → Option Bool) (x y : D) : Option Bool := match x with
  | .tup a => (match y with
    | .non => some false
    | .bl _ => some false
    | .int _ => some false
    | .str _ => some false
    | .tup b => eqItems (eqI f) a b
    | .lst _ => some false
    | _ => none)
  | .lst a => (match y with
    | .non => some false
    | .bl _ => some false
    | .int _ => some false
    | .str _ => some false
    | .tup _ => some false
    | .lst b => if a.length = b.length then eqItems (eqI f) a b else some false
    | _ => none)
  | x => eqLeaf x y
def eqD : Nat → D → D → Option Bool
  | 0, x, y => eqLeaf x y
  | n + 1, x, y => eqSeq (eqD n) x y
def EQ : Nat := 60
def inL (x : D) : List D → Option Bool
  | [] => some false
  | y :: ys => match eqI (eqD EQ) y x with
    | none => none
    | some a => match inL x ys with
      | none => none
      | some b => some (a || b)
/-- dicts: keys are intsL and strs -/
def isKey : D → Bool
  | .int _ => true
  | .str _ => true
  | _ => false
def keyB : D → D → Bool
  | .int a, .int b => a == b
  | .str a, .str b => decide (a = b)
  | _, _ => false
def keyFind (k : D) : List D → List D → Option D
  | y :: ys, v :: vs => if keyB y k then some v else keyFind k ys vs
  | _, _ => none
def keyAt (k : D) (ks vs : List D) : Option (Option D) := if isKey k then some (keyFind k ks vs) else none
/-- == of dicts: the first one's pairs -/
def hitsD (ks' vs' : List D) : List D → List D → Option Bool
  | [], [] => some true
  | k :: ks, v :: vs => match keyAt k ks' vs' with
    | none => none
    | some none => some false
    | some (some w) => match eqI (eqD EQ) v w with
      | none => none
      | some a => match hitsD ks' vs' ks vs with
        | none => none
        | some b => some (a && b)
  | _, _ => none
/-- == of two values -/
def eqT (x y : D) : Option Bool := match x with
  | .dct _ ks vs => (match y with
    | .dct _ ks' vs' => if ks.length = ks'.length then hitsD ks' vs' ks vs else some false
    | _ => none)
  | x => eqD EQ x y
def isStr : D → Bool
  | .str _ => true
  | _ => false
/-- in a row of texts -/
def inStr (x : D) (ys : List D) : Option Bool := match x with
  | .dct _ _ _ => if ys.all isStr then some false else none
  | .ins _ _ _ _ => if ys.all isStr then some false else none
  | _ => none
def inQ (x : D) (ys : List D) : Option Bool := match inL x ys with
  | none => inStr x ys
  | some b => some b
def setAll (k v : D) : List D → List D → List D
  | y :: ys, w :: r => (if keyB y k then v else w) :: setAll k v ys r
  | _, _ => []
def ixN (n : Nat) (i : Int) : Option Nat := if 0 ≤ i then (if i < n then some i.toNat else none) else if -(n : Int) ≤ i then some (i + n).toNat else none
def atI {α : Type} (xs : List α) (i : Int) : Option α := (ixN xs.length i).bind fun j => xs[j]?
def sIx (n d : Nat) : Option Int → Nat
  | none => d
  | some v => if v < 0 then (v + (n : Int)).toNat else min v.toNat n
def cutL {α : Type} (xs : List α) (lo hi : Option Int) : List α := (xs.drop (sIx xs.length 0 lo)).take (sIx xs.length xs.length hi - sIx xs.length 0 lo)
def strOf (l : List Nat) : Str := ⟨l.toArray⟩
def ch (c : Nat) : D := .str ⟨#[c]⟩
def mulOk (i j : Int) : Bool := (decide (-18446744073709551616 < i ∧ i < 18446744073709551616) || decide (-18446744073709551616 < j ∧ j < 18446744073709551616))
/-- digits of a number below 100 -/
def digs (n : Nat) : List Nat := if n < 10 then [48 + n] else [48 + n / 10, 48 + n % 10]
/-- split at one sign -/
def splitL (c : Nat) : List Nat → List (List Nat)
  | [] => [[]]
  | x :: xs => if x = c then [] :: splitL c xs else match splitL c xs with
    | [] => [[x]]
    | p :: r => (x :: p) :: r
def up1 (c : Nat) : Nat := if 97 ≤ c ∧ c ≤ 122 then c - 32 else c
def binD (g : Gs) : Bop → D → D → Option D
  | .add, .int a, .int b => some (.int (a + b))
  | .add, .str a, .str b => if a.cps.size + b.cps.size ≤ sizeM then some (.str ⟨a.cps ++ b.cps⟩) else none
  | .add, .tup a, .tup b => if a.length + b.length ≤ sizeM then some (.tup (a ++ b)) else none
  | .add, a, b => match seqL g a, seqL g b with
    | some x, some y => if x.length + y.length ≤ sizeM then some (.lst (x ++ y)) else none
    | _, _ => none
  | .sub, .int a, .int b => some (.int (a - b))
  | .mul, .int a, .int b => if mulOk a b then some (.int (a * b)) else none
  | .mul, .tup a, .int n => if 1 ≤ a.length ∧ a.length ≤ 1000 ∧ 2 ≤ n ∧ n ≤ 1000 then some (.tup ((List.replicate n.toNat a).flatten)) else none
  | .mul, .str a, .int n => if 0 ≤ n ∧ n < 1000000 ∧ a.cps.size * n.toNat ≤ sizeM then some (.str (strOf (List.replicate n.toNat a.cps.toList).flatten)) else none
  | .mul, a, .int n => match seqL g a with
    | some x => if x.length * n.toNat ≤ sizeM ∧ n < 1000000 ∧ -1000000 < n then some (.lst ((List.replicate n.toNat x).flatten)) else none
    | none => none
  | .fdiv, .int a, .int b => if 0 < b ∧ b < 1073741824 then some (.int (a / b)) else none
  | .mod, .int a, .int b => if 0 < b then some (.int (a % b)) else none
  | .pow, .int a, .int b => if 0 ≤ b ∧ b ≤ 1000 ∧ a.natAbs < 1000 then some (.int (a ^ b.toNat)) else none
  | .band, .int a, .int b => if 0 ≤ a ∧ 0 ≤ b then some (.int ((a.toNat &&& b.toNat : Nat) : Int)) else none
  | _, _, _ => none
def ltD : D → D → Option Bool
  | .int a, .int b => some (decide (a < b))
  | _, _ => none
/-- one sign in a text -/
def subStr (a b : List Nat) : Option Bool := match a with
  | [c] => some (decide (c ∈ b))
  | _ => none
def inD (g : Gs) (x y : D) : Option Bool := match y with
  | .str b => match x with
    | .str a => subStr a.cps.toList b.cps.toList
    | _ => none
  | .dct _ ks vs => (keyAt x ks vs).map (·.isSome)
  | .tup ys => inQ x ys
  | .lst ys => inQ x ys
  | .kst ys => inQ x ys
  | .glo n => match g.cell n with
    | some (.lst ys) => inQ x ys
    | some (.dct ks vs) => (keyAt x ks vs).map (·.isSome)
    | _ => none
  | _ => none
def sameD (x y : D) : Option Bool := match y with
  | .non => some (match x with
    | .non => true
    | _ => false)
  | .bl b => match x with
    | .bl a => some (a == b)
    | .str _ => some false
    | _ => none
  | _ => none
def cmpD (g : Gs) : Cop → D → D → Option D
  | .eq, a, b => (eqT a b).map .bl
  | .ne, a, b => (eqT a b).map fun r => .bl (!r)
  | .lt, a, b => (ltD a b).map .bl
  | .gt, a, b => (ltD b a).map .bl
  | .le, a, b => (ltD b a).map fun r => .bl (!r)
  | .ge, a, b => (ltD a b).map fun r => .bl (!r)
  | .inn, a, b => (inD g a b).map .bl
  | .nin, a, b => (inD g a b).map fun r => .bl (!r)
  | .is_, a, b => (sameD a b).map .bl
  | .isn, a, b => (sameD a b).map fun r => .bl (!r)
def idxD (g : Gs) (a i : D) : Option D := match a with
  | .tup xs => match i with
    | .int i => atI xs i
    | _ => none
  | .str s => match i with
    | .int i => if s.cps.size ≤ sizeM then (atI s.cps.toList i).map ch else none
    | _ => none
  | .lst xs => match i with
    | .int i => atI xs i
    | _ => none
  | .kst xs => match i with
    | .int i => atI xs i
    | _ => none
  | .kdc ks vs => match i with
    | .str z => keyFind (.str z) ks vs
    | _ => none
  | .dct _ ks vs => (keyAt i ks vs).bind id
  | .glo n => match g.cell n with
    | some (.lst xs) => match i with
      | .int i => atI xs i
      | _ => none
    | some (.dct ks vs) => (keyAt i ks vs).bind id
    | _ => none
  | _ => none
def slD (g : Gs) (a : D) (l h : Option Int) : Option D := match a with
  | .tup xs => some (.tup (cutL xs l h))
  | .kst xs => some (.lst (cutL xs l h))
  | .str s => if s.cps.size ≤ sizeM then some (.str (strOf (cutL s.cps.toList l h))) else none
  | a => match seqL g a with
    | some xs => some (.lst (cutL xs l h))
    | none => none
def lenD (g : Gs) : D → Option Nat
  | .tup xs => some xs.length
  | .lst xs => some xs.length
  | .kst xs => some xs.length
  | .str s => if s.cps.size ≤ sizeM then some s.cps.size else none
  | .dct _ ks _ => some ks.length
  | .glo n => match g.cell n with
    | some (.lst xs) => some xs.length
    | some (.dct ks _) => some ks.length
    | _ => none
  | _ => none
def lookF (f : Nat) : List Nat → List D → Option D
  | [], _ => none
  | x :: xs, vs => match vs with
    | [] => none
    | v :: r => if x = f then some v else lookF f xs r
def putF (f : Nat) (d : D) : List Nat → List D → List Nat × List D
  | [], _ => ([f], [d])
  | x :: xs, vs => match vs with
    | [] => (x :: xs, [])
    | v :: r => if x = f then (x :: xs, d :: r) else let q := putF f d xs r; (x :: q.1, v :: q.2)
def attD (g : Gs) (a : D) (f : Nat) : Option D := match a with
  | .ins _ _ fs vs => lookF f fs vs
  | .glo n => match g.cell n with
    | some (.ins _ fs vs) => lookF f fs vs
    | _ => none
  | _ => none
def clsD (g : Gs) : D → Option Nat
  | .ins c _ _ _ => some c
  | .glo n => match g.cell n with
    | some (.ins c _ _) => some c
    | _ => none
  | _ => none
def isC (Gam : Prog) (c t : Nat) : Bool := c == t || match Gam.cls c with
  | some k => k.bases.contains t
  | none => false
def isT (Gam : Prog) (g : Gs) (d : D) (t : Ty) : Option Bool := match d with
  | .non => some false
  | .bl _ => some (decide (t = .bool) || decide (t = .int))
  | .int _ => some (decide (t = .int))
  | .str _ => some (decide (t = .str))
  | .tup _ => some (decide (t = .tuple))
  | .lst _ => some (decide (t = .list))
  | .kst _ => some (decide (t = .list))
  | .kdc _ _ => none
  | .dct _ _ _ => some (decide (t = .dict))
  | .ins c _ _ _ => some (match t with
    | .cls t => isC Gam c t
    | _ => false)
  | .fn _ => none
  | .glo n => match g.cell n with
    | some (.lst _) => some (decide (t = .list))
    | some (.dct _ _) => some (decide (t = .dict))
    | some (.ins c _ _) => some (match t with
      | .cls t => isC Gam c t
      | _ => false)
    | none => none
def isTs (Gam : Prog) (g : Gs) (d : D) : List Ty → Option Bool
  | [] => some false
  | t :: ts => match isT Gam g d t with
    | none => none
    | some true => some true
    | some false => isTs Gam g d ts
def boolsL : List D → Option (List Bool)
  | [] => some []
  | .bl b :: r => (boolsL r).map (b :: ·)
  | _ => none
def intsL : List D → Option (List Int)
  | [] => some []
  | .int i :: r => (intsL r).map (i :: ·)
  | _ => none
def joinS (sep : List Nat) : List D → Option (List Nat)
  | [] => some []
  | [.str s] => some s.cps.toList
  | .str s :: r => (joinS sep r).map fun t => s.cps.toList ++ sep ++ t
  | _ => none
def biD (Gam : Prog) (g : Gs) (n : Bi) (ds : List D) : Option D := match n, ds with
  | .int, [.int i] => some (.int i)
  | .int, [.bl b] => some (.int (isZ b))
  | .tuple, [a] => (seqA g a).map .tup
  | .all, [a] => ((seqL g a).bind boolsL).map fun l => .bl (l.all id)
  | .any, [a] => ((seqL g a).bind boolsL).map fun l => .bl (l.any id)
  | .sum, [a] => ((seqL g a).bind intsL).map fun l => .int l.sum
  | .min, [.int a, .int b] => some (.int (if b < a then b else a))
  | .max, [.int a, .int b] => some (.int (if b > a then b else a))
  | .str, [.int i] => if 0 ≤ i ∧ i < 100 then some (.str (strOf (digs i.toNat))) else none
  | .str, [.str s] => some (.str s)
  | .ord, [.str s] => match s.cps.toList with
    | [c] => some (.int (c : Nat))
    | _ => none
  | .abs, [.int a] => some (.int (if a < 0 then -a else a))
  | _, _ => none
def findL (x : D) : Nat → List D → Option (Option Nat)
  | _, [] => some none
  | n, y :: ys => match eqD EQ y x with
    | none => none
    | some true => some (some n)
    | some false => findL x (n + 1) ys
def bmD (g : Gs) (a : D) (m : Bm) (ds : List D) : Option D := match m, ds with
  | .get, [k] => (dctA g a).bind fun d => (keyAt k d.1 d.2).map fun o => o.getD .non
  | .get, [k, z] => (dctA g a).bind fun d => (keyAt k d.1 d.2).map fun o => o.getD z
  | .join, [l] => match a with
    | .str s => ((seqL g l).bind (joinS s.cps.toList)).bind fun t => if t.length ≤ sizeM ∧ s.cps.size ≤ sizeM then some (.str (strOf t)) else none
    | _ => none
  | .upper, [] => match a with
    | .str s => if s.cps.size ≤ sizeM ∧ (s.cps.toList.all fun c => decide (c < 128)) = true then some (.str (strOf (s.cps.toList.map up1))) else none
    | _ => none
  | .rfind, [.str t] => match a with
    | .str s => some (.int (Txt.rfind s t))
    | _ => none
  | .index, [x] => ((seqA g a).bind (findL x 0)).bind fun o => o.map fun n : Nat => D.int n
  | _, _ => none

/-- the parts of a text between signs -/
def splD (x y : D) : Option (List D) := match x with
  | .str s => match y with
    | .str t => match t.cps.toList with
      | [c] => if c < 256 ∧ s.cps.size + 2 ≤ sizeM then some ((splitL c s.cps.toList).map fun l => .str (strOf l)) else none
      | _ => none
    | _ => none
  | _ => none
/-! ### what stands in slots -/
def getV (σ : Sg) (i : Nat) : Option D := match σ[i]? with
  | some (some (.val d)) => some d
  | _ => none
def getM (σ : Sg) (i : Nat) : Option D := match σ[i]? with
  | some (some (.ml xs)) => some (.lst xs)
  | some (some (.md ks vs)) => some (.dct 0 ks vs)
  | some (some (.val d)) => some d
  | _ => none
def getA (σ : Sg) (i : Nat) (f : Nat) : Option D := match σ[i]? with
  | some (some (.mi _ fs vs)) => lookF f fs vs
  | _ => none
def wipeS (σ : Sg) : List Nat → Sg
  | [] => σ
  | i :: r => (wipeS σ r).set i none
def fullV (σ : Sg) (i : Nat) (d : D) : Option Sg := match σ[i]? with
  | some none => some (σ.set i (some (.val d)))
  | some (some (.val _)) => some (σ.set i (some (.val d)))
  | some (some (.ml _)) => some (σ.set i (some (.val d)))
  | some (some (.md _ _)) => some (σ.set i (some (.val d)))
  | _ => none
mutual
def bindT (g : Gs) (σ : Sg) (d : D) : Tg → Option Sg
  | .n i => fullV σ i d
  | .t ts => match seqT d with
    | some xs => bindTs g σ xs ts
    | none => none
def bindTs (g : Gs) (σ : Sg) (xs : List D) : Tgs → Option Sg
  | .nil => match xs with
    | [] => some σ
    | _ => none
  | .cons t ts => match xs with
    | x :: r => match bindT g σ x t with
      | some σ' => bindTs g σ' r ts
      | none => none
    | [] => none
end
/-- a fresh list or dict -/
inductive Fr where
  | l (xs : List D) | d (ks vs : List D)
def Fr.d0 : Fr → D
  | .l xs => .lst xs
  | .d ks vs => .dct 0 ks vs
def Fr.dI (n : Nat) : Fr → D
  | .l xs => .lst xs
  | .d ks vs => .dct n ks vs
def Fr.gI (g : Gs) : Fr → Gs
  | .l _ => g
  | .d _ _ => g.bump
def Fr.cell : Fr → Cell
  | .l xs => .lst xs
  | .d ks vs => .dct ks vs
def Fr.sv : Fr → SV
  | .l xs => .ml xs
  | .d ks vs => .md ks vs
/-- what a call hands back -/
inductive RV where
  | v (d : D) | f (r : Fr)
def RV.d0 : RV → D
  | .v d => d
  | .f r => r.d0
abbrev CallT := Nat → List D → Gs → Out RV

/-- a dict with one entry more, or another value -/
def putD (k v : D) (ks vs : List D) : Option (List D × List D) :=
  if isKey k ∧ ks.length < sizeM then some (if ks.any (keyB · k) then (ks, setAll k v ks vs) else (ks ++ [k], vs ++ [v])) else none
/-- a display's keys: all differ -/
def keysOk : List D → Bool
  | [] => true
  | k :: r => isKey k && !(r.any (keyB · k)) && keysOk r
def csts : Es → Option (List D)
  | .nil => some []
  | .cons (.cst d) r => (csts r).map (d :: ·)
  | _ => none
def enumL : Nat → List D → List D
  | _, [] => []
  | k, x :: xs => .tup [.int (k : Nat), x] :: enumL (k + 1) xs
/-- a sequence that does not change -/
def seqF : D → Option (List D)
  | .tup xs => some xs
  | .lst xs => some xs
  | _ => none
def zip2 : List D → List D → List D
  | x :: xs, y :: ys => .tup [x, y] :: zip2 xs ys
  | _, _ => []
def zip3L : List D → List D → List D → List D
  | x :: xs, y :: ys, z :: zs => .tup [x, y, z] :: zip3L xs ys zs
  | _, _, _ => []
def rngL (a b : Int) : List D := (List.range (b - a).toNat).map fun k => .int (a + (k : Nat))

/-- what is walked: items that stay, or a list of the store as it stands at each turn -/
inductive Src where
  | fix (xs : List D) | liv (n : Nat)
def Src.at (s : Src) (i : Nat) (g : Gs) : Option (Option D) := match s with
  | .fix xs => some xs[i]?
  | .liv n => match g.cell n with
    | some (.lst ys) => some ys[i]?
    | _ => none
def Src.fuel : Src → Nat
  | .fix xs => xs.length + 1
  | .liv _ => 1000000
def srcOf (d : D) (g : Gs) : Out Src := match d with
  | .str s => .ok (.fix (s.cps.toList.map ch)) g
  | .tup xs => .ok (.fix xs) g
  | .lst xs => .ok (.fix xs) g
  | .kst xs => .ok (.fix xs) g
  | .glo n => match g.cell n with
    | some (.lst _) => .ok (.liv n) g
    | _ => .no
  | _ => .no
def Out.optL (o : Option (List D)) (g : Gs) : Out Fr := match o with
  | some xs => .ok (.l xs) g
  | none => .no
def catL (g : Gs) (x y : D) : Option (List D) := match seqL g x with
  | some xs => match seqL g y with
    | some ys => if xs.length + ys.length ≤ sizeM then some (xs ++ ys) else none
    | none => none
  | none => none
def repL (g : Gs) (x y : D) : Option (List D) := match y with
  | .int n => match seqL g x with
    | some xs => if xs.length * n.toNat ≤ sizeM ∧ n < 1000000 ∧ -1000000 < n then some (List.replicate n.toNat xs).flatten else none
    | none => none
  | _ => none
/-- where nothing may be raised -/
def Out.calm {α : Type} : Out α → Out α
  | .ok a g => .ok a g
  | _ => .no
section
variable (Gam : Prog) (call : CallT)
/-- the items one after another -/
def foldI {α : Type} (f : α → D → Gs → Out α) (s : Src) : Nat → Nat → α → Gs → Out α
  | 0, _, _, _ => .no
  | m + 1, i, a, g => match s.at i g with
    | none => .no
    | some none => .ok a g
    | some (some x) => (f a x g).bind fun a' g' => foldI f s m (i + 1) a' g'
def foldO {α : Type} (f : α → D → Gs → Out α) : List D → α → Gs → Out α
  | [], a, g => .ok a g
  | x :: xs, a, g => (f a x g).bind fun a' g' => foldO f xs a' g'
def newD (c : Nat) (ds : List D) (g : Gs) : Out D := match Gam.cls c with
  | some k => match k.kind with
    | .froz => match k.init with
      | some f => (call f ds g).bind fun r g' => match r with
        | .v d => .ok d g'
        | .f _ => .no
      | none => .no
    | .mut => match k.init with
      | some f => (call f (.glo g.next :: ds) (g.new (.ins c [] []))).bind fun r g' => match r with
        | .v .non => .ok (.glo g.next) g'
        | _ => .no
      | none => .no
    | .exc => .no
  | none => .no
mutual
def evE : E → Sg → Gs → Out D
  | .cst d, _, g => .ok d g
  | .v i, σ, g => Out.opt (getV σ i) g
  | .gc x, _, g => Out.opt (Gam.con x) g
  | .bin o a b, σ, g => (evP a σ g).bind fun x g => (evP b σ g).bind fun y g => Out.opt (binD g o x y) g
  | .neg a, σ, g => (evE a σ g).bind fun x g => match x with
    | .int i => .ok (.int (-i)) g
    | _ => .no
  | .not_ a, σ, g => (evT a σ g).bind fun b g => .ok (.bl (!b)) g
  | .and_ a b, σ, g => (evE a σ g).bind fun x g => match x with
    | .bl true => evE b σ g
    | .bl false => .ok (.bl false) g
    | _ => .no
  | .or_ a b, σ, g => (evE a σ g).bind fun x g => match x with
    | .bl true => .ok (.bl true) g
    | .bl false => evE b σ g
    | _ => .no
  | .cmp o a b, σ, g => (evP a σ g).bind fun x g => (evP b σ g).bind fun y g => Out.opt (cmpD g o x y) g
  | .chn o o' a b c, σ, g => (evE a σ g).bind fun x g => (evE b σ g).bind fun y g => match cmpD g o x y with
    | some (.bl true) => (evE c σ g).bind fun z g => Out.opt (cmpD g o' y z) g
    | some (.bl false) => .ok (.bl false) g
    | _ => .no
  | .ife c a b, σ, g => (evT c σ g).bind fun x g => if x then evE a σ g else evE b σ g
  | .tup es, σ, g => (evEs es σ g).bind fun ds g => .ok (.tup ds) g
  | .fz f, σ, g => (evF f σ g).bind fun r g => .ok (r.dI g.next) (r.gI g)
  | .ng f, σ, g => (evF f σ g).bind fun r g => .ok (.glo g.next) (g.new r.cell)
  | .idx a i, σ, g => (evP a σ g).bind fun x g => (evE i σ g).bind fun y g => Out.opt (idxD g x y) g
  | .sl a lo hi, σ, g => (evP a σ g).bind fun x g => (evOe lo σ g).bind fun l g => (evOe hi σ g).bind fun h g => Out.opt (slD g x l h) g
  | .att a f, σ, g => (evE a σ g).bind fun x g => Out.opt (attD g x f) g
  | .atm i f, σ, g => Out.opt (getA σ i f) g
  | .call f es, σ, g => (evEs es σ g).bind fun ds g => (call f ds g).bind fun r g => .ok r.d0 g
  | .calv i es, σ, g => match getV σ i with
    | some (.fn f) => (evEs es σ g).bind fun ds g => (call f ds g).bind fun r g => .ok r.d0 g
    | _ => .no
  | .new c es, σ, g => (evEs es σ g).bind fun ds g => newD Gam call c ds g
  | .meth a m es, σ, g => (evE a σ g).bind fun x g => match (clsD g x).bind fun c => Gam.meth c m with
    | some f => (evEs es σ g).bind fun ds g => (call f (x :: ds) g).bind fun r g => .ok r.d0 g
    | none => .no
  | .len a, σ, g => (evP a σ g).bind fun x g => Out.opt ((lenD g x).map fun n : Nat => D.int n) g
  | .isi a ts, σ, g => (evP a σ g).bind fun x g => Out.opt ((isTs Gam g x ts).map .bl) g
  | .bi n ps, σ, g => (evPs ps σ g).bind fun ds g => Out.opt (biD Gam g n ds) g
  | .bm a m ps, σ, g => (evP a σ g).bind fun x g => (evPs ps σ g).bind fun ds g => Out.opt (bmD g x m ds) g
def evP : P → Sg → Gs → Out D
  | .e e, σ, g => evE e σ g
  | .m i, σ, g => Out.opt (getM σ i) g
def evT : T → Sg → Gs → Out Bool
  | .e e, σ, g => (evE e σ g).bind fun x g => Out.opt (truthD g x) g
  | .m i, σ, g => Out.opt ((getM σ i).bind (truthD g)) g
  | .not_ a, σ, g => (evT a σ g).bind fun b g => .ok (!b) g
  | .and_ a b, σ, g => (evT a σ g).bind fun x g => if x then evT b σ g else .ok false g
  | .or_ a b, σ, g => (evT a σ g).bind fun x g => if x then .ok true g else evT b σ g
def evOt : Ot → Sg → Gs → Out Bool
  | .none, _, g => .ok true g
  | .some t, σ, g => evT t σ g
def evF : F → Sg → Gs → Out Fr
  | .lst es, σ, g => (evEs es σ g).bind fun ds g => .ok (.l ds) g
  | .comp elt tg it own c, σ, g => (evIt it σ g).bind fun s g =>
      (foldI (fun (acc : List D) x g => (match bindT g (wipeS σ own) x tg with
        | some σ' => (evOt c σ' g).bind fun t g => if t then (evE elt σ' g).bind fun y g => if acc.length < sizeM then .ok (acc ++ [y]) g else .no else .ok acc g
        | none => .no).calm) s s.fuel 0 [] g).bind fun ys g => .ok (.l ys) g
  | .list a, σ, g => (evP a σ g).bind fun x g => Out.optL (seqA g x) g
  | .sl a lo hi, σ, g => (evP a σ g).bind fun x g => (evOe lo σ g).bind fun l g => (evOe hi σ g).bind fun h g => Out.optL ((seqL g x).map fun xs => cutL xs l h) g
  | .rev a, σ, g => .no
  | .cat a b, σ, g => (evP a σ g).bind fun x g => (evP b σ g).bind fun y g => Out.optL (catL g x y) g
  | .rep a b, σ, g => (evP a σ g).bind fun x g => (evE b σ g).bind fun y g => Out.optL (repL g x y) g
  | .srt a, σ, g => .no
  | .call f es, σ, g => (evEs es σ g).bind fun ds g => (call f ds g).bind fun r g => match r with
    | .f r => .ok r g
    | .v _ => .no
  | .meth a m es, σ, g => (evE a σ g).bind fun x g => match (clsD g x).bind fun c => Gam.meth c m with
    | some f => (evEs es σ g).bind fun ds g => (call f (x :: ds) g).bind fun r g => match r with
      | .f r => .ok r g
      | .v _ => .no
    | none => .no
  | .split a b, σ, g => (evE a σ g).bind fun x g => (evE b σ g).bind fun y g => Out.optL (splD x y) g
  | .dlit ps, σ, g => (evPr ps σ g).bind fun q g => if keysOk q.1 ∧ q.1.length ≤ 15 then .ok (.d q.1 q.2) g else .no
  | .dcomp k v tg it own c, σ, g => (evIt it σ g).bind fun s g =>
      (foldI (fun (acc : List D × List D) x g => (match bindT g (wipeS σ own) x tg with
        | some σ' => (evOt c σ' g).bind fun t g => if t then (evE k σ' g).bind fun y g => (evE v σ' g).bind fun z g => Out.opt (putD y z acc.1 acc.2) g else .ok acc g
        | none => .no).calm) s s.fuel 0 ([], []) g).bind fun q g => .ok (.d q.1 q.2) g
  | .dict a, σ, g => (evP a σ g).bind fun x g => match dctA g x with
    | some d => .ok (.d d.1 d.2) g
    | none => match seqA g x with
      | some xs => (foldO (fun (acc : List D × List D) x g => match seqT x with
        | some [k, v] => Out.opt (putD k v acc.1 acc.2) g
        | _ => .no) xs ([], []) g).bind fun q g => .ok (.d q.1 q.2) g
      | none => .no
def evEs : Es → Sg → Gs → Out (List D)
  | .nil, _, g => .ok [] g
  | .cons e es, σ, g => (evE e σ g).bind fun x g => (evEs es σ g).bind fun r g => .ok (x :: r) g
def evPr : Prs → Sg → Gs → Out (List D × List D)
  | .nil, _, g => .ok ([], []) g
  | .cons k v ps, σ, g => (evE k σ g).bind fun x g => (evE v σ g).bind fun y g => (evPr ps σ g).bind fun q g => .ok (x :: q.1, y :: q.2) g
def evPs : Ps → Sg → Gs → Out (List D)
  | .nil, _, g => .ok [] g
  | .cons e es, σ, g => (evP e σ g).bind fun x g => (evPs es σ g).bind fun r g => .ok (x :: r) g
def evOe : Oe → Sg → Gs → Out (Option Int)
  | .none, _, g => .ok none g
  | .some e, σ, g => (evE e σ g).bind fun x g => match x with
    | .int i => .ok (some i) g
    | _ => .no
def evIt : Iv → Sg → Gs → Out Src
  | .e a, σ, g => (evP a σ g).bind srcOf
  | .rng a, σ, g => (evE a σ g).bind fun x g => match x with
    | .int n => if n ≤ 1000000 ∧ -1000000 ≤ n then .ok (.fix (rngL 0 n)) g else .no
    | _ => .no
  | .rng2 a b, σ, g => (evE a σ g).bind fun x g => (evE b σ g).bind fun y g => match x, y with
    | .int n, .int m => if -1000000 ≤ n ∧ n ≤ 1000000 ∧ -1000000 ≤ m ∧ m ≤ 1000000 then .ok (.fix (rngL n m)) g else .no
    | _, _ => .no
  | .enum a, σ, g => (evP a σ g).bind fun x g => match x with
    | .lst xs => .ok (.fix (enumL 0 xs)) g
    | _ => .no
  | .zip a b, σ, g => (evP a σ g).bind fun x g => (evP b σ g).bind fun y g => match x, y with
    | .lst xs, .lst ys => .ok (.fix (zip2 xs ys)) g
    | .tup xs, .tup ys => .ok (.fix (zip2 xs ys)) g
    | _, _ => .no
  | .zip3 a b c, σ, g => .no
  | .items a, σ, g => .no
end
end

/-! ### statements -/
inductive Fl where
  | nx | br | ct | ret (r : RV)
/-- behind a statement: the flow and the slots -/
abbrev R := Fl × Sg
def pathS (σ : Sg) (p : P) : Option Nat := match p with
  | .m i => some i
  | .e _ => none
/-- a list method that changes the list -/
def mutL (m : Mm) (ds : List D) (g : Gs) (xs : List D) : Option (List D) := match m, ds with
  | .append, [d] => if xs.length < sizeM then some (xs ++ [d]) else none
  | .extend, [.lst ys] => if xs.length + ys.length ≤ sizeM then some (xs ++ ys) else none
  | .insert, [.int i, d] => if xs.length < sizeM ∧ 0 ≤ i ∧ i ≤ xs.length then some (xs.take i.toNat ++ [d] ++ xs.drop i.toNat) else none
  | _, _ => none
def popL (xs : List D) : Option Int → Option (D × List D)
  | none => match xs.getLast? with
    | some x => some (x, xs.dropLast)
    | none => none
  | some i => if 0 ≤ i then (match xs[i.toNat]? with
    | some x => some (x, xs.eraseIdx i.toNat)
    | none => none) else none
def setI (xs : List D) (i : D) (d : D) : Option (List D) := match i with
  | .int i => if 0 ≤ i ∧ i < xs.length then some (xs.set i.toNat d) else none
  | _ => none
section
variable (Gam : Prog) (call : CallT)
def loopI (body : Sg → Gs → Out R) (tg : Tg) (s : Src) : Nat → Nat → Sg → Gs → Out R
  | 0, _, _, _ => .no
  | m + 1, i, σ, g => match s.at i g with
    | none => .no
    | some none => .ok (.nx, σ) g
    | some (some x) => match bindT g σ x tg with
      | none => .no
      | some σ => (body σ g).bind fun r g => match r.1 with
        | .nx => loopI body tg s m (i + 1) r.2 g
        | .ct => loopI body tg s m (i + 1) r.2 g
        | .br => .ok (.nx, r.2) g
        | .ret v => .ok (.ret v, r.2) g
def loopW (test : Sg → Gs → Out Bool) (body : Sg → Gs → Out R) : Nat → Sg → Gs → Out R
  | 0, _, _ => .no
  | n + 1, σ, g => (test σ g).bind fun x g => match x with
    | false => .ok (.nx, σ) g
    | true => (body σ g).bind fun r g => match r.1 with
      | .nx => loopW test body n r.2 g
      | .ct => loopW test body n r.2 g
      | .br => .ok (.nx, r.2) g
      | .ret v => .ok (.ret v, r.2) g
def nx (σ : Sg) (g : Gs) : Out R := .ok (.nx, σ) g
/-- no slot holds a thing of its own -/
def ownF (σ : Sg) : Bool := σ.all fun s => match s with
  | none => true
  | some (.val _) => true
  | _ => false
def xfOf (Gam : Prog) (c : Nat) : List Nat := match Gam.cls c with
  | some k => k.fields
  | none => []
def lookFs (xs : List Nat) (vs : List D) : List Nat → Option (List D)
  | [] => some []
  | f :: fs => match lookF f xs vs with
    | none => none
    | some d => match lookFs xs vs fs with
      | none => none
      | some r => some (d :: r)
/-- what the clause of an asked text hands back -/
def toldD (Gam : Prog) (g : Gs) (c c1 c3 : Nat) (d : D) : Option D :=
  if !isC Gam c c1 || isC Gam c c3 then some (.tup [.str "other", .int 0]) else match isT Gam g d .bool with
    | some true => some (.tup [.str "other", .int 1])
    | some false => match isT Gam g d .int with
      | some true => some (.tup [.str "refused", d])
      | some false => some (.tup [.str "other", .int 1])
      | none => none
    | none => none
mutual
def evS : S → Sg → Gs → Out R
  | .set t e, σ, g => (evE Gam call e σ g).bind fun x g => Out.opt ((bindT g σ x t).map fun σ => (.nx, σ)) g
  | .setm i f, σ, g => (evF Gam call f σ g).bind fun r g => match σ[i]? with
    | some _ => nx (σ.set i (some r.sv)) g
    | none => .no
  | .seta o a e, σ, g => (evE Gam call e σ g).bind fun x g => (evE Gam call o σ g).bind fun y g => match y with
    | .glo n => match g.cell n with
      | some (.ins c fs vs) => nx σ (g.set n (.ins c (putF a x fs vs).1 (putF a x fs vs).2))
      | _ => .no
    | _ => .no
  | .setam i a e, σ, g => match σ[i]? with
    | some (some (.mi c fs vs)) => if fs.length < 900 then (evE Gam call e σ g).bind fun x g => nx (σ.set i (some (.mi c (putF a x fs vs).1 (putF a x fs vs).2))) g else .no
    | _ => .no
  | .seti p i e, σ, g => match p with
    | .m k => match σ[k]? with
      | some (some (.ml xs)) => (evE Gam call e σ g).bind fun x g => (evE Gam call i σ g).bind fun j g => match setI xs j x with
        | some ys => nx (σ.set k (some (.ml ys))) g
        | none => .no
      | some (some (.md ks vs)) => (evE Gam call e σ g).bind fun x g => (evE Gam call i σ g).bind fun j g => match putD j x ks vs with
        | some q => nx (σ.set k (some (.md q.1 q.2))) g
        | none => .no
      | _ => .no
    | .e o => (evE Gam call e σ g).bind fun x g => (evE Gam call o σ g).bind fun y g => (evE Gam call i σ g).bind fun j g => match y with
      | .glo n => match g.cell n with
        | some (.lst xs) => match setI xs j x with
          | some ys => nx σ (g.set n (.lst ys))
          | none => .no
        | some (.dct ks vs) => match putD j x ks vs with
          | some q => nx σ (g.set n (.dct q.1 q.2))
          | none => .no
        | _ => .no
      | _ => .no
  | .mut p m es, σ, g => match p with
    | .m k => match σ[k]? with
      | some (some (.ml xs)) => (evEs Gam call es σ g).bind fun ds g => match mutL m ds g xs with
        | some ys => nx (σ.set k (some (.ml ys))) g
        | none => .no
      | _ => .no
    | .e o => (evE Gam call o σ g).bind fun y g => match y with
      | .glo n => match g.cell n with
        | some (.lst _) => (evEs Gam call es σ g).bind fun ds g => match g.cell n with
          | some (.lst xs) => match mutL m ds g xs with
            | some ys => nx σ (g.set n (.lst ys))
            | none => .no
          | _ => .no
        | _ => .no
      | _ => .no
  | .pop t p i, σ, g => match p with
    | .m k => (evOe Gam call i σ g).bind fun j g => match σ[k]? with
      | some (some (.ml xs)) => match popL xs j with
        | some q => match t with
          | none => nx (σ.set k (some (.ml q.2))) g
          | some t => Out.opt ((bindT g (σ.set k (some (.ml q.2))) q.1 t).map fun σ => (.nx, σ)) g
        | none => .no
      | _ => .no
    | .e o => (evE Gam call o σ g).bind fun y g => (evOe Gam call i σ g).bind fun j g => match y with
      | .glo n => match g.cell n with
        | some (.lst xs) => match popL xs j with
          | some q => match t with
            | none => nx σ (g.set n (.lst q.2))
            | some t => Out.opt ((bindT g σ q.1 t).map fun σ => (.nx, σ)) (g.set n (.lst q.2))
          | none => .no
        | _ => .no
      | _ => .no
  | .aug i o e, σ, g => match getV σ i with
    | some x => (evE Gam call e σ g).bind fun y g => match x, y, o with
      | .int a, .int b, .add => nx (σ.set i (some (.val (.int (a + b))))) g
      | _, _, _ => .no
    | none => .no
  | .auga o a op e, σ, g => .no
  | .dels p i lo, σ, g => .no
  | .exp e, σ, g => (evE Gam call e σ g).bind fun _ g => nx σ g
  | .ret e, σ, g => (evE Gam call e σ g).bind fun x g => .ok (.ret (.v x), σ) g
  | .retf f, σ, g => (evF Gam call f σ g).bind fun r g => .ok (.ret (.f r), σ) g
  | .retm i, σ, g => match σ[i]? with
    | some (some (.ml xs)) => .ok (.ret (.f (.l xs)), σ.set i none) g
    | some (some (.md ks vs)) => .ok (.ret (.f (.d ks vs)), σ.set i none) g
    | _ => .no
  | .retn, σ, g => .ok (.ret (.v .non), σ) g
  | .if_ c a b, σ, g => (evT Gam call c σ g).bind fun x g => if x then evSs a σ g else evSs b σ g
  | .whl c b, σ, g => loopW (fun σ g => evT Gam call c σ g) (fun σ g => evSs b σ g) 1000000 σ g
  | .for_ t it b, σ, g => (evIt Gam call it σ g).bind fun s g => loopI (fun σ g => evSs b σ g) t s s.fuel 0 σ g
  | .brk, σ, g => .ok (.br, σ) g
  | .cnt, σ, g => .ok (.ct, σ) g
  | .pass, σ, g => nx σ g
  | .raise c es, σ, g => (evEs Gam call es σ g).bind fun ds g => if ds.length = (xfOf Gam c).length then .ex c ds g else .no
  | .try_ b hs, σ, g => if ownF σ then match evSs b σ g with
      | .ex c ds g' => evHs hs c ds (wipeS σ b.own) g'
      | r => r
    else .no
  | .frz i, σ, g => match σ[i]? with
    | some (some (.ml xs)) => nx (σ.set i (some (.val (.lst xs)))) g
    | some (some (.md ks vs)) => nx (σ.set i (some (.val (.dct 0 ks vs)))) g
    | some (some (.val _)) => nx σ g
    | _ => .no
  | .fzg i, σ, g => match getV σ i with
    | some (.glo n) => match g.cell n with
      | some (.lst xs) => nx (σ.set i (some (.val (.lst xs)))) (g.drop n)
      | some (.dct ks vs) => nx (σ.set i (some (.val (.dct 0 ks vs)))) (g.drop n)
      | _ => .no
    | _ => .no
def evSs : Ss → Sg → Gs → Out R
  | .nil, σ, g => nx σ g
  | .cons s ss, σ, g => (evS s σ g).bind fun r g => match r.1 with
    | .nx => evSs ss r.2 g
    | _ => .ok r g
def evHs : Hs → Nat → List D → Sg → Gs → Out R
  | .nil, c, ds, _, g => .ex c ds g
  | .cons h i b hs, c, ds, σ, g => if isC Gam c h then (match i with
      | none => (evSs b σ g).calm
      | some i => if i < σ.length then ((evSs b (σ.set i (some (.xc c ds))) g).calm).bind fun r g => .ok (r.1, r.2.set i none) g else .no) else evHs hs c ds σ g
  | .get h i j tup fs hs, c, ds, σ, g => if isC Gam c h then (if i < σ.length ∧ j < σ.length ∧ i ≠ j then (match lookFs (xfOf Gam c) ds fs with
        | some vs => if tup then nx ((σ.set j (some (.val (.tup vs)))).set i none) g else (match vs with
          | [v] => nx ((σ.set j (some (.val v))).set i none) g
          | _ => .no)
        | none => .no) else .no) else evHs hs c ds σ g
  | .told h i c1 c3 f hs, c, ds, σ, g => if isC Gam c h then (if i < σ.length then (match lookF f (xfOf Gam c) ds with
        | some d => (match toldD Gam g c c1 c3 d with
          | some r => .ok (.ret (.v r), σ.set i none) g
          | none => .no)
        | none => .no) else .no) else evHs hs c ds σ g
end
/-- a def called, by its body -/
def runF (f : Fn) (ds : List D) (g : Gs) : Out RV := if ds.length = f.np then
    (evSs Gam call f.body (ds.map (fun d => some (.val d)) ++ List.replicate (f.ns - f.np) none) g).bind fun r g => match r.1 with
      | .ret v => .ok v g
      | .nx => .ok (.v .non) g
      | _ => .no
  else .no
/-- the __init__ of a class whose instances don't change -/
def runI (f : Fn) (c : Nat) (ds : List D) (g : Gs) : Out RV := if ds.length + 1 = f.np then
    (evSs Gam call f.body (some (.mi c [] []) :: (ds.map (fun d => some (.val d)) ++ List.replicate (f.ns - f.np) none)) g).bind fun r g => match r.1 with
      | .nx => (match r.2[0]? with
        | some (some (SV.mi c fs vs)) => .ok (.v (.ins c g.next fs vs)) g.bump
        | _ => .no)
      | _ => .no
  else .no
end
/-- calls to a depth -/
def callN (Gam : Prog) (ini : Nat → Option Nat) : Nat → CallT
  | 0 => fun _ _ _ => .no
  | n + 1 => fun f ds g => match Gam.fn f with
    | none => .no
    | some d => match ini f with
      | some c => runI Gam (callN Gam ini n) d c ds g
      | none => runF Gam (callN Gam ini n) d ds g
end VM

set_option Elab.async false
set_option maxHeartbeats 4000000
namespace VM
open PySem L2

/-! ### where things stand -/
structure Ct where
  K : PySem.W.Frag
  wd : World
  mg : Str → Option Value
  cA : Nat → Option Addr
  xA : Nat → Option Addr
  fA : Nat → Option Addr
  fld : Nat → Str
  inj : ∀ x y, fld x = fld y → x = y
/-- F: what never changes any more; phi: where the store's cells stand -/
structure Wd where
  F : Hp
  phi : Nat → Option Addr
def kD : Key → D
  | .inl i => .int i
  | .inr s => .str s
/-- the rows of a dict of the module -/
def KRows (K : PySem.W.Frag) (w : World) (a : Addr) (ks : List D) (us : List V) : Prop := ∀ (i : Nat) (z : Str) (u : V), ks[i]? = some (.str z) → us[i]? = some u → KDct K w a z u
/-- a thing's number, if it has one -/
def IdAt (W : Wd) (i : Nat) (a : Addr) : Prop := i = 0 ∨ W.phi i = some a
section
variable (C : Ct) (W : Wd)
mutual
def Rep : D → V → Prop
  | .non, v => v = .non
  | .bl b, v => v = .bl b
  | .int i, v => v = .int i
  | .str s, v => v = .str s
  | .tup xs, v => ∃ a vs, v = .ref a ∧ SqT C.K W.F a vs ∧ RepL xs vs
  | .lst xs, v => ∃ a vs, v = .ref a ∧ Rd W.F a (.lst vs) ∧ RepL xs vs
  | .dct i ks ds, v => ∃ a kvs, v = .ref a ∧ Rd W.F a (.dK kvs) ∧ ks = kvs.map (fun p => kD p.1) ∧ RepL ds (kvs.map (·.2)) ∧ IdAt W i a
  | .ins c i fs ds, v => ∃ a A dx vs, v = .ref a ∧ C.cA c = some A ∧ W.F a = some (.ins A dx ((fs.map C.fld).zip vs)) ∧ fs.length = ds.length ∧ RepL ds vs ∧ IdAt W i a
  | .glo n, v => ∃ a, W.phi n = some a ∧ v = .ref a
  | .fn f, v => ∃ a, C.fA f = some a ∧ v = .ref a
  | .kst xs, v => ∃ a vs, v = .ref a ∧ SqL C.K W.F a vs ∧ RepL xs vs
  | .kdc ks ds, v => ∃ a us, v = .ref a ∧ KRows C.K C.wd a ks us ∧ RepL ds us
def RepL : List D → List V → Prop
  | [], vs => vs = []
  | d :: ds, vs => ∃ v r, vs = v :: r ∧ Rep d v ∧ RepL ds r
end
end
variable {C : Ct} {W W' : Wd}
theorem RepL.length : ∀ {ds : List D} {vs : List V}, RepL C W ds vs → vs.length = ds.length
  | [], _, h => by rw [RepL.eq_1] at h; rw [h]; rfl
  | d :: ds, _, h => by
    rw [RepL.eq_2] at h
    obtain ⟨v, r, rfl, _, h⟩ := h
    rw [List.length_cons, List.length_cons, RepL.length h]
theorem RepL.nil : RepL C W [] [] := by rw [RepL.eq_1]
theorem RepL.cons {d : D} {v : V} {ds : List D} {vs : List V} (h : Rep C W d v) (t : RepL C W ds vs) : RepL C W (d :: ds) (v :: vs) := by
  rw [RepL.eq_2]
  exact ⟨v, vs, rfl, h, t⟩
theorem RepL.uncons {d : D} {ds : List D} {vs : List V} (h : RepL C W (d :: ds) vs) : ∃ v r, vs = v :: r ∧ Rep C W d v ∧ RepL C W ds r := by
  rw [RepL.eq_2] at h
  exact h
theorem RepL.nil_eq {vs : List V} (h : RepL C W [] vs) : vs = [] := by rw [RepL.eq_1] at h; exact h
theorem RepL.append : ∀ {ds es : List D} {vs ws : List V}, RepL C W ds vs → RepL C W es ws → RepL C W (ds ++ es) (vs ++ ws)
  | [], _, _, _, h, h2 => by rw [h.nil_eq]; exact h2
  | _ :: _, _, _, _, h, h2 => by
    obtain ⟨v, r, rfl, a, b⟩ := h.uncons
    exact .cons a (RepL.append b h2)
theorem RepL.get : ∀ {ds : List D} {vs : List V} {i : Nat} {d : D}, RepL C W ds vs → ds[i]? = some d → ∃ v, vs[i]? = some v ∧ Rep C W d v
  | [], _, _, _, _, e => by simp at e
  | _ :: _, _, 0, _, h, e => by
    obtain ⟨v, r, rfl, a, b⟩ := h.uncons
    simp at e
    subst e
    exact ⟨v, rfl, a⟩
  | _ :: _, _, i + 1, _, h, e => by
    obtain ⟨v, r, rfl, a, b⟩ := h.uncons
    obtain ⟨w, e1, e2⟩ := RepL.get (i := i) b (by simpa using e)
    exact ⟨w, by simpa using e1, e2⟩
theorem RepL.getV : ∀ {ds : List D} {vs : List V} {i : Nat} {v : V}, RepL C W ds vs → vs[i]? = some v → ∃ d, ds[i]? = some d ∧ Rep C W d v := fun {ds vs i v} h e => by
  obtain ⟨hi, _⟩ := List.getElem?_eq_some_iff.mp e
  have hl := h.length
  obtain ⟨w, e1, e2⟩ := h.get (i := i) (d := ds[i]) (List.getElem?_eq_getElem (by omega))
  rw [e] at e1
  cases e1
  exact ⟨_, List.getElem?_eq_getElem (by omega), e2⟩
theorem RepL.mem {ds : List D} {vs : List V} {v : V} (h : RepL C W ds vs) (m : v ∈ vs) : ∃ d ∈ ds, Rep C W d v := by
  obtain ⟨i, e⟩ := List.getElem?_of_mem m
  obtain ⟨d, e1, r⟩ := h.getV e
  exact ⟨d, List.mem_of_getElem? e1, r⟩
theorem RepL.take : ∀ {ds : List D} {vs : List V} (n : Nat), RepL C W ds vs → RepL C W (ds.take n) (vs.take n)
  | _, _, 0, _ => by simpa using RepL.nil
  | [], _, _ + 1, h => by rw [h.nil_eq]; exact RepL.nil
  | _ :: _, _, n + 1, h => by
    obtain ⟨v, r, rfl, a, b⟩ := h.uncons
    exact .cons a (RepL.take n b)
theorem RepL.drop : ∀ {ds : List D} {vs : List V} (n : Nat), RepL C W ds vs → RepL C W (ds.drop n) (vs.drop n)
  | _, _, 0, h => by simpa using h
  | [], _, _ + 1, h => by rw [h.nil_eq]; exact RepL.nil
  | _ :: _, _, n + 1, h => by
    obtain ⟨v, r, rfl, a, b⟩ := h.uncons
    exact RepL.drop n b
theorem RepL.set : ∀ {ds : List D} {vs : List V} (n : Nat) {d : D} {v : V}, RepL C W ds vs → Rep C W d v → RepL C W (ds.set n d) (vs.set n v)
  | [], _, _, _, _, h, _ => by rw [h.nil_eq]; exact RepL.nil
  | _ :: _, _, 0, _, _, h, h2 => by
    obtain ⟨v, r, rfl, a, b⟩ := h.uncons
    exact .cons h2 b
  | _ :: _, _, n + 1, _, _, h, h2 => by
    obtain ⟨v, r, rfl, a, b⟩ := h.uncons
    exact .cons a (RepL.set n b h2)
theorem RepL.reverse : ∀ {ds : List D} {vs : List V}, RepL C W ds vs → RepL C W ds.reverse vs.reverse
  | [], _, h => by rw [h.nil_eq]; exact RepL.nil
  | _ :: _, _, h => by
    obtain ⟨v, r, rfl, a, b⟩ := h.uncons
    rw [List.reverse_cons, List.reverse_cons]
    exact (RepL.reverse b).append (.cons a .nil)
theorem RepL.eraseIdx : ∀ {ds : List D} {vs : List V} (n : Nat), RepL C W ds vs → RepL C W (ds.eraseIdx n) (vs.eraseIdx n)
  | [], _, _, h => by rw [h.nil_eq]; exact RepL.nil
  | _ :: _, _, 0, h => by
    obtain ⟨v, r, rfl, a, b⟩ := h.uncons
    exact b
  | _ :: _, _, n + 1, h => by
    obtain ⟨v, r, rfl, a, b⟩ := h.uncons
    exact .cons a (RepL.eraseIdx n b)
theorem RepL.replicate (n : Nat) {ds : List D} {vs : List V} (h : RepL C W ds vs) : RepL C W (List.replicate n ds).flatten (List.replicate n vs).flatten := by
  induction n with
  | zero => exact RepL.nil
  | succ n ih =>
    rw [List.replicate_succ, List.replicate_succ, List.flatten_cons, List.flatten_cons]
    exact h.append ih

/-! ### the world grows -/
structure Wd.Le (W W' : Wd) : Prop where
  F : ∀ a u, W.F a = some u → W'.F a = some u
  phi : ∀ n a, W.phi n = some a → W'.phi n = some a
theorem Wd.Le.refl : W.Le W := ⟨fun _ _ h => h, fun _ _ h => h⟩
theorem Wd.Le.trans {W2 : Wd} (a : W.Le W') (b : W'.Le W2) : W.Le W2 := ⟨fun x u h => b.F x u (a.F x u h), fun n x h => b.phi n x (a.phi n x h)⟩
theorem IdAt.le (l : W.Le W') {i : Nat} {a : Addr} (h : IdAt W i a) : IdAt W' i a := h.imp id (l.phi i a)
theorem Rd.le (l : ∀ a u, W.F a = some u → W'.F a = some u) {a : Addr} {u : HO} (h : Rd W.F a u) : Rd W'.F a u := by
  rcases h with h | ⟨o, h⟩
  · exact .inl (l _ _ h)
  · exact .inr ⟨o, l _ _ h⟩
theorem SqL.le {K : PySem.W.Frag} (l : ∀ a u, W.F a = some u → W'.F a = some u) {a : Addr} {xs : List V} (h : SqL K W.F a xs) : SqL K W'.F a xs := by
  rcases h with h | h
  · exact .inl (Rd.le l h)
  · exact .inr h
theorem SqT.le {K : PySem.W.Frag} (l : ∀ a u, W.F a = some u → W'.F a = some u) {a : Addr} {xs : List V} (h : SqT K W.F a xs) : SqT K W'.F a xs := by
  rcases h with h | h
  · exact .inl (Rd.le l h)
  · exact .inr h
mutual
theorem Rep.le (l : W.Le W') : ∀ (d : D) (v : V), Rep C W d v → Rep C W' d v
  | .non, _, h => h
  | .bl _, _, h => h
  | .int _, _, h => h
  | .str _, _, h => h
  | .tup xs, _, h => by
    rw [Rep.eq_5] at h ⊢
    obtain ⟨a, vs, e, h1, h2⟩ := h
    exact ⟨a, vs, e, SqT.le l.F h1, RepL.le l xs vs h2⟩
  | .lst xs, _, h => by
    rw [Rep.eq_6] at h ⊢
    obtain ⟨a, vs, e, h1, h2⟩ := h
    exact ⟨a, vs, e, Rd.le l.F h1, RepL.le l xs vs h2⟩
  | .dct _ ks ds, _, h => by
    rw [Rep.eq_7] at h ⊢
    obtain ⟨a, kvs, e, h1, h2, h3, h5⟩ := h
    exact ⟨a, kvs, e, Rd.le l.F h1, h2, RepL.le l ds _ h3, h5.le l⟩
  | .ins c _ fs ds, _, h => by
    rw [Rep.eq_8] at h ⊢
    obtain ⟨a, A, dx, vs, e, h1, h2, h3, h4, h5⟩ := h
    exact ⟨a, A, dx, vs, e, h1, l.F _ _ h2, h3, RepL.le l ds _ h4, h5.le l⟩
  | .glo n, _, h => by
    rw [Rep.eq_9] at h ⊢
    obtain ⟨a, h1, h2⟩ := h
    exact ⟨a, l.phi _ _ h1, h2⟩
  | .fn f, _, h => by
    rw [Rep.eq_10] at h ⊢
    exact h
  | .kst xs, _, h => by
    rw [Rep.eq_11] at h ⊢
    obtain ⟨a, vs, e, h1, h2⟩ := h
    exact ⟨a, vs, e, SqL.le l.F h1, RepL.le l xs vs h2⟩
  | .kdc ks ds, _, h => by
    rw [Rep.eq_12] at h ⊢
    obtain ⟨a, vs, e, h1, h2⟩ := h
    exact ⟨a, vs, e, h1, RepL.le l ds vs h2⟩
theorem RepL.le (l : W.Le W') : ∀ (ds : List D) (vs : List V), RepL C W ds vs → RepL C W' ds vs
  | [], _, h => by
    rw [RepL.eq_1] at h ⊢
    exact h
  | d :: ds, _, h => by
    rw [RepL.eq_2] at h ⊢
    obtain ⟨v, r, e, h1, h2⟩ := h
    exact ⟨v, r, e, Rep.le l d v h1, RepL.le l ds r h2⟩
end

/-! ### the store, the slots -/
/-- a changing thing stands at a -/
def CellAt (C : Ct) (W : Wd) (H : Hp) (a : Addr) : Cell → Prop
  | .lst xs => ∃ vs, H a = some (.lst vs) ∧ RepL C W xs vs
  | .dct ks ds => ∃ kvs, H a = some (.dK kvs) ∧ ks = kvs.map (fun p => kD p.1) ∧ RepL C W ds (kvs.map (·.2))
  | .ins c fs ds => ∃ A dx vs, C.cA c = some A ∧ H a = some (.ins A dx ((fs.map C.fld).zip vs)) ∧ fs.length = ds.length ∧ RepL C W ds vs
theorem CellAt.le (l : W.Le W') {H H' : Hp} {a : Addr} {c : Cell} (e : H' a = H a) (h : CellAt C W H a c) : CellAt C W' H' a c := by
  cases c with
  | lst xs =>
    obtain ⟨vs, h1, h2⟩ := h
    exact ⟨vs, e.trans h1, RepL.le l _ _ h2⟩
  | dct ks ds =>
    obtain ⟨kvs, h1, h2, h3⟩ := h
    exact ⟨kvs, e.trans h1, h2, RepL.le l _ _ h3⟩
  | ins c fs ds =>
    obtain ⟨A, dx, vs, h1, h2, h3, h4⟩ := h
    exact ⟨A, dx, vs, h1, e.trans h2, h3, RepL.le l _ _ h4⟩
theorem CellAt.some {H : Hp} {a : Addr} {c : Cell} (h : CellAt C W H a c) : H a ≠ none := by
  cases c with
  | lst xs =>
    obtain ⟨vs, h1, h2⟩ := h
    rw [h1]; exact fun z => nomatch z
  | dct ks ds =>
    obtain ⟨kvs, h1, h2, h3⟩ := h
    rw [h1]; exact fun z => nomatch z
  | ins c fs ds =>
    obtain ⟨A, dx, vs, h1, h2, h3, h4⟩ := h
    rw [h2]; exact fun z => nomatch z
/-- things that a loop may lock -/
def Lk : HO → Prop
  | .dK _ => True
  | _ => False
/-- the address of a live cell of the store -/
def Live (W : Wd) (g : Gs) (a : Addr) : Prop := ∃ n, g.cell n ≠ none ∧ W.phi n = some a
structure RelG (C : Ct) (W : Wd) (g : Gs) (H : Hp) : Prop where
  le : ∀ a u, W.F a = some u → H a = some u ∨ (Lk u ∧ ∃ o, H a = some (.frz o u))
  cell : ∀ n c, g.cell n = some c → ∃ a, W.phi n = some a ∧ W.F a = none ∧ CellAt C W H a c
  inj : ∀ n m a, g.cell n ≠ none → g.cell m ≠ none → W.phi n = some a → W.phi m = some a → n = m
  fresh : ∀ n, g.next ≤ n → g.cell n = none ∧ W.phi n = none
  there : ∀ n a, W.phi n = some a → H a ≠ none
/-- from a state to a later one -/
structure Ext (W : Wd) (H : Hp) (g : Gs) (W' : Wd) (H' : Hp) (g' : Gs) : Prop where
  le : W.Le W'
  Ff : ∀ a, H a ≠ none → ¬ Live W g a → W'.F a = W.F a
  phif : ∀ n a, W.phi n = none → W'.phi n = some a → H a = none
  keep : ∀ a, H a ≠ none → ¬ Live W g a → H' a = H a
  there : ∀ a, H a ≠ none → H' a ≠ none
  nx : g.next ≤ g'.next
  dead : ∀ n, n < g.next → g.cell n = none → g'.cell n = none
theorem Ext.refl {H : Hp} {g : Gs} : Ext W H g W H g := ⟨.refl, fun _ _ _ => rfl, (fun _ _ h1 h2 => by rw [h1] at h2; cases h2), fun _ _ _ => rfl, fun _ h => h, Nat.le_refl _, fun _ _ h => h⟩
theorem Ext.live {H H' : Hp} {g g' : Gs} (e : Ext W H g W' H' g') (r : RelG C W g H) {a : Addr} (ha : H a ≠ none) (h : Live W' g' a) : Live W g a := by
  obtain ⟨n, hc, hp⟩ := h
  cases q : W.phi n with
  | none => exact absurd (e.phif n a q hp) ha
  | some b =>
    rw [e.le.phi n b q] at hp
    cases hp
    refine ⟨n, fun z => ?_, q⟩
    by_cases hn : n < g.next
    · exact hc (e.dead n hn z)
    · rw [(r.fresh n (by omega)).2] at q
      cases q
theorem Ext.trans {W2 : Wd} {H H' H2 : Hp} {g g' g2 : Gs} (a : Ext W H g W' H' g') (r : RelG C W g H) (b : Ext W' H' g' W2 H2 g2) : Ext W H g W2 H2 g2 where
  le := a.le.trans b.le
  Ff := fun x h n => (b.Ff x (a.there x h) fun l => n (a.live r h l)).trans (a.Ff x h n)
  phif := fun n x h1 h2 => by
    cases q : W'.phi n with
    | none =>
      have h3 := b.phif n x q h2
      cases z : H x with
      | none => rfl
      | some o => exact absurd h3 (a.there x (by rw [z]; exact fun w => nomatch w))
    | some y =>
      rw [b.le.phi n y q] at h2
      cases h2
      exact a.phif n x h1 q
  keep := fun x h n => (b.keep x (a.there x h) fun l => n (a.live r h l)).trans (a.keep x h n)
  there := fun x h => b.there x (a.there x h)
  nx := Nat.le_trans a.nx b.nx
  dead := fun n h1 h2 => b.dead n (Nat.lt_of_lt_of_le h1 a.nx) (a.dead n h1 h2)
theorem CellAt.leE {H H' : Hp} {g g' : Gs} (e : Ext W H g W' H' g') {a : Addr} {c : Cell} (n : ¬ Live W g a) (h : CellAt C W H a c) : CellAt C W' H' a c :=
  h.le e.le (e.keep a h.some n)

/-- a slot's thing -/
def SlotAt (C : Ct) (W : Wd) (H : Hp) : SV → V → Prop
  | .val d, v => Rep C W d v
  | .ml xs, v => ∃ a, v = .ref a ∧ W.F a = none ∧ CellAt C W H a (.lst xs)
  | .md ks ds, v => ∃ a, v = .ref a ∧ W.F a = none ∧ CellAt C W H a (.dct ks ds)
  | .mi c fs ds, v => ∃ a, v = .ref a ∧ W.F a = none ∧ CellAt C W H a (.ins c fs ds)
  | .xc .., _ => True
def SV.own : SV → Bool
  | .val _ => false
  | .xc .. => false
  | _ => true
structure RelS (C : Ct) (W : Wd) (g : Gs) (H : Hp) (σ : Sg) (ρ : St) : Prop where
  len : σ.length = ρ.length
  at_ : ∀ (i : Nat) (s : SV), σ[i]? = some (some s) → ∃ v, ρ[i]? = some (some v) ∧ SlotAt C W H s v
  apart : ∀ (i : Nat) (s : SV) (a : Addr), σ[i]? = some (some s) → s.own = true → ρ[i]? = some (some (.ref a)) → ¬ Live W g a ∧ ∀ (j : Nat) (t : SV), σ[j]? = some (some t) → t.own = true → ρ[j]? = some (some (.ref a)) → i = j
theorem SlotAt.ref {H : Hp} {s : SV} {v : V} (h : SlotAt C W H s v) (o : s.own = true) : ∃ a, v = .ref a ∧ W.F a = none ∧ H a ≠ none := by
  cases s with
  | val d => cases o
  | xc => cases o
  | ml xs => obtain ⟨a, e, f, c⟩ := h; exact ⟨a, e, f, c.some⟩
  | md ks ds => obtain ⟨a, e, f, c⟩ := h; exact ⟨a, e, f, c.some⟩
  | mi c fs ds => obtain ⟨a, e, f, c⟩ := h; exact ⟨a, e, f, c.some⟩
theorem SlotAt.ext {H H' : Hp} {g g' : Gs} {s : SV} {v : V} (e : Ext W H g W' H' g') (h : SlotAt C W H s v) (n : ∀ a, s.own = true → v = .ref a → ¬ Live W g a) : SlotAt C W' H' s v := by
  cases s with
  | val d => exact Rep.le e.le d v h
  | xc => trivial
  | ml xs =>
    obtain ⟨a, q, f, c⟩ := h
    exact ⟨a, q, (e.Ff a c.some (n a rfl q)).trans f, c.leE e (n a rfl q)⟩
  | md ks ds =>
    obtain ⟨a, q, f, c⟩ := h
    exact ⟨a, q, (e.Ff a c.some (n a rfl q)).trans f, c.leE e (n a rfl q)⟩
  | mi c fs ds =>
    obtain ⟨a, q, f, c⟩ := h
    exact ⟨a, q, (e.Ff a c.some (n a rfl q)).trans f, c.leE e (n a rfl q)⟩
theorem RelS.ext {H H' : Hp} {g g' : Gs} {σ : Sg} {ρ : St} (r : RelG C W g H) (e : Ext W H g W' H' g') (h : RelS C W g H σ ρ) : RelS C W' g' H' σ ρ where
  len := h.len
  at_ := fun i s hs => by
    obtain ⟨v, e1, e2⟩ := h.at_ i s hs
    exact ⟨v, e1, e2.ext e fun a ho hv => (h.apart i s a hs ho (by rw [e1, hv])).1⟩
  apart := fun i s a hs ho hv => by
    obtain ⟨n, u⟩ := h.apart i s a hs ho hv
    obtain ⟨v, e1, e2⟩ := h.at_ i s hs
    rw [hv] at e1
    cases e1
    obtain ⟨b, e3, _, e4⟩ := e2.ref ho
    cases e3
    exact ⟨fun l => n (e.live r e4 l), u⟩
end VM

namespace VM
open PySem L2

/-! ### the most general readings -/
def mxE (X : Cx) (e : Expr) : TE := fun σ H Q => ∀ pins s, Inv X pins σ H s → wpAny (model X.prog X.w) X.A (eval e X.env) (EP X pins σ Q) X.xe s
def mxT (X : Cx) (e : Expr) : TT := fun σ H Q => ∀ pins s, Inv X pins σ H s → wpAny (model X.prog X.w) X.A (isTrue e X.env (eval e X.env)) (TP X pins σ Q) X.xe s
def mxW (X : Cx) (e : Expr) : TT := fun σ H Q => ∀ (whole : Sem Value) pins s, Inv X pins σ H s → wpAny (model X.prog X.w) X.A (isTrue e X.env whole) (TP X pins σ Q) X.xe s
def mxA (X : Cx) (es : List Expr) : TA := fun σ H Q => ∀ (pos : Pos) pins s, Inv X pins σ H s → wpAny (model X.prog X.w) X.A (spliced (backTo pos (starEach es X.env))) (AP X pins σ Q) X.xe s
def mxS (X : Cx) (st : Stmt) : TS := fun D σ H => ∀ pins s, Inv X pins σ H s → wpAny (model X.prog X.w) X.A (exec st X.env) (SP X pins D) X.xe s
def mxSs (X : Cx) (st : List Stmt) : TS := fun D σ H => ∀ pins s, Inv X pins σ H s → wpAny (model X.prog X.w) X.A (execs st X.env) (SP X pins D) X.xe s
def mxG (X : Cx) (t : Expr) : TG := fun v σ H Q => ∀ pins s u, Inv X pins σ H s → RelV v u → wpAny (model X.prog X.w) X.A (assign t X.env u) (fun _ s' => ∃ σ' H', Inv X pins σ' H' s' ∧ Q σ' H') X.xe s
def mxGs (X : Cx) (ts : List Expr) : TGs := fun vs σ H Q => ∀ pins s us, Inv X pins σ H s → Vals vs us → wpAny (model X.prog X.w) X.A (assignInOrder ((assignEach ts X.env).map (·.2)) us) (fun _ s' => ∃ σ' H', Inv X pins σ' H' s' ∧ Q σ' H') X.xe s
def mxI (X : Cx) (tg iter : Expr) : TI := fun σ H R => ∀ pins s, Inv X pins σ H s → wpAny (model X.prog X.w) X.A (eval iter X.env) (fun v s1 => wpAny (model X.prog X.w) X.A (pyIter v) (PIE X pins σ tg R) X.xe s1) X.xe s
section
variable {X : Cx}
theorem pe_mx {e : Expr} : PE X e (mxE X e) := ⟨fun pins s σ H Q I h => h pins s I⟩
theorem pt_mx {e : Expr} : PT X e (mxT X e) := ⟨fun pins s σ H Q I h => h pins s I⟩
theorem pw_mx {e : Expr} : PW X e (mxW X e) := ⟨fun wh pins s σ H Q I h => h wh pins s I⟩
theorem pa_mx {es : List Expr} : PA X es (mxA X es) := ⟨fun pos pins s σ H Q I h => h pos pins s I⟩
theorem ps_mx {st : Stmt} : PS X st (mxS X st) := ⟨fun pins s σ H D I h => h pins s I⟩
theorem pss_mx {st : List Stmt} : PSs X st (mxSs X st) := ⟨fun pins s σ H D I h => h pins s I⟩
theorem pg_mx {t : Expr} : PG X t (mxG X t) := ⟨fun pins s σ H v u Q I r h => h pins s u I r⟩
theorem pgs_mx {ts : List Expr} : PGs X ts (mxGs X ts) := ⟨fun pins s σ H vs us Q I r h => h pins s us I r⟩
theorem pi_mx {tg iter : Expr} : PI X tg iter (mxI X tg iter) := ⟨fun pins s σ H R I h => h pins s I⟩
variable {σ : St} {H : Hp}
theorem mxE_of {e : Expr} {t : TE} {Q : VK} (h : PE X e t) (q : t σ H Q) : mxE X e σ H Q := fun pins s I => h.run pins s σ H Q I q
theorem mxT_of {e : Expr} {t : TT} {Q : Bool → Hp → Prop} (h : PT X e t) (q : t σ H Q) : mxT X e σ H Q := fun pins s I => h.run pins s σ H Q I q
theorem mxW_of {e : Expr} {t : TT} {Q : Bool → Hp → Prop} (h : PW X e t) (q : t σ H Q) : mxW X e σ H Q := fun wh pins s I => h.run wh pins s σ H Q I q
theorem mxT_ofW {e : Expr} {Q : Bool → Hp → Prop} (q : mxW X e σ H Q) : mxT X e σ H Q := fun pins s I => q _ pins s I
theorem mxA_of {es : List Expr} {t : TA} {Q : List V → Hp → Prop} (h : PA X es t) (q : t σ H Q) : mxA X es σ H Q := fun pos pins s I => h.run pos pins s σ H Q I q
theorem mxS_of {st : Stmt} {t : TS} {D : Ends} (h : PS X st t) (q : t D σ H) : mxS X st D σ H := fun pins s I => h.run pins s σ H D I q
theorem mxSs_of {st : List Stmt} {t : TS} {D : Ends} (h : PSs X st t) (q : t D σ H) : mxSs X st D σ H := fun pins s I => h.run pins s σ H D I q
theorem mxG_of {e : Expr} {t : TG} {v : V} {Q : St → Hp → Prop} (h : PG X e t) (q : t v σ H Q) : mxG X e v σ H Q := fun pins s u I r => h.run pins s σ H v u Q I r q
theorem mxGs_of {es : List Expr} {t : TGs} {vs : List V} {Q : St → Hp → Prop} (h : PGs X es t) (q : t vs σ H Q) : mxGs X es vs σ H Q := fun pins s us I r => h.run pins s σ H vs us Q I r q
theorem mxI_of {tg e : Expr} {t : TI} {R : L2.It → Hp → Prop} (h : PI X tg e t) (q : t σ H R) : mxI X tg e σ H R := fun pins s I => h.run pins s σ H R I q
end

/-! ### what a run's outcome asks -/
/-- an exception as told -/
def RepX (C : Ct) (W : Wd) (xf : Nat → List Nat) (c : Nat) (ds : List D) (H : Hp) (cls : Value) (dx : Option Addr) : Prop :=
  ∃ A, C.xA c = some A ∧ cls = .ref A ∧ ((xf c = [] ∧ ds = [] ∧ dx = none) ∨ ∃ d fs vs, dx = some d ∧ xf c ≠ [] ∧ H d = some (.xd fs) ∧ (xf c).map (fun f => fs.lookup (C.fld f)) = vs.map some ∧ RepL C W ds vs)
section
variable (C : Ct) (xf : Nat → List Nat)
def Ok {α : Type} (W : Wd) (g : Gs) (H : Hp) (o : Out α) (E : XK) (P : α → Gs → Wd → Hp → Prop) : Prop := match o with
  | .ok a g' => ∀ W' H', Ext W H g W' H' g' → RelG C W' g' H' → P a g' W' H'
  | .ex c ds g' => ∀ W' H' cls dx, Ext W H g W' H' g' → RelG C W' g' H' → RepX C W' xf c ds H' cls dx → E cls dx H'
  | .no => False
end
section
variable {C : Ct} {xf : Nat → List Nat} {W W' : Wd} {g g' : Gs} {H H' : Hp} {E : XK}
theorem Ok.shift {α : Type} {o : Out α} {P : α → Gs → Wd → Hp → Prop} (e : Ext W H g W' H' g') (r : RelG C W g H) (h : Ok C xf W g H o E P) : Ok C xf W' g' H' o E P := by
  cases o with
  | ok a g2 => exact fun W2 H2 e2 r2 => h W2 H2 (e.trans r e2) r2
  | ex c ds g2 => exact fun W2 H2 cls dx e2 r2 x => h W2 H2 cls dx (e.trans r e2) r2 x
  | no => exact h
theorem Ok.bind {α β : Type} {o : Out α} {f : α → Gs → Out β} {P : β → Gs → Wd → Hp → Prop} (r : RelG C W g H) (h : Ok C xf W g H (o.bind f) E P) : Ok C xf W g H o E (fun a g1 W1 H1 => Ok C xf W1 g1 H1 (f a g1) E P) := by
  cases o with
  | ok a g2 => exact fun W2 H2 e2 r2 => Ok.shift e2 r h
  | ex c ds g2 => exact h
  | no => exact h
theorem Ok.imp {α : Type} {o : Out α} {P P' : α → Gs → Wd → Hp → Prop} (h : Ok C xf W g H o E P) (i : ∀ a g' W' H', o = .ok a g' → Ext W H g W' H' g' → RelG C W' g' H' → P a g' W' H' → P' a g' W' H') : Ok C xf W g H o E P' := by
  cases o with
  | ok a g2 => exact fun W2 H2 e2 r2 => i a g2 W2 H2 rfl e2 r2 (h W2 H2 e2 r2)
  | ex c ds g2 => exact h
  | no => exact h
/-- the outcome is told at once -/
theorem Ok.now {α : Type} {a : α} {P : α → Gs → Wd → Hp → Prop} (r : RelG C W g H) (h : Ok C xf W g H (.ok a g) E P) : P a g W H := h W H .refl r
theorem Ok.opt {α : Type} {o : Option α} {g1 : Gs} {P : α → Gs → Wd → Hp → Prop} (h : Ok C xf W g H (Out.opt o g1) E P) : ∃ a, o = some a ∧ Ok C xf W g H (.ok a g1) E P := by
  cases o with
  | none => exact h.elim
  | some a => exact ⟨a, rfl, h⟩

/-! ### all that is tracked is as good as frozen, as long as nothing changes -/
abbrev atH (W : Wd) (H : Hp) : Wd := ⟨H, W.phi⟩
theorem RelG.rd {a : Addr} {u : HO} (r : RelG C W g H) (h : Rd W.F a u) : Rd H a u := by
  rcases h with h | ⟨o, h⟩
  · rcases r.le _ _ h with h | ⟨_, o, h⟩
    · exact .inl h
    · exact .inr ⟨o, h⟩
  · rcases r.le _ _ h with h | ⟨z, _⟩
    · exact .inr ⟨o, h⟩
    · exact z.elim
theorem RelG.sqL {a : Addr} {xs : List V} (r : RelG C W g H) (h : SqL C.K W.F a xs) : SqL C.K H a xs := h.imp r.rd id
theorem RelG.sqT {a : Addr} {xs : List V} (r : RelG C W g H) (h : SqT C.K W.F a xs) : SqT C.K H a xs := h.imp r.rd id
mutual
theorem RelG.rep (r : RelG C W g H) : ∀ (d : D) (v : V), Rep C W d v → Rep C (atH W H) d v
  | .non, _, h => h
  | .bl _, _, h => h
  | .int _, _, h => h
  | .str _, _, h => h
  | .tup xs, _, h => by
    rw [Rep.eq_5] at h ⊢
    obtain ⟨a, vs, e, h1, h2⟩ := h
    exact ⟨a, vs, e, r.sqT h1, RelG.repL r xs vs h2⟩
  | .lst xs, _, h => by
    rw [Rep.eq_6] at h ⊢
    obtain ⟨a, vs, e, h1, h2⟩ := h
    exact ⟨a, vs, e, r.rd h1, RelG.repL r xs vs h2⟩
  | .dct _ ks ds, _, h => by
    rw [Rep.eq_7] at h ⊢
    obtain ⟨a, kvs, e, h1, h2, h3, h5⟩ := h
    exact ⟨a, kvs, e, r.rd h1, h2, RelG.repL r ds _ h3, h5⟩
  | .ins c _ fs ds, _, h => by
    rw [Rep.eq_8] at h ⊢
    obtain ⟨a, A, dx, vs, e, h1, h2, h3, h4, h5⟩ := h
    refine ⟨a, A, dx, vs, e, h1, ?_, h3, RelG.repL r ds _ h4, h5⟩
    rcases r.le _ _ h2 with h | ⟨z, _⟩
    · exact h
    · exact z.elim
  | .glo n, _, h => by
    rw [Rep.eq_9] at h ⊢
    exact h
  | .fn f, _, h => by
    rw [Rep.eq_10] at h ⊢
    exact h
  | .kst xs, _, h => by
    rw [Rep.eq_11] at h ⊢
    obtain ⟨a, vs, e, h1, h2⟩ := h
    exact ⟨a, vs, e, r.sqL h1, RelG.repL r xs vs h2⟩
  | .kdc ks ds, _, h => by
    rw [Rep.eq_12] at h ⊢
    obtain ⟨a, vs, e, h1, h2⟩ := h
    exact ⟨a, vs, e, h1, RelG.repL r ds vs h2⟩
theorem RelG.repL (r : RelG C W g H) : ∀ (ds : List D) (vs : List V), RepL C W ds vs → RepL C (atH W H) ds vs
  | [], _, h => by
    rw [RepL.eq_1] at h ⊢
    exact h
  | d :: ds, _, h => by
    rw [RepL.eq_2] at h ⊢
    obtain ⟨v, r', e, h1, h2⟩ := h
    exact ⟨v, r', e, RelG.rep r d v h1, RelG.repL r ds r' h2⟩
end
/-- an operand: a value for good, or a list or dict of a slot's own as it stands now -/
def cellD : Cell → D
  | .lst xs => .lst xs
  | .dct ks ds => .dct 0 ks ds
  | .ins c fs ds => .ins c 0 fs ds
def Opd (C : Ct) (W : Wd) (H : Hp) (d : D) (v : V) : Prop :=
  Rep C W d v ∨ ∃ a c, v = .ref a ∧ CellAt C W H a c ∧ d = cellD c ∧ ∀ k fs ds, c ≠ .ins k fs ds
theorem Opd.of {d : D} {v : V} (h : Rep C W d v) : Opd C W H d v := .inl h
theorem Opd.tup {xs : List D} {v : V} (h : Opd C W H (.tup xs) v) : Rep C W (.tup xs) v := by
  rcases h with h | ⟨a, c, _, _, h, _⟩
  · exact h
  · cases c <;> cases h
theorem Opd.now (r : RelG C W g H) {d : D} {v : V} (h : Opd C W H d v) : Rep C (atH W H) d v := by
  rcases h with h | ⟨a, c, rfl, h, rfl, n⟩
  · exact r.rep _ _ h
  · cases c with
    | lst xs =>
      obtain ⟨vs, h1, h2⟩ := h
      show Rep C (atH W H) (.lst xs) (.ref a)
      rw [Rep.eq_6]
      exact ⟨a, vs, rfl, .inl h1, r.repL _ _ h2⟩
    | dct ks ds =>
      obtain ⟨kvs, h1, h2, h3⟩ := h
      show Rep C (atH W H) (.dct 0 ks ds) (.ref a)
      rw [Rep.eq_7]
      exact ⟨a, kvs, rfl, .inl h1, h2, r.repL _ _ h3, .inl rfl⟩
    | ins k fs ds => exact absurd rfl (n k fs ds)
theorem rep_int {i : Int} {v : V} (h : Rep C W (.int i) v) : v = .int i := h
theorem rep_str {i : Str} {v : V} (h : Rep C W (.str i) v) : v = .str i := h
theorem rep_tup {xs : List D} {v : V} (h : Rep C W (.tup xs) v) : ∃ a vs, v = .ref a ∧ SqT C.K W.F a vs ∧ RepL C W xs vs := by rw [Rep.eq_5] at h; exact h
theorem rep_lst {xs : List D} {v : V} (h : Rep C W (.lst xs) v) : ∃ a vs, v = .ref a ∧ Rd W.F a (.lst vs) ∧ RepL C W xs vs := by rw [Rep.eq_6] at h; exact h
theorem rep_kst {xs : List D} {v : V} (h : Rep C W (.kst xs) v) : ∃ a vs, v = .ref a ∧ SqL C.K W.F a vs ∧ RepL C W xs vs := by rw [Rep.eq_11] at h; exact h
theorem Opd.kst {xs : List D} {v : V} (h : Opd C W H (.kst xs) v) : Rep C W (.kst xs) v := by
  rcases h with h | ⟨a, c, _, _, h, _⟩
  · exact h
  · cases c <;> cases h
theorem rep_kdc {ks ds : List D} {v : V} (h : Rep C W (.kdc ks ds) v) : ∃ a us, v = .ref a ∧ KRows C.K C.wd a ks us ∧ RepL C W ds us := by rw [Rep.eq_12] at h; exact h
theorem Opd.kdc {ks ds : List D} {v : V} (h : Opd C W H (.kdc ks ds) v) : Rep C W (.kdc ks ds) v := by
  rcases h with h | ⟨a, c, _, _, h, _⟩
  · exact h
  · cases c <;> cases h
theorem rep_dct {i : Nat} {ks ds : List D} {v : V} (h : Rep C W (.dct i ks ds) v) : ∃ a kvs, v = .ref a ∧ Rd W.F a (.dK kvs) ∧ ks = kvs.map (fun p => kD p.1) ∧ RepL C W ds (kvs.map (·.2)) := by
  rw [Rep.eq_7] at h
  obtain ⟨a, kvs, e, h1, h2, h3, _⟩ := h
  exact ⟨a, kvs, e, h1, h2, h3⟩
theorem rep_dctI {i : Nat} {ks ds : List D} {v : V} (h : Rep C W (.dct i ks ds) v) : ∃ a, v = .ref a ∧ IdAt W i a := by
  rw [Rep.eq_7] at h
  obtain ⟨a, kvs, e, h1, h2, h3, h4⟩ := h
  exact ⟨a, e, h4⟩
theorem rep_insI {c i : Nat} {fs : List Nat} {ds : List D} {v : V} (h : Rep C W (.ins c i fs ds) v) : ∃ a, v = .ref a ∧ IdAt W i a := by
  rw [Rep.eq_8] at h
  obtain ⟨a, A, dx, vs, e, h1, h2, h3, h4, h5⟩ := h
  exact ⟨a, e, h5⟩
theorem rep_glo {n : Nat} {v : V} (h : Rep C W (.glo n) v) : ∃ a, W.phi n = some a ∧ v = .ref a := by rw [Rep.eq_9] at h; exact h
theorem rep_ins {c i : Nat} {fs : List Nat} {ds : List D} {v : V} (h : Rep C W (.ins c i fs ds) v) : ∃ a A dx vs, v = .ref a ∧ C.cA c = some A ∧ W.F a = some (.ins A dx ((fs.map C.fld).zip vs)) ∧ fs.length = ds.length ∧ RepL C W ds vs := by
  rw [Rep.eq_8] at h
  obtain ⟨a, A, dx, vs, e, h1, h2, h3, h4, _⟩ := h
  exact ⟨a, A, dx, vs, e, h1, h2, h3, h4⟩
theorem tup_rep {xs : List D} {a : Addr} {vs : List V} (h : SqT C.K W.F a vs) (r : RepL C W xs vs) : Rep C W (.tup xs) (.ref a) := by rw [Rep.eq_5]; exact ⟨a, vs, rfl, h, r⟩
theorem lst_rep {xs : List D} {a : Addr} {vs : List V} (h : Rd W.F a (.lst vs)) (r : RepL C W xs vs) : Rep C W (.lst xs) (.ref a) := by rw [Rep.eq_6]; exact ⟨a, vs, rfl, h, r⟩

/-! ### something new is laid -/
def Wd.put (W : Wd) (p : Addr) (o : HO) : Wd := ⟨upd W.F p o, W.phi⟩
theorem RelG.nf {p : Addr} (r : RelG C W g H) (h : H p = none) : W.F p = none := by
  cases q : W.F p with
  | none => rfl
  | some u =>
    rcases r.le p u q with z | ⟨_, o, z⟩
    · rw [h] at z; cases z
    · rw [h] at z; cases z
theorem RelG.notlive {p : Addr} (r : RelG C W g H) (h : H p = none) : ¬ Live W g p := fun ⟨n, _, e⟩ => r.there n p e h
theorem Wd.le_put {p : Addr} {o : HO} (h : W.F p = none) : W.Le (W.put p o) := ⟨fun a u e => by
  show upd W.F p o a = some u
  rw [upd_ne (ne_of_none e h)]
  exact e, fun _ _ e => e⟩
/-- a frozen one -/
theorem Ext.lay {p : Addr} {o : HO} (r : RelG C W g H) (h : H p = none) : Ext W H g (W.put p o) (upd H p o) g where
  le := Wd.le_put (r.nf h)
  Ff := fun a ha _ => upd_ne fun z => ha (by rw [z]; exact h)
  phif := fun n a e e' => by
    have e2 : W.phi n = some a := e'
    rw [e] at e2; cases e2
  keep := fun a ha _ => upd_ne fun z => ha (by rw [z]; exact h)
  there := fun a ha => by rw [upd_ne fun z => ha (by rw [z]; exact h)]; exact ha
  nx := Nat.le_refl _
  dead := fun _ _ e => e
theorem RelG.lay {p : Addr} {o : HO} (r : RelG C W g H) (h : H p = none) : RelG C (W.put p o) g (upd H p o) where
  le := fun a u e => by
    by_cases q : a = p
    · subst q
      have e2 : upd W.F a o a = some u := e
      rw [upd_same] at e2 ⊢
      exact .inl e2
    · have e2 : upd W.F p o a = some u := e
      rw [upd_ne q] at e2
      rw [upd_ne q]
      exact r.le a u e2
  cell := fun n c e => by
    obtain ⟨a, h1, h2, h3⟩ := r.cell n c e
    have q : a ≠ p := fun z => h3.some (by rw [z]; exact h)
    exact ⟨a, h1, by show upd W.F p o a = none; rw [upd_ne q]; exact h2, h3.le (Wd.le_put (r.nf h)) (upd_ne q)⟩
  inj := r.inj
  fresh := r.fresh
  there := fun n a e => by
    have := r.there n a e
    rw [upd_ne fun z => this (by rw [z]; exact h)]
    exact this
/-- one of somebody's own, not frozen -/
theorem Ext.own {p : Addr} {o : HO} (r : RelG C W g H) (h : H p = none) : Ext W H g W (upd H p o) g where
  le := .refl
  Ff := fun _ _ _ => rfl
  phif := fun n a e e' => by rw [e] at e'; cases e'
  keep := fun a ha _ => upd_ne fun z => ha (by rw [z]; exact h)
  there := fun a ha => by rw [upd_ne fun z => ha (by rw [z]; exact h)]; exact ha
  nx := Nat.le_refl _
  dead := fun _ _ e => e
theorem RelG.own {p : Addr} {o : HO} (r : RelG C W g H) (h : H p = none) : RelG C W g (upd H p o) where
  le := fun a u e => by
    have q : a ≠ p := fun z => by
      rw [z, r.nf h] at e
      cases e
    rw [upd_ne q]
    exact r.le a u e
  cell := fun n c e => by
    obtain ⟨a, h1, h2, h3⟩ := r.cell n c e
    exact ⟨a, h1, h2, h3.le .refl (upd_ne fun z => h3.some (by rw [z]; exact h))⟩
  inj := r.inj
  fresh := r.fresh
  there := fun n a e => by
    have := r.there n a e
    rw [upd_ne fun z => this (by rw [z]; exact h)]
    exact this
/-- a number for a thing that came since -/
def Wd.nam (W : Wd) (n : Nat) (a : Addr) : Wd := ⟨W.F, fun m => if m = n then some a else W.phi m⟩
theorem RelG.le_nam {n : Nat} {a : Addr} (r : RelG C W g H) (h : g.next ≤ n) : W.Le (W.nam n a) := ⟨fun _ _ h => h, fun m b e => by
  show (if m = n then some a else W.phi m) = some b
  rw [if_neg fun z => by rw [z, (r.fresh n h).2] at e; cases e]
  exact e⟩
theorem named {W0 : Wd} {g0 : Gs} {H0 : Hp} {a : Addr} (e : Ext W0 H0 g0 W H g) (r : RelG C W g H) (h0 : H0 a = none) (h1 : H a ≠ none) : Ext W0 H0 g0 (W.nam g.next a) H g.bump ∧ RelG C (W.nam g.next a) g.bump H := by
  have le := r.le_nam (n := g.next) (a := a) (Nat.le_refl _)
  have dead : g.cell g.next = none := (r.fresh g.next (Nat.le_refl _)).1
  have phio : ∀ m, m ≠ g.next → (W.nam g.next a).phi m = W.phi m := fun m q => if_neg q
  have phin : (W.nam g.next a).phi g.next = some a := if_pos rfl
  refine ⟨⟨e.le.trans le, e.Ff, fun n b k1 k2 => ?_, e.keep, e.there, Nat.le_succ_of_le e.nx, e.dead⟩, ⟨r.le, fun n c hc => ?_, fun n m b k1 k2 k3 k4 => ?_, fun n hn => ?_, fun n b k => ?_⟩⟩
  · by_cases q : n = g.next
    · rw [q, phin] at k2
      cases k2
      exact h0
    · rw [phio n q] at k2
      exact e.phif n b k1 k2
  · obtain ⟨b, k1, k2, k3⟩ := r.cell n c hc
    have q : n ≠ g.next := fun z => by
      have hc' : g.cell n = some c := hc
      rw [z, dead] at hc'
      cases hc'
    exact ⟨b, by rw [phio n q]; exact k1, k2, k3.le le rfl⟩
  · have q1 : n ≠ g.next := fun z => k1 (by rw [z]; exact dead)
    have q2 : m ≠ g.next := fun z => k2 (by rw [z]; exact dead)
    rw [phio n q1] at k3
    rw [phio m q2] at k4
    exact r.inj n m b k1 k2 k3 k4
  · have hn' : g.next + 1 ≤ n := hn
    rw [phio n (by omega)]
    exact r.fresh n (by omega)
  · by_cases q : n = g.next
    · rw [q, phin] at k
      cases k
      exact h1
    · rw [phio n q] at k
      exact r.there n b k
theorem nam_at {n : Nat} {a : Addr} : IdAt (W.nam n a) n a := .inr (if_pos rfl)
theorem put_same {p : Addr} {o : HO} : (W.put p o).F p = some o := upd_same
end
end VM

namespace VM
open PySem L2

theorem szM {n : Nat} (h : n ≤ sizeM) : n ≤ sizeLine := Nat.le_trans h (by decide)
theorem szM' {n : Nat} (h : n < sizeM) : n < sizeLine := Nat.lt_of_lt_of_le h (by decide)
section
variable {C : Ct} {W : Wd} {g : Gs} {H : Hp} {X : Cx}

/-! ### sequences as operands -/
theorem opd_int {i : Int} {v : V} (h : Opd C W H (.int i) v) : v = .int i := by
  rcases h with h | ⟨a, c, _, _, h, _⟩
  · exact h
  · cases c <;> cases h
theorem opd_str {i : Str} {v : V} (h : Opd C W H (.str i) v) : v = .str i := by
  rcases h with h | ⟨a, c, _, _, h, _⟩
  · exact h
  · cases c <;> cases h
theorem opd_non {v : V} (h : Opd C W H .non v) : v = .non := by
  rcases h with h | ⟨a, c, _, _, h, _⟩
  · exact h
  · cases c <;> cases h
theorem opd_bl {b : Bool} {v : V} (h : Opd C W H (.bl b) v) : v = .bl b := by
  rcases h with h | ⟨a, c, _, _, h, _⟩
  · exact h
  · cases c <;> cases h
theorem opd_lst (r : RelG C W g H) {xs : List D} {v : V} (h : Opd C W H (.lst xs) v) : ∃ a vs, v = .ref a ∧ Rd H a (.lst vs) ∧ RepL C W xs vs := by
  rcases h with h | ⟨a, c, rfl, h, e, _⟩
  · obtain ⟨a, vs, rfl, h1, h2⟩ := rep_lst h
    exact ⟨a, vs, rfl, r.rd h1, h2⟩
  · cases c with
    | lst ys =>
      cases e
      obtain ⟨vs, h1, h2⟩ := h
      exact ⟨a, vs, rfl, .inl h1, h2⟩
    | dct => cases e
    | ins => cases e
theorem opd_glo (r : RelG C W g H) {n : Nat} {v : V} (h : Opd C W H (.glo n) v) : ∃ a, W.phi n = some a ∧ v = .ref a := by
  rcases h with h | ⟨a, c, _, _, h, _⟩
  · exact rep_glo h
  · cases c <;> cases h
theorem glo_cell (r : RelG C W g H) {n : Nat} {v : V} {c : Cell} (h : Opd C W H (.glo n) v) (e : g.cell n = some c) : ∃ a, v = .ref a ∧ W.phi n = some a ∧ W.F a = none ∧ CellAt C W H a c := by
  obtain ⟨a, h1, rfl⟩ := opd_glo r h
  obtain ⟨b, h2, h3, h4⟩ := r.cell n c e
  rw [h1] at h2
  cases h2
  exact ⟨a, rfl, h1, h3, h4⟩
theorem seqL_ok (r : RelG C W g H) {d : D} {xs : List D} {v : V} (e : seqL g d = some xs) (h : Opd C W H d v) : ∃ a vs, v = .ref a ∧ Rd H a (.lst vs) ∧ RepL C W xs vs := by
  cases d with
  | lst ys => cases e; exact opd_lst r h
  | glo n =>
    simp only [seqL] at e
    cases q : g.cell n with
    | none => rw [q] at e; cases e
    | some c =>
      rw [q] at e
      cases c with
      | lst ys =>
        cases e
        obtain ⟨a, rfl, _, _, vs, h1, h2⟩ := glo_cell r h q
        exact ⟨a, vs, rfl, .inl h1, h2⟩
      | dct => cases e
      | ins => cases e
  | _ => cases e
theorem seqA_ok (r : RelG C W g H) {d : D} {xs : List D} {v : V} (e : seqA g d = some xs) (h : Opd C W H d v) : ∃ a vs, v = .ref a ∧ (SqL C.K H a vs ∨ SqT C.K H a vs) ∧ RepL C W xs vs := by
  have lst : seqL g d = some xs → ∃ a vs, v = .ref a ∧ (SqL C.K H a vs ∨ SqT C.K H a vs) ∧ RepL C W xs vs := fun e => by
    obtain ⟨a, vs, h1, h2, h3⟩ := seqL_ok r e h
    exact ⟨a, vs, h1, .inl (.inl h2), h3⟩
  cases d with
  | tup ys =>
    cases e
    obtain ⟨a, vs, rfl, h1, h2⟩ := rep_tup h.tup
    exact ⟨a, vs, rfl, .inr (r.sqT h1), h2⟩
  | kst ys =>
    cases e
    obtain ⟨a, vs, rfl, h1, h2⟩ := rep_kst h.kst
    exact ⟨a, vs, rfl, .inl (r.sqL h1), h2⟩
  | lst ys => exact lst e
  | glo n => exact lst e
  | _ => cases e

/-! ### list + list, list * int, where they stand to be read -/
theorem rd_list {pins : List (Addr × Obj)} {σ : St} {H : Hp} {s : Shared} (I : Inv X pins σ H s) {a : Addr} {xs : List V} (h : Rd H a (.lst xs)) : xs.length ≤ sizeLine ∧ ∃ (its : List Value) (n : Nat), Vals xs its ∧ xs.length = its.length ∧ s.heap.get? a = some { cls := .type "list", data := .seq its.toArray n } := by
  obtain ⟨z, its, n, r, e⟩ := h.ok I.hok
  exact ⟨z, its, n, r, r.length, e⟩
def rCatR : R2 := fun x y H Q => ∃ l b xs zs, x = .ref l ∧ y = .ref b ∧ Rd H l (.lst xs) ∧ Rd H b (.lst zs) ∧ xs.length + zs.length ≤ sizeLine ∧ ∀ p, H p = none → Q (.ref p) (upd H p (.lst (xs ++ zs)))
theorem op_catR : OpR X (binaryOp .Add) rCatR := by
  intro pins s σ H x y v u Q I rx ry h
  obtain ⟨l, b, xs, zs, rfl, rfl, hH, hB, hz, q⟩ := h
  cases rx
  cases ry
  obtain ⟨z, its, n, r, hl, e⟩ := rd_list I hH
  obtain ⟨z2, its2, n2, r2, hl2, e2⟩ := rd_list I hB
  refine PySem.P.add_list e e2 ?_ (by rw [List.size_toArray, List.size_toArray]; omega)
  have ea : its.toArray ++ its2.toArray = (its ++ its2).toArray := by simp
  rw [ea]
  exact ⟨.ref _, _, I.lnew (t' := s.toks) (r.append r2) (by rw [List.length_append]; omega), rfl, q _ I.fresh⟩

/-! ### a op b -/
def opOf : Bop → Operator
  | .add => .Add
  | .sub => .Sub
  | .mul => .Mult
  | .fdiv => .FloorDiv
  | .mod => .Mod
  | .pow => .Pow
  | .band => .BitAnd
/-- what follows a value that is new or old -/
abbrev Fin (C : Ct) (W : Wd) (g : Gs) (H : Hp) (d : D) (Q : VK) : Prop := ∀ W' H' w, Ext W H g W' H' g → RelG C W' g H' → Rep C W' d w → Q w H'
theorem Fin.now {d : D} {w : V} {Q : VK} (q : Fin C W g H d Q) (r : RelG C W g H) (h : Rep C W d w) : Q w H := q W H w .refl r h
theorem Fin.lst {xs : List D} {vs : List V} {p : Addr} {Q : VK} (q : Fin C W g H (.lst xs) Q) (r : RelG C W g H) (h : RepL C W xs vs) (hp : H p = none) : Q (.ref p) (upd H p (.lst vs)) :=
  q _ _ _ (Ext.lay r hp) (r.lay hp) (lst_rep (.inl put_same) (RepL.le (Wd.le_put (r.nf hp)) _ _ h))
theorem Fin.tup {xs : List D} {vs : List V} {p : Addr} {Q : VK} (q : Fin C W g H (.tup xs) Q) (r : RelG C W g H) (h : RepL C W xs vs) (hp : H p = none) : Q (.ref p) (upd H p (.tup vs)) :=
  q _ _ _ (Ext.lay r hp) (r.lay hp) (tup_rep (.inl (.inl put_same)) (RepL.le (Wd.le_put (r.nf hp)) _ _ h))
def BinS (C : Ct) (X : Cx) (g : Gs) (o : Bop) (x y d : D) : Prop := ∃ R : R2, OpR X (binaryOp (opOf o)) R ∧
  ∀ {W : Wd} {H : Hp} {u v : V} {Q : VK}, RelG C W g H → Opd C W H x u → Opd C W H y v → Fin C W g H d Q → R u v H Q
theorem rep_nil_iff {xs : List D} {vs : List V} (h : RepL C W xs vs) : vs = [] ↔ xs = [] := by
  have := h.length
  constructor
  · rintro rfl
    exact List.length_eq_zero_iff.mp this.symm
  · rintro rfl
    exact List.length_eq_zero_iff.mp this
theorem cat_lists (hK : X.K = C.K) {x y d : D} (e : (match seqL g x, seqL g y with
    | some x, some y => if x.length + y.length ≤ sizeM then some (D.lst (x ++ y)) else none
    | _, _ => none) = some d) : BinS C X g .add x y d := by
  cases ex : seqL g x with
  | none => rw [ex] at e; cases e
  | some xs =>
    cases ey : seqL g y with
    | none => rw [ex, ey] at e; cases e
    | some ys =>
      rw [ex, ey] at e
      have e2 : (if xs.length + ys.length ≤ sizeM then some (D.lst (xs ++ ys)) else none) = some d := e
      split at e2
      · rename_i hz
        cases e2
        refine ⟨rCatR, op_catR, fun {W H u v Q} r hx hy q => ?_⟩
        obtain ⟨a, vs, rfl, h1, h2⟩ := seqL_ok r ex hx
        obtain ⟨b, ws, rfl, h3, h4⟩ := seqL_ok r ey hy
        exact ⟨a, b, vs, ws, rfl, rfl, h1, h3, by rw [h2.length, h4.length]; exact szM hz, fun p hp => q.lst r (h2.append h4) hp⟩
      · cases e2
theorem str_app (a b : Str) : (⟨a.cps ++ b.cps⟩ : Str) = a ++ b := rfl
theorem bin_add (hK : X.K = C.K) {x y d : D} (e : binD g .add x y = some d) : BinS C X g .add x y d := by
  cases x with
  | int i => cases y with
    | int j =>
      cases e
      refine ⟨_, op_add, fun r hx hy q => ?_⟩
      rw [opd_int hx, opd_int hy]
      exact ⟨i, j, rfl, rfl, q.now r rfl⟩
    | _ => exact cat_lists hK e
  | str a => cases y with
    | str b =>
      have e2 : (if a.cps.size + b.cps.size ≤ sizeM then some (D.str ⟨a.cps ++ b.cps⟩) else none) = some d := e
      split at e2
      · rename_i hz
        cases e2
        refine ⟨_, op_add_str, fun r hx hy q => ?_⟩
        rw [opd_str hx, opd_str hy]
        exact ⟨a, b, rfl, rfl, szM hz, q.now r rfl⟩
      · cases e2
    | _ => exact cat_lists hK e
  | tup a => cases y with
    | tup b =>
      have e2 : (if a.length + b.length ≤ sizeM then some (D.tup (a ++ b)) else none) = some d := e
      split at e2
      · rename_i hz
        cases e2
        refine ⟨_, op_catA, fun r hx hy q => ?_⟩
        obtain ⟨p, vs, rfl, h1, h2⟩ := rep_tup hx.tup
        obtain ⟨p', ws, rfl, h3, h4⟩ := rep_tup hy.tup
        refine ⟨p, p', vs, ws, rfl, rfl, by rw [hK]; exact r.sqT h1, by rw [hK]; exact r.sqT h3, by rw [h2.length, h4.length]; exact szM hz, fun z => ?_, fun _ z => ?_, fun _ _ l hl => q.tup r (h2.append h4) hl⟩
        · rw [(rep_nil_iff h2).mp z] at q
          exact q.now r hy.tup
        · rw [(rep_nil_iff h4).mp z, List.append_nil] at q
          exact q.now r hx.tup
      · cases e2
    | _ => exact cat_lists hK e
  | _ => exact cat_lists hK e
end
end VM

namespace VM
open PySem L2 SeqAt
section
variable {C : Ct} {W : Wd} {g : Gs} {H : Hp} {X : Cx}

/-! ### == of data -/
theorem isZ_if (b : Bool) : isZ b = if b then 1 else 0 := by cases b <;> rfl
theorem all_range (f : Nat → Bool) : ∀ n, (List.range n).all f = true ↔ ∀ i, i < n → f i = true := fun n => by
  rw [List.all_eq_true]
  constructor
  · exact fun h i hi => h i (List.mem_range.mpr hi)
  · exact fun h i hi => h i (List.mem_range.mp hi)
/-- the outcomes of the items -/
def hit (f : D → D → Option Bool) (xs ys : List D) (j : Nat) : Bool := match xs[j]?, ys[j]? with
  | some x, some y => (f x y).getD false
  | _, _ => false
theorem eqItems_hits {f : D → D → Option Bool} : ∀ {xs ys : List D} {b : Bool}, eqItems f xs ys = some b → (b = ((List.range (min xs.length ys.length)).all (hit f xs ys) && xs.length == ys.length)) ∧ ∀ j x y, xs[j]? = some x → ys[j]? = some y → ∃ c, f x y = some c ∧ hit f xs ys j = c
  | [], [], b, h => by
    cases h
    exact ⟨rfl, fun j x y e => by simp at e⟩
  | [], _ :: _, b, h => by
    cases h
    exact ⟨by simp, fun j x y e => by simp at e⟩
  | _ :: _, [], b, h => by
    cases h
    exact ⟨by simp, fun j x y _ e => by simp at e⟩
  | x :: xs, y :: ys, b, h => by
    have h2 : (match f x y with
      | none => none
      | some a => match eqItems f xs ys with
        | none => none
        | some b => some (a && b)) = some b := h
    cases hf : f x y with
    | none => rw [hf] at h2; cases h2
    | some a =>
      rw [hf] at h2
      cases hr : eqItems f xs ys with
      | none => rw [hr] at h2; cases h2
      | some c =>
        rw [hr] at h2
        cases h2
        obtain ⟨e1, e2⟩ := eqItems_hits hr
        have h0 : hit f (x :: xs) (y :: ys) 0 = a := by simp [hit, hf]
        have hs : ∀ j, hit f (x :: xs) (y :: ys) (j + 1) = hit f xs ys j := fun j => by simp [hit]
        refine ⟨?_, fun j u v eu ev => ?_⟩
        · rw [e1]
          have em : min (x :: xs).length (y :: ys).length = min xs.length ys.length + 1 := by simp only [List.length_cons]; omega
          rw [em, List.range_succ_eq_map, List.all_cons, h0, List.all_map]
          have : (hit f (x :: xs) (y :: ys) ∘ Nat.succ) = hit f xs ys := funext hs
          rw [this, Bool.and_assoc]
          congr 2
          simp
        · cases j with
          | zero =>
            simp at eu ev
            subst eu ev
            exact ⟨a, hf, h0⟩
          | succ j =>
            obtain ⟨c', q1, q2⟩ := e2 j u v (by simpa using eu) (by simpa using ev)
            exact ⟨c', q1, (hs j).trans q2⟩
theorem rep_bl {b : Bool} {v : V} (h : Rep C W (.bl b) v) : v = .bl b := h
theorem rep_non {v : V} (h : Rep C W .non v) : v = .non := h
section
variable {pins : List (Addr × Obj)} {σ : St} {s : Shared}
theorem plain_list {a : Addr} {vs : List V} (hK : X.K = C.K) (I : Inv X pins σ H s) (h : Rd H a (.lst vs)) : ∃ its : List Value, Vals vs its ∧ s.heap.IsList a its.toArray := by
  obtain ⟨its, r, p, _⟩ := I.list (.inl h)
  exact ⟨its, r, p.isList⟩
theorem plain_tup {a : Addr} {vs : List V} (hK : X.K = C.K) (I : Inv X pins σ H s) (h : SqT C.K H a vs) : ∃ its : List Value, Vals vs its ∧ s.heap.IsTuple a its.toArray := by
  obtain ⟨its, r, p, _⟩ := I.tuple (by rw [hK]; exact h)
  exact ⟨its, r, p⟩
theorem vals_item {vs : List V} {its : List Value} (r : Vals vs its) {j : Nat} (h : j < its.toArray.size) : ∃ v, vs[j]? = some v ∧ RelV v its.toArray[j] := by
  have hj : j < vs.length := by rw [r.length]; simpa using h
  obtain ⟨u, hu, ru⟩ := r.get (i := j) (List.getElem?_eq_getElem hj)
  refine ⟨vs[j], List.getElem?_eq_getElem hj, ?_⟩
  have e : its.toArray[j] = u := by
    have e1 : its[j]? = some (its.toArray[j]) := by simp
    rw [hu] at e1
    exact (Option.some.inj e1).symm
  rw [e]
  exact ru
/-- one and the same value -/
theorem eqLeaf_same {x y : D} {v : V} {b : Bool} (e : eqLeaf x y = some b) (hx : Rep C W x v) (hy : Rep C W y v) : b = true := by
  cases x with
  | non =>
    cases rep_non hx
    cases y with
    | non => cases e; rfl
    | bl c => cases rep_bl hy
    | int c => cases rep_int hy
    | str c => cases rep_str hy
    | tup c => obtain ⟨_, _, q, _⟩ := rep_tup hy; cases q
    | lst c => obtain ⟨_, _, q, _⟩ := rep_lst hy; cases q
    | _ => cases e
  | bl c0 =>
    cases rep_bl hx
    cases y with
    | non => cases rep_non hy
    | bl c => cases rep_bl hy; cases e; simp
    | int c => cases rep_int hy
    | str c => cases rep_str hy
    | tup c => obtain ⟨_, _, q, _⟩ := rep_tup hy; cases q
    | lst c => obtain ⟨_, _, q, _⟩ := rep_lst hy; cases q
    | _ => cases e
  | int c0 =>
    cases rep_int hx
    cases y with
    | non => cases rep_non hy
    | bl c => cases rep_bl hy
    | int c => cases rep_int hy; cases e; simp
    | str c => cases rep_str hy
    | tup c => obtain ⟨_, _, q, _⟩ := rep_tup hy; cases q
    | lst c => obtain ⟨_, _, q, _⟩ := rep_lst hy; cases q
    | _ => cases e
  | str c0 =>
    cases rep_str hx
    cases y with
    | non => cases rep_non hy
    | bl c => cases rep_bl hy
    | int c => cases rep_int hy
    | str c => cases rep_str hy; cases e; simp
    | tup c => obtain ⟨_, _, q, _⟩ := rep_tup hy; cases q
    | lst c => obtain ⟨_, _, q, _⟩ := rep_lst hy; cases q
    | _ => cases e
  | _ => cases e
theorem eqItems_same {f : D → D → Option Bool} (ih : ∀ x y v b, f x y = some b → Rep C W x v → Rep C W y v → b = true) : ∀ {xs ys : List D} {vs : List V} {b : Bool}, eqItems f xs ys = some b → RepL C W xs vs → RepL C W ys vs → b = true
  | [], [], _, _, e, _, _ => by cases e; rfl
  | [], _ :: _, _, _, _, h1, h2 => by
    cases h1.nil_eq
    obtain ⟨_, _, q, _⟩ := h2.uncons
    cases q
  | _ :: _, [], _, _, _, h1, h2 => by
    cases h2.nil_eq
    obtain ⟨_, _, q, _⟩ := h1.uncons
    cases q
  | x :: xs, y :: ys, vs, b, e, h1, h2 => by
    obtain ⟨v, r, rfl, a1, b1⟩ := h1.uncons
    obtain ⟨v', r', q, a2, b2⟩ := h2.uncons
    cases q
    have e2 : (match f x y with
      | none => none
      | some a => match eqItems f xs ys with
        | none => none
        | some b => some (a && b)) = some b := e
    cases hf : f x y with
    | none => rw [hf] at e2; cases e2
    | some a =>
      rw [hf] at e2
      cases hr : eqItems f xs ys with
      | none => rw [hr] at e2; cases e2
      | some c =>
        rw [hr] at e2
        cases e2
        rw [ih x y v a hf a1 a2, eqItems_same ih hr b1 b2]
        rfl
theorem sameI_ref {x y : D} {u v : V} (e : sameI x y = true) (hx : Rep C W x u) (hy : Rep C W y v) : ∃ a, u = .ref a ∧ v = .ref a := by
  have fin : ∀ {i j : Nat} {a b : Addr}, (i == j && i != 0) = true → IdAt W i a → IdAt W j b → a = b := fun {i j a b} h h1 h2 => by
    rw [Bool.and_eq_true, beq_iff_eq, bne_iff_ne] at h
    obtain ⟨rfl, h⟩ := h
    have e1 := h1.resolve_left h
    rw [h2.resolve_left h] at e1
    exact (Option.some.inj e1).symm
  cases x with
  | ins c i fs ds =>
    cases y with
    | ins c' j fs' ds' =>
      obtain ⟨a, rfl, h1⟩ := rep_insI hx
      obtain ⟨b, rfl, h2⟩ := rep_insI hy
      exact ⟨a, rfl, by rw [fin e h1 h2]⟩
    | _ => cases e
  | dct i fs ds =>
    cases y with
    | dct j fs' ds' =>
      obtain ⟨a, rfl, h1⟩ := rep_dctI hx
      obtain ⟨b, rfl, h2⟩ := rep_dctI hy
      exact ⟨a, rfl, by rw [fin e h1 h2]⟩
    | _ => cases e
  | _ => cases e
theorem eqI_same {f : D → D → Option Bool} (ih : ∀ x y v b, f x y = some b → Rep C W x v → Rep C W y v → b = true) : ∀ x y v b, eqI f x y = some b → Rep C W x v → Rep C W y v → b = true := fun x y v b e hx hy => by
  unfold eqI at e
  split at e
  · cases e; rfl
  · exact ih x y v b e hx hy
theorem eqI_at {f : D → D → Option Bool} {x y : D} {b : Bool} {A : Around} {u v : V} {uu vv : Value} (e : eqI f x y = some b) (hx : Rep C W x u) (hy : Rep C W y v) (ru : RelV u uu) (rv : RelV v vv) (h : f x y = some b → EqAt A s uu vv b) : EqAt A s uu vv b := by
  unfold eqI at e
  split at e
  · rename_i hs
    cases e
    obtain ⟨a, rfl, rfl⟩ := sameI_ref hs hx hy
    cases ru
    cases rv
    exact .same _
  · exact h e
theorem list_tup_apart {a : Addr} {vs ws : List V} (hK : X.K = C.K) (I : Inv X pins σ H s) (h : Rd H a (.lst vs)) (h2 : SqT C.K H a ws) : False := by
  obtain ⟨_, _, ⟨o, n, e, c, _, _⟩, _⟩ := I.list (.inl h)
  obtain ⟨_, _, ⟨o', e', c', _⟩, _⟩ := I.tuple (by rw [hK]; exact h2)
  rw [e] at e'
  cases e'
  rw [c] at c'
  injection c' with c'
  exact absurd c' (by decide)
theorem eqD_same (hK : X.K = C.K) (I : Inv X pins σ H s) : ∀ (n : Nat) (x y : D) (v : V) (b : Bool), eqD n x y = some b → Rep C (atH W H) x v → Rep C (atH W H) y v → b = true := by
  intro n
  induction n with
  | zero => exact fun x y v b e => eqLeaf_same e
  | succ n ih =>
    intro x y v b e hx hy
    cases x with
    | tup xs =>
      obtain ⟨a, vs, rfl, h1, h2⟩ := rep_tup hx
      cases y with
      | tup ys =>
        obtain ⟨a', ws, q, h3, h4⟩ := rep_tup hy
        cases q
        cases I.tuple_inj (by rw [hK]; exact h1) (by rw [hK]; exact h3)
        exact eqItems_same (f := eqI (eqD n)) (eqI_same ih) e h2 h4
      | lst ys =>
        obtain ⟨a', ws, q, h3, h4⟩ := rep_lst hy
        cases q
        exact (list_tup_apart hK I h3 h1).elim
      | non => cases rep_non hy
      | bl c => cases rep_bl hy
      | int c => cases rep_int hy
      | str c => cases rep_str hy
      | _ => cases e
    | lst xs =>
      obtain ⟨a, vs, rfl, h1, h2⟩ := rep_lst hx
      cases y with
      | lst ys =>
        obtain ⟨a', ws, q, h3, h4⟩ := rep_lst hy
        cases q
        cases I.list_inj (.inl h1) (.inl h3)
        have e2 : (if xs.length = ys.length then eqItems (eqI (eqD n)) xs ys else some false) = some b := e
        rw [if_pos (by rw [← h2.length, ← h4.length])] at e2
        exact eqItems_same (f := eqI (eqD n)) (eqI_same ih) e2 h2 h4
      | tup ys =>
        obtain ⟨a', ws, q, h3, h4⟩ := rep_tup hy
        cases q
        exact (list_tup_apart hK I h1 h3).elim
      | non => cases rep_non hy
      | bl c => cases rep_bl hy
      | int c => cases rep_int hy
      | str c => cases rep_str hy
      | _ => cases e
    | non => exact eqLeaf_same (x := .non) e hx hy
    | bl c => exact eqLeaf_same (x := .bl c) e hx hy
    | int c => exact eqLeaf_same (x := .int c) e hx hy
    | str c => exact eqLeaf_same (x := .str c) e hx hy
    | _ => cases e
theorem eqLeaf_at (hK : X.K = C.K) (I : Inv X pins σ H s) (x y : D) (b : Bool) (A : Around) (u v : V) (uu vv : Value) (e : eqLeaf x y = some b) (hx : Rep C (atH W H) x u) (hy : Rep C (atH W H) y v) (ru : RelV u uu) (rv : RelV v vv) (hu : A.units < cLine) : EqAt A s uu vv b := by
  cases x with
  | non =>
    cases rep_non hx; cases ru
    cases y with
    | non => cases e; cases rep_non hy; cases rv; exact .same _
    | bl c => cases e; cases rep_bl hy; cases rv; exact .none_bool _
    | int i => cases e; cases rep_int hy; obtain ⟨t, rfl⟩ := rv; exact .none_int _ _
    | str z => cases e; cases rep_str hy; obtain ⟨t, rfl⟩ := rv; exact .none_str _ _
    | tup ys => cases e; obtain ⟨a, vs, rfl, h1, _⟩ := rep_tup hy; cases rv; obtain ⟨its, _, p⟩ := plain_tup hK I h1; exact .none_tuple p hu
    | lst ys => cases e; obtain ⟨a, vs, rfl, h1, _⟩ := rep_lst hy; cases rv; obtain ⟨its, _, p⟩ := plain_list hK I h1; exact .none_list p hu
    | _ => cases e
  | bl c0 =>
    cases rep_bl hx; cases ru
    cases y with
    | non => cases e; cases rep_non hy; cases rv; exact .bool_none _
    | bl c => cases e; cases rep_bl hy; cases rv; exact .bool_bool _ _
    | int i => cases e; cases rep_int hy; obtain ⟨t, rfl⟩ := rv; rw [isZ_if]; exact .bool_int _ _ _
    | str z => cases e; cases rep_str hy; obtain ⟨t, rfl⟩ := rv; exact .bool_str _ _ _
    | tup ys => cases e; obtain ⟨a, vs, rfl, h1, _⟩ := rep_tup hy; cases rv; obtain ⟨its, _, p⟩ := plain_tup hK I h1; exact .bool_tuple _ p hu
    | lst ys => cases e; obtain ⟨a, vs, rfl, h1, _⟩ := rep_lst hy; cases rv; obtain ⟨its, _, p⟩ := plain_list hK I h1; exact .bool_list _ p hu
    | _ => cases e
  | int i0 =>
    cases rep_int hx; obtain ⟨t0, rfl⟩ := ru
    cases y with
    | non => cases e; cases rep_non hy; cases rv; exact .int_none _ _
    | bl c => cases e; cases rep_bl hy; cases rv; rw [isZ_if]; exact .int_bool _ _ _
    | int i => cases e; cases rep_int hy; obtain ⟨t, rfl⟩ := rv; exact .int_int _ _ _ _
    | str z => cases e; cases rep_str hy; obtain ⟨t, rfl⟩ := rv; exact .int_str _ _ _ _
    | tup ys => cases e; obtain ⟨a, vs, rfl, h1, _⟩ := rep_tup hy; cases rv; obtain ⟨its, _, p⟩ := plain_tup hK I h1; exact .int_tuple _ _ p hu
    | lst ys => cases e; obtain ⟨a, vs, rfl, h1, _⟩ := rep_lst hy; cases rv; obtain ⟨its, _, p⟩ := plain_list hK I h1; exact .int_list _ _ p hu
    | _ => cases e
  | str z0 =>
    cases rep_str hx; obtain ⟨t0, rfl⟩ := ru
    cases y with
    | non => cases e; cases rep_non hy; cases rv; exact .str_none _ _
    | bl c => cases e; cases rep_bl hy; cases rv; exact .str_bool _ _ _
    | int i => cases e; cases rep_int hy; obtain ⟨t, rfl⟩ := rv; exact .str_int _ _ _ _
    | str z => cases e; cases rep_str hy; obtain ⟨t, rfl⟩ := rv; exact .str_str _ _ _ _
    | tup ys => cases e; obtain ⟨a, vs, rfl, h1, _⟩ := rep_tup hy; cases rv; obtain ⟨its, _, p⟩ := plain_tup hK I h1; exact .str_tuple _ _ p hu
    | lst ys => cases e; obtain ⟨a, vs, rfl, h1, _⟩ := rep_lst hy; cases rv; obtain ⟨its, _, p⟩ := plain_list hK I h1; exact .str_list _ _ p hu
    | _ => cases e
  | _ => cases e
theorem eqD_at (hK : X.K = C.K) (I : Inv X pins σ H s) : ∀ (n : Nat) (x y : D) (b : Bool) (A : Around) (u v : V) (uu vv : Value), eqD n x y = some b → Rep C (atH W H) x u → Rep C (atH W H) y v → RelV u uu → RelV v vv → A.units + n < cLine → EqAt A s uu vv b := by
  intro n
  induction n with
  | zero =>
    intro x y b A u v uu vv e hx hy ru rv hu
    exact eqLeaf_at hK I x y b A u v uu vv e hx hy ru rv hu
  | succ n ih =>
    intro x y b A u v uu vv e hx hy ru rv hu0
    have hu : A.units < cLine := by omega
    have hu1 : A.in1.units + n < cLine := by show A.units + 1 + n < cLine; omega
    have items : ∀ {xs ys : List D} {vs ws : List V} {i1 i2 : List Value} {c : Bool}, eqItems (eqI (eqD n)) xs ys = some c → RepL C (atH W H) xs vs → RepL C (atH W H) ys ws → Vals vs i1 → Vals ws i2 →
        (i1.toArray.size = xs.length ∧ i2.toArray.size = ys.length) ∧ ∀ j (h1 : j < i1.toArray.size) (h2 : j < i2.toArray.size), EqAt A.in1 s i1.toArray[j] i2.toArray[j] (hit (eqI (eqD n)) xs ys j) := by
      intro xs ys vs ws i1 i2 c ei r1 r2 v1 v2
      have l1 : i1.toArray.size = xs.length := by rw [List.size_toArray, ← v1.length, r1.length]
      have l2 : i2.toArray.size = ys.length := by rw [List.size_toArray, ← v2.length, r2.length]
      refine ⟨⟨l1, l2⟩, fun j h1 h2 => ?_⟩
      obtain ⟨v', e1, q1⟩ := vals_item v1 h1
      obtain ⟨w', e2, q2⟩ := vals_item v2 h2
      obtain ⟨x', e3, q3⟩ := r1.getV e1
      obtain ⟨y', e4, q4⟩ := r2.getV e2
      obtain ⟨c', e5, e6⟩ := (eqItems_hits ei).2 j x' y' e3 e4
      rw [e6]
      exact eqI_at e5 q3 q4 q1 q2 fun e5 => ih x' y' c' A.in1 v' w' _ _ e5 q3 q4 q1 q2 hu1
    cases x with
    | tup xs =>
      obtain ⟨a, vs, rfl, h1, h2⟩ := rep_tup hx
      cases ru
      obtain ⟨i1, r1, p1⟩ := plain_tup hK I h1
      cases y with
      | non => cases e; cases rep_non hy; cases rv; exact .tuple_none p1 hu
      | bl c => cases e; cases rep_bl hy; cases rv; exact .tuple_bool _ p1 hu
      | int i => cases e; cases rep_int hy; obtain ⟨t, rfl⟩ := rv; exact .tuple_int _ _ p1 hu
      | str z => cases e; cases rep_str hy; obtain ⟨t, rfl⟩ := rv; exact .tuple_str _ _ p1 hu
      | tup ys =>
        obtain ⟨a2, ws, rfl, h3, h4⟩ := rep_tup hy
        cases rv
        obtain ⟨i2, r2, p2⟩ := plain_tup hK I h3
        have e2 : eqItems (eqI (eqD n)) xs ys = some b := e
        obtain ⟨⟨l1, l2⟩, it⟩ := items e2 h2 h4 r1 r2
        have q : RcAt A s (.ref a) (.ref a2) b := by
          have := RcAt.tuples p1 p2 hu it
          rw [l1, l2, ← (eqItems_hits e2).1] at this
          exact this
        by_cases z : a = a2
        · subst z
          rw [eqD_same hK I (n + 1) (.tup xs) (.tup ys) (.ref a) b e hx hy]
          exact .same _
        · exact .of_refs z q
      | lst ys => cases e; obtain ⟨a2, ws, rfl, h3, _⟩ := rep_lst hy; cases rv; obtain ⟨i2, _, p2⟩ := plain_list hK I h3; exact .tuple_list p1 p2 hu
      | _ => cases e
    | lst xs =>
      obtain ⟨a, vs, rfl, h1, h2⟩ := rep_lst hx
      cases ru
      obtain ⟨i1, r1, p1⟩ := plain_list hK I h1
      cases y with
      | non => cases e; cases rep_non hy; cases rv; exact .list_none p1 hu
      | bl c => cases e; cases rep_bl hy; cases rv; exact .list_bool _ p1 hu
      | int i => cases e; cases rep_int hy; obtain ⟨t, rfl⟩ := rv; exact .list_int _ _ p1 hu
      | str z => cases e; cases rep_str hy; obtain ⟨t, rfl⟩ := rv; exact .list_str _ _ p1 hu
      | tup ys => cases e; obtain ⟨a2, ws, rfl, h3, _⟩ := rep_tup hy; cases rv; obtain ⟨i2, _, p2⟩ := plain_tup hK I h3; exact .list_tuple p1 p2 hu
      | lst ys =>
        obtain ⟨a2, ws, rfl, h3, h4⟩ := rep_lst hy
        cases rv
        obtain ⟨i2, r2, p2⟩ := plain_list hK I h3
        have e2 : (if xs.length = ys.length then eqItems (eqI (eqD n)) xs ys else some false) = some b := e
        have q : RcAt A s (.ref a) (.ref a2) b := by
          have l1 : i1.toArray.size = xs.length := by rw [List.size_toArray, ← r1.length, h2.length]
          have l2 : i2.toArray.size = ys.length := by rw [List.size_toArray, ← r2.length, h4.length]
          split at e2
          · rename_i hl
            obtain ⟨_, it⟩ := items e2 h2 h4 r1 r2
            have := RcAt.lists p1 p2 (by rw [l1, l2, hl]) hu it
            rw [l1] at this
            have eb := (eqItems_hits e2).1
            rw [hl, Nat.min_self, beq_self_eq_true, Bool.and_true] at eb
            rw [eb, ← hl]
            exact this
          · rename_i hl
            cases e2
            exact RcAt.lists_lengths p1 p2 (by rw [l1, l2]; simpa using hl) hu
        by_cases z : a = a2
        · subst z
          rw [eqD_same hK I (n + 1) (.lst xs) (.lst ys) (.ref a) b e hx hy]
          exact .same _
        · exact .of_refs z q
      | _ => cases e
    | non => exact eqLeaf_at hK I .non y b A u v uu vv e hx hy ru rv hu
    | bl c => exact eqLeaf_at hK I (.bl c) y b A u v uu vv e hx hy ru rv hu
    | int c => exact eqLeaf_at hK I (.int c) y b A u v uu vv e hx hy ru rv hu
    | str c => exact eqLeaf_at hK I (.str c) y b A u v uu vv e hx hy ru rv hu
    | _ => cases e
theorem rcLeaf_at (hK : X.K = C.K) (I : Inv X pins σ H s) (x y : D) (b : Bool) (A : Around) (u v : V) (uu vv : Value) (e : eqLeaf x y = some b) (hx : Rep C (atH W H) x u) (hy : Rep C (atH W H) y v) (ru : RelV u uu) (rv : RelV v vv) (hu : A.units < cLine) : RcAt A s uu vv b := by
  cases x with
  | non =>
    cases rep_non hx; cases ru
    cases y with
    | non => cases e; cases rep_non hy; cases rv; exact .none_none
    | bl c => cases e; cases rep_bl hy; cases rv; exact .none_bool _
    | int i => cases e; cases rep_int hy; obtain ⟨t, rfl⟩ := rv; exact .none_int _ _
    | str z => cases e; cases rep_str hy; obtain ⟨t, rfl⟩ := rv; exact .none_str _ _
    | tup ys => cases e; obtain ⟨a, vs, rfl, h1, _⟩ := rep_tup hy; cases rv; obtain ⟨its, _, p⟩ := plain_tup hK I h1; exact .none_tuple p hu
    | lst ys => cases e; obtain ⟨a, vs, rfl, h1, _⟩ := rep_lst hy; cases rv; obtain ⟨its, _, p⟩ := plain_list hK I h1; exact .none_list p hu
    | _ => cases e
  | bl c0 =>
    cases rep_bl hx; cases ru
    cases y with
    | non => cases e; cases rep_non hy; cases rv; exact .bool_none _
    | bl c => cases e; cases rep_bl hy; cases rv; exact .bool_bool _ _
    | int i => cases e; cases rep_int hy; obtain ⟨t, rfl⟩ := rv; rw [isZ_if]; exact .bool_int _ _ _
    | str z => cases e; cases rep_str hy; obtain ⟨t, rfl⟩ := rv; exact .bool_str _ _ _
    | tup ys => cases e; obtain ⟨a, vs, rfl, h1, _⟩ := rep_tup hy; cases rv; obtain ⟨its, _, p⟩ := plain_tup hK I h1; exact .bool_tuple _ p hu
    | lst ys => cases e; obtain ⟨a, vs, rfl, h1, _⟩ := rep_lst hy; cases rv; obtain ⟨its, _, p⟩ := plain_list hK I h1; exact .bool_list _ p hu
    | _ => cases e
  | int i0 =>
    cases rep_int hx; obtain ⟨t0, rfl⟩ := ru
    cases y with
    | non => cases e; cases rep_non hy; cases rv; exact .int_none _ _
    | bl c => cases e; cases rep_bl hy; cases rv; rw [isZ_if]; exact .int_bool _ _ _
    | int i => cases e; cases rep_int hy; obtain ⟨t, rfl⟩ := rv; exact .int_int _ _ _ _
    | str z => cases e; cases rep_str hy; obtain ⟨t, rfl⟩ := rv; exact .int_str _ _ _ _
    | tup ys => cases e; obtain ⟨a, vs, rfl, h1, _⟩ := rep_tup hy; cases rv; obtain ⟨its, _, p⟩ := plain_tup hK I h1; exact .int_tuple _ _ p hu
    | lst ys => cases e; obtain ⟨a, vs, rfl, h1, _⟩ := rep_lst hy; cases rv; obtain ⟨its, _, p⟩ := plain_list hK I h1; exact .int_list _ _ p hu
    | _ => cases e
  | str z0 =>
    cases rep_str hx; obtain ⟨t0, rfl⟩ := ru
    cases y with
    | non => cases e; cases rep_non hy; cases rv; exact .str_none _ _
    | bl c => cases e; cases rep_bl hy; cases rv; exact .str_bool _ _ _
    | int i => cases e; cases rep_int hy; obtain ⟨t, rfl⟩ := rv; exact .str_int _ _ _ _
    | str z => cases e; cases rep_str hy; obtain ⟨t, rfl⟩ := rv; exact .str_str _ _ _ _
    | tup ys => cases e; obtain ⟨a, vs, rfl, h1, _⟩ := rep_tup hy; cases rv; obtain ⟨its, _, p⟩ := plain_tup hK I h1; exact .str_tuple _ _ p hu
    | lst ys => cases e; obtain ⟨a, vs, rfl, h1, _⟩ := rep_lst hy; cases rv; obtain ⟨its, _, p⟩ := plain_list hK I h1; exact .str_list _ _ p hu
    | _ => cases e
  | _ => cases e
theorem rcD_at (hK : X.K = C.K) (I : Inv X pins σ H s) (n : Nat) (x y : D) (b : Bool) (A : Around) (u v : V) (uu vv : Value) (e : eqD (n + 1) x y = some b) (hx : Rep C (atH W H) x u) (hy : Rep C (atH W H) y v) (ru : RelV u uu) (rv : RelV v vv) (hu0 : A.units + (n + 1) < cLine) : RcAt A s uu vv b := by
  have hu : A.units < cLine := by omega
  have hu1 : A.in1.units + n < cLine := by show A.units + 1 + n < cLine; omega
  have items : ∀ {xs ys : List D} {vs ws : List V} {i1 i2 : List Value} {c : Bool}, eqItems (eqI (eqD n)) xs ys = some c → RepL C (atH W H) xs vs → RepL C (atH W H) ys ws → Vals vs i1 → Vals ws i2 →
      (i1.toArray.size = xs.length ∧ i2.toArray.size = ys.length) ∧ ∀ j (h1 : j < i1.toArray.size) (h2 : j < i2.toArray.size), EqAt A.in1 s i1.toArray[j] i2.toArray[j] (hit (eqI (eqD n)) xs ys j) := by
    intro xs ys vs ws i1 i2 c ei r1 r2 v1 v2
    have l1 : i1.toArray.size = xs.length := by rw [List.size_toArray, ← v1.length, r1.length]
    have l2 : i2.toArray.size = ys.length := by rw [List.size_toArray, ← v2.length, r2.length]
    refine ⟨⟨l1, l2⟩, fun j h1 h2 => ?_⟩
    obtain ⟨v', e1, q1⟩ := vals_item v1 h1
    obtain ⟨w', e2, q2⟩ := vals_item v2 h2
    obtain ⟨x', e3, q3⟩ := r1.getV e1
    obtain ⟨y', e4, q4⟩ := r2.getV e2
    obtain ⟨c', e5, e6⟩ := (eqItems_hits ei).2 j x' y' e3 e4
    rw [e6]
    exact eqI_at e5 q3 q4 q1 q2 fun e5 => eqD_at hK I n x' y' c' A.in1 v' w' _ _ e5 q3 q4 q1 q2 hu1
  cases x with
  | tup xs =>
    obtain ⟨a, vs, rfl, h1, h2⟩ := rep_tup hx
    cases ru
    obtain ⟨i1, r1, p1⟩ := plain_tup hK I h1
    cases y with
    | non => cases e; cases rep_non hy; cases rv; exact .tuple_none p1 hu
    | bl c => cases e; cases rep_bl hy; cases rv; exact .tuple_bool _ p1 hu
    | int i => cases e; cases rep_int hy; obtain ⟨t, rfl⟩ := rv; exact .tuple_int _ _ p1 hu
    | str z => cases e; cases rep_str hy; obtain ⟨t, rfl⟩ := rv; exact .tuple_str _ _ p1 hu
    | tup ys =>
      obtain ⟨a2, ws, rfl, h3, h4⟩ := rep_tup hy
      cases rv
      obtain ⟨i2, r2, p2⟩ := plain_tup hK I h3
      have e2 : eqItems (eqI (eqD n)) xs ys = some b := e
      obtain ⟨⟨l1, l2⟩, it⟩ := items e2 h2 h4 r1 r2
      have q : RcAt A s (.ref a) (.ref a2) b := by
        have := RcAt.tuples p1 p2 hu it
        rw [l1, l2, ← (eqItems_hits e2).1] at this
        exact this
      exact q
    | lst ys => cases e; obtain ⟨a2, ws, rfl, h3, _⟩ := rep_lst hy; cases rv; obtain ⟨i2, _, p2⟩ := plain_list hK I h3; exact .tuple_list p1 p2 hu
    | _ => cases e
  | lst xs =>
    obtain ⟨a, vs, rfl, h1, h2⟩ := rep_lst hx
    cases ru
    obtain ⟨i1, r1, p1⟩ := plain_list hK I h1
    cases y with
    | non => cases e; cases rep_non hy; cases rv; exact .list_none p1 hu
    | bl c => cases e; cases rep_bl hy; cases rv; exact .list_bool _ p1 hu
    | int i => cases e; cases rep_int hy; obtain ⟨t, rfl⟩ := rv; exact .list_int _ _ p1 hu
    | str z => cases e; cases rep_str hy; obtain ⟨t, rfl⟩ := rv; exact .list_str _ _ p1 hu
    | tup ys => cases e; obtain ⟨a2, ws, rfl, h3, _⟩ := rep_tup hy; cases rv; obtain ⟨i2, _, p2⟩ := plain_tup hK I h3; exact .list_tuple p1 p2 hu
    | lst ys =>
      obtain ⟨a2, ws, rfl, h3, h4⟩ := rep_lst hy
      cases rv
      obtain ⟨i2, r2, p2⟩ := plain_list hK I h3
      have e2 : (if xs.length = ys.length then eqItems (eqI (eqD n)) xs ys else some false) = some b := e
      have q : RcAt A s (.ref a) (.ref a2) b := by
        have l1 : i1.toArray.size = xs.length := by rw [List.size_toArray, ← r1.length, h2.length]
        have l2 : i2.toArray.size = ys.length := by rw [List.size_toArray, ← r2.length, h4.length]
        split at e2
        · rename_i hl
          obtain ⟨_, it⟩ := items e2 h2 h4 r1 r2
          have := RcAt.lists p1 p2 (by rw [l1, l2, hl]) hu it
          rw [l1] at this
          have eb := (eqItems_hits e2).1
          rw [hl, Nat.min_self, beq_self_eq_true, Bool.and_true] at eb
          rw [eb, ← hl]
          exact this
        · rename_i hl
          cases e2
          exact RcAt.lists_lengths p1 p2 (by rw [l1, l2]; simpa using hl) hu
      exact q
    | _ => cases e
  | non => exact rcLeaf_at hK I .non y b A u v uu vv e hx hy ru rv hu
  | bl c => exact rcLeaf_at hK I (.bl c) y b A u v uu vv e hx hy ru rv hu
  | int c => exact rcLeaf_at hK I (.int c) y b A u v uu vv e hx hy ru rv hu
  | str c => exact rcLeaf_at hK I (.str c) y b A u v uu vv e hx hy ru rv hu
  | _ => cases e
theorem rnLeaf_at (hK : X.K = C.K) (I : Inv X pins σ H s) (x y : D) (b : Bool) (A : Around) (u v : V) (uu vv : Value) (e : eqLeaf x y = some b) (hx : Rep C (atH W H) x u) (hy : Rep C (atH W H) y v) (ru : RelV u uu) (rv : RelV v vv) (hu : A.units < cLine) : RcNeAt A s uu vv (!b) := by
  cases x with
  | non =>
    cases rep_non hx; cases ru
    cases y with
    | non => cases e; cases rep_non hy; cases rv; exact .none_none
    | bl c => cases e; cases rep_bl hy; cases rv; exact .none_bool _
    | int i => cases e; cases rep_int hy; obtain ⟨t, rfl⟩ := rv; exact .none_int _ _
    | str z => cases e; cases rep_str hy; obtain ⟨t, rfl⟩ := rv; exact .none_str _ _
    | tup ys => cases e; obtain ⟨a, vs, rfl, h1, _⟩ := rep_tup hy; cases rv; obtain ⟨its, _, p⟩ := plain_tup hK I h1; exact .none_tuple p hu
    | lst ys => cases e; obtain ⟨a, vs, rfl, h1, _⟩ := rep_lst hy; cases rv; obtain ⟨its, _, p⟩ := plain_list hK I h1; exact .none_list p hu
    | _ => cases e
  | bl c0 =>
    cases rep_bl hx; cases ru
    cases y with
    | non => cases e; cases rep_non hy; cases rv; exact .bool_none _
    | bl c => cases e; cases rep_bl hy; cases rv; exact .bool_bool _ _
    | int i => cases e; cases rep_int hy; obtain ⟨t, rfl⟩ := rv; rw [isZ_if]; exact .bool_int _ _ _
    | str z => cases e; cases rep_str hy; obtain ⟨t, rfl⟩ := rv; exact .bool_str _ _ _
    | tup ys => cases e; obtain ⟨a, vs, rfl, h1, _⟩ := rep_tup hy; cases rv; obtain ⟨its, _, p⟩ := plain_tup hK I h1; exact .bool_tuple _ p hu
    | lst ys => cases e; obtain ⟨a, vs, rfl, h1, _⟩ := rep_lst hy; cases rv; obtain ⟨its, _, p⟩ := plain_list hK I h1; exact .bool_list _ p hu
    | _ => cases e
  | int i0 =>
    cases rep_int hx; obtain ⟨t0, rfl⟩ := ru
    cases y with
    | non => cases e; cases rep_non hy; cases rv; exact .int_none _ _
    | bl c => cases e; cases rep_bl hy; cases rv; rw [isZ_if]; exact .int_bool _ _ _
    | int i => cases e; cases rep_int hy; obtain ⟨t, rfl⟩ := rv; exact .int_int _ _ _ _
    | str z => cases e; cases rep_str hy; obtain ⟨t, rfl⟩ := rv; exact .int_str _ _ _ _
    | tup ys => cases e; obtain ⟨a, vs, rfl, h1, _⟩ := rep_tup hy; cases rv; obtain ⟨its, _, p⟩ := plain_tup hK I h1; exact .int_tuple _ _ p hu
    | lst ys => cases e; obtain ⟨a, vs, rfl, h1, _⟩ := rep_lst hy; cases rv; obtain ⟨its, _, p⟩ := plain_list hK I h1; exact .int_list _ _ p hu
    | _ => cases e
  | str z0 =>
    cases rep_str hx; obtain ⟨t0, rfl⟩ := ru
    cases y with
    | non => cases e; cases rep_non hy; cases rv; exact .str_none _ _
    | bl c => cases e; cases rep_bl hy; cases rv; exact .str_bool _ _ _
    | int i => cases e; cases rep_int hy; obtain ⟨t, rfl⟩ := rv; exact .str_int _ _ _ _
    | str z => cases e; cases rep_str hy; obtain ⟨t, rfl⟩ := rv; exact .str_str _ _ _ _
    | tup ys => cases e; obtain ⟨a, vs, rfl, h1, _⟩ := rep_tup hy; cases rv; obtain ⟨its, _, p⟩ := plain_tup hK I h1; exact .str_tuple _ _ p hu
    | lst ys => cases e; obtain ⟨a, vs, rfl, h1, _⟩ := rep_lst hy; cases rv; obtain ⟨its, _, p⟩ := plain_list hK I h1; exact .str_list _ _ p hu
    | _ => cases e
  | _ => cases e
theorem rnD_at (hK : X.K = C.K) (I : Inv X pins σ H s) (n : Nat) (x y : D) (b : Bool) (A : Around) (u v : V) (uu vv : Value) (e : eqD (n + 1) x y = some b) (hx : Rep C (atH W H) x u) (hy : Rep C (atH W H) y v) (ru : RelV u uu) (rv : RelV v vv) (hu0 : A.units + (n + 1) < cLine) : RcNeAt A s uu vv (!b) := by
  have hu : A.units < cLine := by omega
  have hu1 : A.in1.units + n < cLine := by show A.units + 1 + n < cLine; omega
  have items : ∀ {xs ys : List D} {vs ws : List V} {i1 i2 : List Value} {c : Bool}, eqItems (eqI (eqD n)) xs ys = some c → RepL C (atH W H) xs vs → RepL C (atH W H) ys ws → Vals vs i1 → Vals ws i2 →
      (i1.toArray.size = xs.length ∧ i2.toArray.size = ys.length) ∧ ∀ j (h1 : j < i1.toArray.size) (h2 : j < i2.toArray.size), EqAt A.in1 s i1.toArray[j] i2.toArray[j] (hit (eqI (eqD n)) xs ys j) := by
    intro xs ys vs ws i1 i2 c ei r1 r2 v1 v2
    have l1 : i1.toArray.size = xs.length := by rw [List.size_toArray, ← v1.length, r1.length]
    have l2 : i2.toArray.size = ys.length := by rw [List.size_toArray, ← v2.length, r2.length]
    refine ⟨⟨l1, l2⟩, fun j h1 h2 => ?_⟩
    obtain ⟨v', e1, q1⟩ := vals_item v1 h1
    obtain ⟨w', e2, q2⟩ := vals_item v2 h2
    obtain ⟨x', e3, q3⟩ := r1.getV e1
    obtain ⟨y', e4, q4⟩ := r2.getV e2
    obtain ⟨c', e5, e6⟩ := (eqItems_hits ei).2 j x' y' e3 e4
    rw [e6]
    exact eqI_at e5 q3 q4 q1 q2 fun e5 => eqD_at hK I n x' y' c' A.in1 v' w' _ _ e5 q3 q4 q1 q2 hu1
  cases x with
  | tup xs =>
    obtain ⟨a, vs, rfl, h1, h2⟩ := rep_tup hx
    cases ru
    obtain ⟨i1, r1, p1⟩ := plain_tup hK I h1
    cases y with
    | non => cases e; cases rep_non hy; cases rv; exact .tuple_none p1 hu
    | bl c => cases e; cases rep_bl hy; cases rv; exact .tuple_bool _ p1 hu
    | int i => cases e; cases rep_int hy; obtain ⟨t, rfl⟩ := rv; exact .tuple_int _ _ p1 hu
    | str z => cases e; cases rep_str hy; obtain ⟨t, rfl⟩ := rv; exact .tuple_str _ _ p1 hu
    | tup ys =>
      obtain ⟨a2, ws, rfl, h3, h4⟩ := rep_tup hy
      cases rv
      obtain ⟨i2, r2, p2⟩ := plain_tup hK I h3
      have e2 : eqItems (eqI (eqD n)) xs ys = some b := e
      obtain ⟨⟨l1, l2⟩, it⟩ := items e2 h2 h4 r1 r2
      have q : RcNeAt A s (.ref a) (.ref a2) (!b) := by
        have := RcNeAt.tuples p1 p2 hu it
        rw [l1, l2, ← (eqItems_hits e2).1] at this
        exact this
      exact q
    | lst ys => cases e; obtain ⟨a2, ws, rfl, h3, _⟩ := rep_lst hy; cases rv; obtain ⟨i2, _, p2⟩ := plain_list hK I h3; exact .tuple_list p1 p2 hu
    | _ => cases e
  | lst xs =>
    obtain ⟨a, vs, rfl, h1, h2⟩ := rep_lst hx
    cases ru
    obtain ⟨i1, r1, p1⟩ := plain_list hK I h1
    cases y with
    | non => cases e; cases rep_non hy; cases rv; exact .list_none p1 hu
    | bl c => cases e; cases rep_bl hy; cases rv; exact .list_bool _ p1 hu
    | int i => cases e; cases rep_int hy; obtain ⟨t, rfl⟩ := rv; exact .list_int _ _ p1 hu
    | str z => cases e; cases rep_str hy; obtain ⟨t, rfl⟩ := rv; exact .list_str _ _ p1 hu
    | tup ys => cases e; obtain ⟨a2, ws, rfl, h3, _⟩ := rep_tup hy; cases rv; obtain ⟨i2, _, p2⟩ := plain_tup hK I h3; exact .list_tuple p1 p2 hu
    | lst ys =>
      obtain ⟨a2, ws, rfl, h3, h4⟩ := rep_lst hy
      cases rv
      obtain ⟨i2, r2, p2⟩ := plain_list hK I h3
      have e2 : (if xs.length = ys.length then eqItems (eqI (eqD n)) xs ys else some false) = some b := e
      have q : RcNeAt A s (.ref a) (.ref a2) (!b) := by
        have l1 : i1.toArray.size = xs.length := by rw [List.size_toArray, ← r1.length, h2.length]
        have l2 : i2.toArray.size = ys.length := by rw [List.size_toArray, ← r2.length, h4.length]
        split at e2
        · rename_i hl
          obtain ⟨_, it⟩ := items e2 h2 h4 r1 r2
          have := RcNeAt.lists p1 p2 (by rw [l1, l2, hl]) hu it
          rw [l1] at this
          have eb := (eqItems_hits e2).1
          rw [hl, Nat.min_self, beq_self_eq_true, Bool.and_true] at eb
          rw [eb, ← hl]
          exact this
        · rename_i hl
          cases e2
          exact RcNeAt.lists_lengths p1 p2 (by rw [l1, l2]; simpa using hl) hu
      exact q
    | _ => cases e
  | non => exact rnLeaf_at hK I .non y b A u v uu vv e hx hy ru rv hu
  | bl c => exact rnLeaf_at hK I (.bl c) y b A u v uu vv e hx hy ru rv hu
  | int c => exact rnLeaf_at hK I (.int c) y b A u v uu vv e hx hy ru rv hu
  | str c => exact rnLeaf_at hK I (.str c) y b A u v uu vv e hx hy ru rv hu
  | _ => cases e
end
end
end VM

namespace VM
open PySem L2 SeqAt
section
variable {C : Ct} {W : Wd} {g : Gs} {H : Hp} {X : Cx}
def coOf : Cop → CmpOp
  | .eq => .Eq
  | .ne => .NotEq
  | .lt => .Lt
  | .le => .LtE
  | .gt => .Gt
  | .ge => .GtE
  | .inn => .In
  | .nin => .NotIn
  | .is_ => .Is
  | .isn => .IsNot
def CmpS (C : Ct) (X : Cx) (g : Gs) (o : Cop) (x y d : D) : Prop := ∃ R : R2, OpR X (compareOp (coOf o)) R ∧
  ∀ {W : Wd} {H : Hp} {u v : V} {Q : VK}, RelG C W g H → Opd C W H x u → Opd C W H y v → Fin C W g H d Q → R u v H Q
abbrev Big (X : Cx) : Prop := X.A.units + 100 < cLine
theorem cmp_eqD (hK : X.K = C.K) (hu : Big X) {x y : D} {b : Bool} (q : eqD EQ x y = some b) : CmpS C X g .eq x y (.bl b) := by
  refine ⟨fun u v H Q => (∃ W, Rep C (atH W H) x u ∧ Rep C (atH W H) y v) ∧ Q (.bl b) H, ?_, fun {W H u v Q} r hx hy f => ⟨⟨W, hx.now r, hy.now r⟩, f.now r rfl⟩⟩
  intro pins s σ H u v uu vv Q I ru rv ⟨⟨W, h1, h2⟩, hq⟩
  exact rcD_at hK I 59 x y b X.A u v uu vv q h1 h2 ru rv (by have : X.A.units + 100 < cLine := hu; omega) X.prog X.w X.xe _ ⟨.bl b, H, I, rfl, hq⟩
theorem cmp_neD (hK : X.K = C.K) (hu : Big X) {x y : D} {b : Bool} (q : eqD EQ x y = some b) : CmpS C X g .ne x y (.bl (!b)) := by
  refine ⟨fun u v H Q => (∃ W, Rep C (atH W H) x u ∧ Rep C (atH W H) y v) ∧ Q (.bl (!b)) H, ?_, fun {W H u v Q} r hx hy f => ⟨⟨W, hx.now r, hy.now r⟩, f.now r rfl⟩⟩
  intro pins s σ H u v uu vv Q I ru rv ⟨⟨W, h1, h2⟩, hq⟩
  exact rnD_at hK I 59 x y b X.A u v uu vv q h1 h2 ru rv (by have : X.A.units + 100 < cLine := hu; omega) X.prog X.w X.xe _ ⟨.bl (!b), H, I, rfl, hq⟩
theorem cmp_ord {x y d : D} {o : Cop} {p : Int → Int → Bool} (ho : OpR X (compareOp (coOf o)) (rI0 fun i j => .bl (p i j))) (e : ∃ i j, x = .int i ∧ y = .int j ∧ d = .bl (p i j)) : CmpS C X g o x y d := by
  obtain ⟨i, j, rfl, rfl, rfl⟩ := e
  refine ⟨_, ho, fun {W H u v Q} r hx hy f => ?_⟩
  rw [opd_int hx, opd_int hy]
  exact ⟨i, j, rfl, rfl, f.now r rfl⟩
theorem ltD_int {x y : D} {b : Bool} (e : ltD x y = some b) : ∃ i j, x = .int i ∧ y = .int j ∧ b = decide (i < j) := by
  unfold ltD at e
  split at e
  · cases e
    exact ⟨_, _, rfl, rfl, rfl⟩
  · cases e
theorem map_some {α β : Type} {o : Option α} {f : α → β} {b : β} (e : o.map f = some b) : ∃ a, o = some a ∧ f a = b := by
  cases o with
  | none => cases e
  | some a => exact ⟨a, rfl, Option.some.inj e⟩
theorem cmp_lt {x y d : D} (e : cmpD g .lt x y = some d) : CmpS C X g .lt x y d := by
  obtain ⟨b, q, rfl⟩ := map_some (show (ltD x y).map D.bl = some d from e)
  obtain ⟨i, j, rfl, rfl, rfl⟩ := ltD_int q
  exact cmp_ord op_lt ⟨i, j, rfl, rfl, rfl⟩
theorem cmp_gt {x y d : D} (e : cmpD g .gt x y = some d) : CmpS C X g .gt x y d := by
  obtain ⟨b, q, rfl⟩ := map_some (show (ltD y x).map D.bl = some d from e)
  obtain ⟨i, j, rfl, rfl, rfl⟩ := ltD_int q
  exact cmp_ord op_gt ⟨j, i, rfl, rfl, rfl⟩
theorem not_lt_le (i j : Int) : (!decide (j < i)) = decide (i ≤ j) := by
  by_cases h : j < i
  · rw [decide_eq_true h, decide_eq_false (by omega)]; rfl
  · rw [decide_eq_false h, decide_eq_true (by omega)]; rfl
theorem cmp_le {x y d : D} (e : cmpD g .le x y = some d) : CmpS C X g .le x y d := by
  obtain ⟨b, q, rfl⟩ := map_some (show (ltD y x).map (fun r => D.bl (!r)) = some d from e)
  obtain ⟨i, j, rfl, rfl, rfl⟩ := ltD_int q
  exact cmp_ord op_le ⟨j, i, rfl, rfl, by rw [not_lt_le]⟩
theorem cmp_ge {x y d : D} (e : cmpD g .ge x y = some d) : CmpS C X g .ge x y d := by
  obtain ⟨b, q, rfl⟩ := map_some (show (ltD x y).map (fun r => D.bl (!r)) = some d from e)
  obtain ⟨i, j, rfl, rfl, rfl⟩ := ltD_int q
  exact cmp_ord op_ge ⟨i, j, rfl, rfl, by rw [not_lt_le]⟩

/-! ### is, is not -/
theorem opd_non_iff {x : D} {u : V} (r : RelG C W g H) (h : Opd C W H x u) (hn : x ≠ .non) : u ≠ .non := by
  have h := h.now r
  cases x with
  | non => exact absurd rfl hn
  | bl b => cases rep_bl h; exact fun z => nomatch z
  | int b => cases rep_int h; exact fun z => nomatch z
  | str b => cases rep_str h; exact fun z => nomatch z
  | tup xs => obtain ⟨_, _, rfl, _⟩ := rep_tup h; exact fun z => nomatch z
  | lst xs => obtain ⟨_, _, rfl, _⟩ := rep_lst h; exact fun z => nomatch z
  | kst xs => obtain ⟨_, _, rfl, _⟩ := rep_kst h; exact fun z => nomatch z
  | kdc xs => obtain ⟨_, _, rfl, _⟩ := rep_kdc h; exact fun z => nomatch z
  | dct _ ks ds => obtain ⟨_, _, rfl, _⟩ := rep_dct h; exact fun z => nomatch z
  | ins c fs ds => obtain ⟨_, _, _, _, rfl, _⟩ := rep_ins h; exact fun z => nomatch z
  | glo n => obtain ⟨_, _, rfl⟩ := rep_glo h; exact fun z => nomatch z
  | fn f =>
    rw [Rep.eq_10] at h
    obtain ⟨_, _, rfl⟩ := h
    exact fun z => nomatch z
theorem op_isSB : OpR X (compareOp .Is) (fun x y H Q => ∃ (a : Str) (b : Bool), x = .str a ∧ y = .bl b ∧ Q (.bl false) H) := by
  intro pins s σ H x y v u Q I rx ry h
  obtain ⟨a, b, rfl, rfl, q⟩ := h
  obtain ⟨t, rfl⟩ := rx
  cases (show u = Value.bool b from ry)
  exact wpAny_is_other rfl (fun z => nomatch z) ⟨.bl false, H, I, rfl, q⟩
theorem op_notSB : OpR X (compareOp .IsNot) (fun x y H Q => ∃ (a : Str) (b : Bool), x = .str a ∧ y = .bl b ∧ Q (.bl true) H) := by
  intro pins s σ H x y v u Q I rx ry h
  obtain ⟨a, b, rfl, rfl, q⟩ := h
  obtain ⟨t, rfl⟩ := rx
  cases (show u = Value.bool b from ry)
  exact wpAny_isNot_other rfl (fun z => nomatch z) ⟨.bl true, H, I, rfl, q⟩
theorem cmp_is {x y d : D} (e : cmpD g .is_ x y = some d) (hy0 : y = .non ∨ (∃ a b, x = .bl a ∧ y = .bl b) ∨ ∃ s b, x = .str s ∧ y = .bl b) : CmpS C X g .is_ x y d := by
  obtain ⟨b, q, rfl⟩ := map_some (show (sameD x y).map D.bl = some d from e)
  rcases hy0 with rfl | ⟨a, c, rfl, rfl⟩ | ⟨a, c, rfl, rfl⟩
  · refine ⟨_, op_isN, fun {W H u v Q} r hx hy f => ⟨opd_non hy, ?_⟩⟩
    have eb : decide (u = V.non) = b := by
      cases x with
      | non => cases q; rw [opd_non hx]; rfl
      | _ => first | (cases q; exact decide_eq_false (opd_non_iff r hx (fun z => nomatch z))) | cases q
    rw [eb]
    exact f.now r rfl
  · cases q
    refine ⟨_, op_isBl, fun {W H u v Q} r hx hy f => ⟨a, c, opd_bl hx, opd_bl hy, ?_⟩⟩
    have : (decide (a = c)) = (a == c) := rfl
    rw [this]
    exact f.now r rfl
  · cases q
    exact ⟨_, op_isSB, fun {W H u v Q} r hx hy f => ⟨a, c, opd_str hx, opd_bl hy, f.now r rfl⟩⟩
theorem cmp_isn {x y d : D} (e : cmpD g .isn x y = some d) (hy0 : y = .non ∨ (∃ a b, x = .bl a ∧ y = .bl b) ∨ ∃ s b, x = .str s ∧ y = .bl b) : CmpS C X g .isn x y d := by
  obtain ⟨b, q, rfl⟩ := map_some (show (sameD x y).map (fun r => D.bl (!r)) = some d from e)
  rcases hy0 with rfl | ⟨a, c, rfl, rfl⟩ | ⟨a, c, rfl, rfl⟩
  · refine ⟨_, op_notN, fun {W H u v Q} r hx hy f => ⟨opd_non hy, ?_⟩⟩
    have eb : decide (u = V.non) = b := by
      cases x with
      | non => cases q; rw [opd_non hx]; rfl
      | _ => first | (cases q; exact decide_eq_false (opd_non_iff r hx (fun z => nomatch z))) | cases q
    rw [eb]
    exact f.now r rfl
  · cases q
    refine ⟨_, op_notBl, fun {W H u v Q} r hx hy f => ⟨a, c, opd_bl hx, opd_bl hy, ?_⟩⟩
    have : (decide (a = c)) = (a == c) := rfl
    rw [this]
    exact f.now r rfl
  · cases q
    exact ⟨_, op_notSB, fun {W H u v Q} r hx hy f => ⟨a, c, opd_str hx, opd_bl hy, f.now r rfl⟩⟩

/-! ### in, not in -/
section
variable {pins : List (Addr × Obj)} {σ : St} {s : Shared}
theorem leaf_det {x x' : D} {v : V} (hx : Rep C W x v) (hy : Rep C W x' v) {y : D} {a a' : Bool} (e : eqLeaf x y = some a) (e' : eqLeaf x' y = some a') : a = a' := by
  have : x = x' := by
    cases x with
    | non => cases rep_non hx; cases x' with
      | non => rfl
      | bl c => cases rep_bl hy
      | int c => cases rep_int hy
      | str c => cases rep_str hy
      | _ => cases e'
    | bl c0 => cases rep_bl hx; cases x' with
      | non => cases rep_non hy
      | bl c => cases rep_bl hy; rfl
      | int c => cases rep_int hy
      | str c => cases rep_str hy
      | _ => cases e'
    | int c0 => cases rep_int hx; cases x' with
      | non => cases rep_non hy
      | bl c => cases rep_bl hy
      | int c => cases rep_int hy; rfl
      | str c => cases rep_str hy
      | _ => cases e'
    | str c0 => cases rep_str hx; cases x' with
      | non => cases rep_non hy
      | bl c => cases rep_bl hy
      | int c => cases rep_int hy
      | str c => cases rep_str hy; rfl
      | _ => cases e'
    | _ => cases e
  subst this
  rw [e] at e'
  exact Option.some.inj e'
theorem items_det {f : D → D → Option Bool} (ih : ∀ x x' v y a a', Rep C W x v → Rep C W x' v → f x y = some a → f x' y = some a' → a = a') : ∀ {xs xs' ys : List D} {vs : List V} {a a' : Bool}, RepL C W xs vs → RepL C W xs' vs → eqItems f xs ys = some a → eqItems f xs' ys = some a' → a = a'
  | [], xs', ys, vs, a, a', h1, h2, e, e' => by
    cases h1.nil_eq
    have : xs' = [] := (rep_nil_iff h2).mp rfl
    subst this
    rw [e] at e'
    exact Option.some.inj e'
  | x :: xs, xs', ys, vs, a, a', h1, h2, e, e' => by
    obtain ⟨v, r, rfl, a1, b1⟩ := h1.uncons
    cases xs' with
    | nil => cases h2.nil_eq
    | cons x' xs' =>
      obtain ⟨v', r', q, a2, b2⟩ := h2.uncons
      cases q
      cases ys with
      | nil => cases e; cases e'; rfl
      | cons y ys =>
        have e2 : (match f x y with
          | none => none
          | some a => match eqItems f xs ys with
            | none => none
            | some b => some (a && b)) = some a := e
        have e2' : (match f x' y with
          | none => none
          | some a => match eqItems f xs' ys with
            | none => none
            | some b => some (a && b)) = some a' := e'
        cases hf : f x y with
        | none => rw [hf] at e2; cases e2
        | some c =>
          cases hf' : f x' y with
          | none => rw [hf'] at e2'; cases e2'
          | some c' =>
            rw [hf] at e2
            rw [hf'] at e2'
            cases hr : eqItems f xs ys with
            | none => rw [hr] at e2; cases e2
            | some d =>
              cases hr' : eqItems f xs' ys with
              | none => rw [hr'] at e2'; cases e2'
              | some d' =>
                rw [hr] at e2
                rw [hr'] at e2'
                cases e2
                cases e2'
                rw [ih x x' v y c c' a1 a2 hf hf', items_det ih b1 b2 hr hr']
/-- an instance or a dict -/
def numD : D → Bool
  | .ins _ _ _ _ => true
  | .dct _ _ _ => true
  | _ => false
theorem eqD_none : ∀ (n : Nat) (x y : D), numD y = true → eqD n x y = none := fun n x y h => by
  cases n <;> cases x <;> cases y <;> first
    | rfl
    | cases h
theorem sameI_num {x y : D} (h : sameI x y = true) : numD y = true := by
  cases x <;> cases y <;> first
    | rfl
    | cases h
theorem eqI_det {P : D → V → Prop} {f : D → D → Option Bool} (ih : ∀ x x' v y a a', P x v → P x' v → f x y = some a → f x' y = some a' → a = a') (hn : ∀ x y, numD y = true → f x y = none) :
    ∀ x x' v y a a', P x v → P x' v → eqI f x y = some a → eqI f x' y = some a' → a = a' := fun x x' v y a a' h1 h2 e e' => by
  unfold eqI at e e'
  split at e
  · rename_i hs
    split at e'
    · cases e; cases e'; rfl
    · rw [hn x' y (sameI_num hs)] at e'
      cases e'
  · split at e'
    · rename_i hs
      rw [hn x y (sameI_num hs)] at e
      cases e
    · exact ih x x' v y a a' h1 h2 e e'
theorem eqD_det (hK : X.K = C.K) (I : Inv X pins σ H s) : ∀ (n : Nat) (x x' : D) (v : V) (y : D) (a a' : Bool), Rep C (atH W H) x v → Rep C (atH W H) x' v → eqD n x y = some a → eqD n x' y = some a' → a = a' := by
  intro n
  induction n with
  | zero => exact fun x x' v y a a' h1 h2 e e' => leaf_det h1 h2 e e'
  | succ n ih =>
    intro x x' v y a a' h1 h2 e e'
    have seq : ∀ x : D, (∃ xs, x = .tup xs) ∨ (∃ xs, x = .lst xs) ∨ ∀ y, eqD (n + 1) x y = eqLeaf x y := fun x => by
      cases x with
      | tup xs => exact .inl ⟨_, rfl⟩
      | lst xs => exact .inr (.inl ⟨_, rfl⟩)
      | _ => exact .inr (.inr fun _ => rfl)
    have leafref : ∀ {z : D} {p : Addr} {b : Bool}, Rep C (atH W H) z (.ref p) → eqLeaf z y = some b → False := fun {z p b} h q => by
      cases z with
      | non => cases rep_non h
      | bl c => cases rep_bl h
      | int c => cases rep_int h
      | str c => cases rep_str h
      | _ => cases q
    rcases seq x with ⟨xs, rfl⟩ | ⟨xs, rfl⟩ | l
    · obtain ⟨p, vs, rfl, q1, q2⟩ := rep_tup h1
      rcases seq x' with ⟨xs', rfl⟩ | ⟨xs', rfl⟩ | l'
      · obtain ⟨p', vs', q, q3, q4⟩ := rep_tup h2
        cases q
        cases I.tuple_inj (by rw [hK]; exact q1) (by rw [hK]; exact q3)
        cases y with
        | tup ys => exact items_det (f := eqI (eqD n)) (eqI_det ih fun x y h => eqD_none n x y h) q2 q4 e e'
        | _ => first | (cases e; cases e'; rfl) | cases e
      · obtain ⟨p', vs', q, q3, q4⟩ := rep_lst h2
        cases q
        exact (list_tup_apart hK I q3 q1).elim
      · rw [l'] at e'
        exact (leafref h2 e').elim
    · obtain ⟨p, vs, rfl, q1, q2⟩ := rep_lst h1
      rcases seq x' with ⟨xs', rfl⟩ | ⟨xs', rfl⟩ | l'
      · obtain ⟨p', vs', q, q3, q4⟩ := rep_tup h2
        cases q
        exact (list_tup_apart hK I q1 q3).elim
      · obtain ⟨p', vs', q, q3, q4⟩ := rep_lst h2
        cases q
        cases I.list_inj (.inl q1) (.inl q3)
        cases y with
        | lst ys =>
          have e2 : (if xs.length = ys.length then eqItems (eqI (eqD n)) xs ys else some false) = some a := e
          have e2' : (if xs'.length = ys.length then eqItems (eqI (eqD n)) xs' ys else some false) = some a' := e'
          have hl : xs.length = xs'.length := by rw [← q2.length, ← q4.length]
          by_cases z : xs.length = ys.length
          · rw [if_pos z] at e2
            rw [if_pos (hl ▸ z)] at e2'
            exact items_det (f := eqI (eqD n)) (eqI_det ih fun x y h => eqD_none n x y h) q2 q4 e2 e2'
          · rw [if_neg z] at e2
            rw [if_neg (hl ▸ z)] at e2'
            cases e2
            cases e2'
            rfl
        | _ => first | (cases e; cases e'; rfl) | cases e
      · rw [l'] at e'
        exact (leafref h2 e').elim
    · rw [l] at e
      rcases seq x' with ⟨xs', rfl⟩ | ⟨xs', rfl⟩ | l'
      · obtain ⟨p', vs', rfl, _⟩ := rep_tup h2
        exact (leafref h1 e).elim
      · obtain ⟨p', vs', rfl, _⟩ := rep_lst h2
        exact (leafref h1 e).elim
      · rw [l'] at e'
        exact leaf_det h1 h2 e e'
/-- what stands at a value among items -/
noncomputable def hitV (C : Ct) (W : Wd) (x : D) (ys : List D) (yv : Value) : Bool := by
  classical
  exact decide (∃ d ∈ ys, ∃ v, absV yv = some v ∧ Rep C W d v ∧ eqI (eqD EQ) d x = some true)
theorem inL_all {x : D} : ∀ {ys : List D} {b : Bool}, inL x ys = some b → (∀ d ∈ ys, ∃ c, eqI (eqD EQ) d x = some c) ∧ (b = true ↔ ∃ d ∈ ys, eqI (eqD EQ) d x = some true)
  | [], b, e => by
    cases e
    exact ⟨fun d m => (by cases m), by simp⟩
  | y :: ys, b, e => by
    have e2 : (match eqI (eqD EQ) y x with
      | none => none
      | some a => match inL x ys with
        | none => none
        | some b => some (a || b)) = some b := e
    cases q : eqI (eqD EQ) y x with
    | none => rw [q] at e2; cases e2
    | some a =>
      rw [q] at e2
      cases r : inL x ys with
      | none => rw [r] at e2; cases e2
      | some c =>
        rw [r] at e2
        cases e2
        obtain ⟨h1, h2⟩ := inL_all r
        refine ⟨fun d m => ?_, ?_⟩
        · rcases List.mem_cons.mp m with rfl | m
          · exact ⟨a, q⟩
          · exact h1 d m
        · rw [Bool.or_eq_true]
          constructor
          · rintro (z | z)
            · exact ⟨y, List.mem_cons_self, by rw [q, z]⟩
            · obtain ⟨d, m, z⟩ := h2.mp z
              exact ⟨d, List.mem_cons_of_mem _ m, z⟩
          · rintro ⟨d, m, z⟩
            rcases List.mem_cons.mp m with rfl | m
            · rw [q] at z
              exact .inl (Option.some.inj z)
            · exact .inr (h2.mpr ⟨d, m, z⟩)
open Classical in
theorem hitV_at (hK : X.K = C.K) (I : Inv X pins σ H s) {x : D} {ys : List D} {vs : List V} {its : List Value} {b : Bool} {A : Around} {u : V} {uu : Value} (e : inL x ys = some b) (hy : RepL C (atH W H) ys vs) (rv : Vals vs its) (hx : Rep C (atH W H) x u) (ru : RelV u uu) (hu : A.units + EQ < cLine) :
    (∀ y, y ∈ its.toArray → EqAt A s y uu (hitV C (atH W H) x ys y)) ∧ its.toArray.any (hitV C (atH W H) x ys) = b := by
  obtain ⟨h1, h2⟩ := inL_all e
  have item : ∀ j (hj : j < its.toArray.size), ∃ d v, ys[j]? = some d ∧ vs[j]? = some v ∧ Rep C (atH W H) d v ∧ RelV v its.toArray[j] ∧ ∃ c, eqI (eqD EQ) d x = some c ∧ hitV C (atH W H) x ys its.toArray[j] = c := fun j hj => by
    obtain ⟨v, e1, q1⟩ := vals_item rv hj
    obtain ⟨d, e2, q2⟩ := hy.getV e1
    obtain ⟨c, hc⟩ := h1 d (List.mem_of_getElem? e2)
    refine ⟨d, v, e2, e1, q2, q1, c, hc, ?_⟩
    cases c with
    | true => exact decide_eq_true ⟨d, List.mem_of_getElem? e2, v, q1.abs, q2, hc⟩
    | false =>
      refine decide_eq_false ?_
      rintro ⟨d', m', v', a', r', t'⟩
      rw [q1.abs] at a'
      cases a'
      have := eqI_det (eqD_det hK I EQ) (fun x y h => eqD_none EQ x y h) d d' v x false true q2 r' hc t'
      cases this
  refine ⟨fun y m => ?_, ?_⟩
  · obtain ⟨j, hj, rfl⟩ := Array.getElem_of_mem m
    obtain ⟨d, v, _, _, q2, q1, c, hc, ec⟩ := item j hj
    rw [ec]
    exact eqI_at hc q2 hx q1 ru fun hc => eqD_at hK I EQ d x c A v u _ _ hc q2 hx q1 ru hu
  · rw [Bool.eq_iff_iff, Array.any_eq_true, h2]
    constructor
    · rintro ⟨j, hj, z⟩
      obtain ⟨d, v, e2, _, _, _, c, hc, ec⟩ := item j hj
      rw [ec] at z
      rw [z] at hc
      exact ⟨d, List.mem_of_getElem? e2, hc⟩
    · rintro ⟨d, m, z⟩
      obtain ⟨j, ej⟩ := List.getElem?_of_mem m
      have hj : j < its.toArray.size := by
        have := (List.getElem?_eq_some_iff.mp ej).1
        rw [List.size_toArray, ← rv.length, hy.length]
        exact this
      obtain ⟨d', v, e2, _, _, _, c, hc, ec⟩ := item j hj
      rw [ej] at e2
      cases e2
      rw [z] at hc
      cases hc
      exact ⟨j, hj, ec⟩
def rInX (C : Ct) (x : D) (ys : List D) (r : Bool) : R2 := fun u v H Q => (∃ W a vs, v = .ref a ∧ (SqL C.K H a vs ∨ SqT C.K H a vs) ∧ RepL C (atH W H) ys vs ∧ Rep C (atH W H) x u) ∧ Q (.bl r) H
theorem op_inX (hK : X.K = C.K) (hu : Big X) {x : D} {ys : List D} {b : Bool} (e : inL x ys = some b) : OpR X (compareOp .In) (rInX C x ys b) := by
  intro pins s σ H u v uu vv Q I ru rv ⟨⟨W, a, vs, ev, hs, hy, hx⟩, hq⟩
  subst ev
  cases rv
  have hb : X.A.in1.units + EQ < cLine := by have : X.A.units + 100 < cLine := hu; show X.A.units + 1 + 60 < cLine; omega
  rcases hs with hs | hs
  · obtain ⟨its, r, p, _⟩ := I.list (by rw [hK]; exact hs)
    obtain ⟨h1, h2⟩ := hitV_at hK I e hy r hx ru hb
    exact in_listAt _ p.isList h1 (by rw [h2]; exact ⟨.bl b, H, I, rfl, hq⟩)
  · obtain ⟨its, r, p, _⟩ := I.tuple (by rw [hK]; exact hs)
    obtain ⟨h1, h2⟩ := hitV_at hK I e hy r hx ru hb
    exact in_tupleAt _ p h1 (by rw [h2]; exact ⟨.bl b, H, I, rfl, hq⟩)
theorem op_ninX (hK : X.K = C.K) (hu : Big X) {x : D} {ys : List D} {b : Bool} (e : inL x ys = some b) : OpR X (compareOp .NotIn) (rInX C x ys (!b)) := by
  intro pins s σ H u v uu vv Q I ru rv ⟨⟨W, a, vs, ev, hs, hy, hx⟩, hq⟩
  subst ev
  cases rv
  have hb : X.A.in1.units + EQ < cLine := by have : X.A.units + 100 < cLine := hu; show X.A.units + 1 + 60 < cLine; omega
  rcases hs with hs | hs
  · obtain ⟨its, r, p, _⟩ := I.list (by rw [hK]; exact hs)
    obtain ⟨h1, h2⟩ := hitV_at hK I e hy r hx ru hb
    exact notIn_listAt _ p.isList h1 (by rw [h2]; exact ⟨.bl (!b), H, I, rfl, hq⟩)
  · obtain ⟨its, r, p, _⟩ := I.tuple (by rw [hK]; exact hs)
    obtain ⟨h1, h2⟩ := hitV_at hK I e hy r hx ru hb
    exact notIn_tupleAt _ p h1 (by rw [h2]; exact ⟨.bl (!b), H, I, rfl, hq⟩)
end
end
end VM

namespace VM
open PySem L2 SeqAt PyProof.Rows
section
variable {C : Ct} {W : Wd} {g : Gs} {H : Hp} {X : Cx}

/-! ### arithmetic -/
theorem bin_int {x y d : D} {o : Bop} {CC : Int → Int → Prop} {p : Int → Int → Int} (ho : OpR X (binaryOp (opOf o)) (rI CC fun i j => .int (p i j))) (e : ∃ i j, x = .int i ∧ y = .int j ∧ CC i j ∧ d = .int (p i j)) : BinS C X g o x y d := by
  obtain ⟨i, j, rfl, rfl, hc, rfl⟩ := e
  refine ⟨_, ho, fun {W H u v Q} r hx hy f => ?_⟩
  rw [opd_int hx, opd_int hy]
  exact ⟨i, j, rfl, rfl, hc, f.now r rfl⟩
theorem bin_sub {x y d : D} (e : binD g .sub x y = some d) : BinS C X g .sub x y d := by
  unfold binD at e
  split at e <;> try (first | (cases e; done) | contradiction)
  rename_i a b hq
  cases e
  refine ⟨_, op_sub, fun {W H u v Q} r hx hy f => ?_⟩
  rw [opd_int hx, opd_int hy]
  exact ⟨a, b, rfl, rfl, f.now r rfl⟩
/-- a list times an int -/
def rRepR : R2 := fun x y H Q => ∃ l k xs, x = .ref l ∧ y = .int k ∧ Rd H l (.lst xs) ∧ -(2 ^ 63) ≤ k ∧ k < 2 ^ 63 ∧ xs.length * k.toNat ≤ sizeLine ∧
  ∀ p, H p = none → Q (.ref p) (upd H p (.lst (List.replicate k.toNat xs).flatten))
theorem op_repR : OpR X (binaryOp .Mult) rRepR := by
  intro pins s σ H x y v u Q I rx ry h
  obtain ⟨l, k, xs, rfl, rfl, hH, h1, h2, hz, q⟩ := h
  cases rx
  obtain ⟨t, rfl⟩ := ry
  obtain ⟨z, its, n, r, hl, e⟩ := rd_list I hH
  have hlen : its.toArray.size * k.toNat ≤ sizeLine := by rw [List.size_toArray, ← hl]; exact hz
  have hcap : ¬ its.toArray.size * k.toNat > (2 ^ 63 - 1) / 8 := by
    have : (sizeLine : Nat) ≤ (2 ^ 63 - 1) / 8 := by decide
    omega
  have hfit : ¬ (!Builtin.List.listFitsIndex k) = true := by
    rw [fitsIndex_both h1 h2]
    exact Bool.false_ne_true
  have hlong : ¬ Builtin.List.listTooLong (its.toArray.size * k.toNat) = true := by
    rw [notLongL hlen]
    exact Bool.false_ne_true
  have hnew : List.foldl (fun x1 x2 => x1 ++ x2) #[] (List.replicate (if its.toArray.isEmpty = true then 0 else k.toNat) its.toArray) = (List.replicate k.toNat its).flatten.toArray := by
    have f0 : ∀ m : Nat, List.foldl (fun x1 x2 => x1 ++ x2) #[] (List.replicate m its.toArray) = (List.replicate m its).flatten.toArray := fun m => by
      have := foldl_rep its m []
      rw [List.nil_append] at this
      exact this
    rw [f0]
    cases its with
    | nil => simp
    | cons a r' => rw [if_neg (by simp)]
  refine wpAny_binaryOp_repeat_ref (T := "list") (U := "int") (by decide) ⟨_, e, rfl⟩ (fun s' => typeIs_int s' k t) noFill_list_mul F.fills_int_mul F.slot_int_rmul repeat_list F.slot_int_index.lookup
    (call_meets F.slot_int_rmul (typeIs_int s k t) F.entry_int_rmul (F.args_int_rmul_2 _ _) (int___rmul___int_list k t l its.toArray n)
      ⟨e, rfl, ⟨_, e, rfl⟩, call_meets F.slot_list_mul ⟨_, e, rfl⟩ F.entry_list_mul (F.args_list_mul_2 _ _) (AutoListH.list___mul___list_int_3 l its.toArray n k t hfit hcap hlong) ⟨e, ?_⟩⟩)
  rw [hnew]
  exact ⟨.ref _, _, I.lnew (t' := s.toks) (r.rep k.toNat) (by rw [PyProof.Rows.lm_len_rep_flat, Nat.mul_comm]; exact hz), rfl, q _ I.fresh⟩
theorem mul_list {x : D} {n : Int} {d : D} (e : (match seqL g x with
    | some x => if x.length * n.toNat ≤ sizeM ∧ n < 1000000 ∧ -1000000 < n then some (D.lst ((List.replicate n.toNat x).flatten)) else none
    | none => none) = some d) : BinS C X g .mul x (.int n) d := by
  cases q : seqL g x with
  | none => rw [q] at e; cases e
  | some xs =>
    rw [q] at e
    have e2 : (if xs.length * n.toNat ≤ sizeM ∧ n < 1000000 ∧ -1000000 < n then some (D.lst ((List.replicate n.toNat xs).flatten)) else none) = some d := e
    split at e2
    · rename_i hz
      cases e2
      refine ⟨rRepR, op_repR, fun {W H u v Q} r hx hy f => ?_⟩
      rw [opd_int hy]
      obtain ⟨a, vs, rfl, h1, h2⟩ := seqL_ok r q hx
      exact ⟨a, n, vs, rfl, rfl, h1, by omega, by omega, by rw [h2.length]; exact szM hz.1, fun p hp => f.lst r (h2.replicate _) hp⟩
    · cases e2
theorem foldl_app : ∀ (l : List (Array Nat)) (a : Array Nat), List.foldl (fun x y => x ++ y) a l = (a.toList ++ (l.map Array.toList).flatten).toArray
  | [], a => by simp
  | b :: l, a => by
    rw [List.foldl_cons, foldl_app l]
    simp
theorem str_strOf (z : Str) : strOf z.cps.toList = z := by
  show (⟨z.cps.toList.toArray⟩ : Str) = z
  rw [Array.toArray_toList]
theorem op_mulS {X : Cx} : OpR X (binaryOp .Mult) (fun x y H Q => ∃ s n, x = .str s ∧ y = .int n ∧ 0 ≤ n ∧ n < 1000000 ∧ s.cps.size * n.toNat ≤ sizeM ∧ Q (.str (strOf (List.replicate n.toNat s.cps.toList).flatten)) H) := by
  intro pins s σ H x y v u Q I rx ry h
  obtain ⟨z, n, rfl, rfl, h0, h1, h2, q⟩ := h
  obtain ⟨t, rfl⟩ := rx
  obtain ⟨t', rfl⟩ := ry
  refine PySem.P.mul_str ?_ ?_ ?_ ?_
  · rw [Bool.or_eq_false_iff, decide_eq_false_iff_not, decide_eq_false_iff_not]
    omega
  · intro k1 k2 k3
    have k4 : n ≤ 1000000 := by omega
    have k5 : ((z.length : Nat) : Int) ≤ 100000 := by
      have : z.cps.size * 1 ≤ z.cps.size * n.toNat := Nat.mul_le_mul_left _ (by omega)
      have e : z.length = z.cps.size := rfl
      have h2 : z.cps.size * n.toNat ≤ 100000 := h2
      omega
    have k6 : (1000000 : Int) ≤ (2 ^ 63 - 1) / n := by
      refine (Int.le_ediv_iff_mul_le (by omega)).mpr ?_
      omega
    omega
  · intro k1 k2
    have e : z.length = z.cps.size := rfl
    rw [e]
    unfold Builtin.Str.tooLong
    have h2 : z.cps.size * n.toNat ≤ 100000 := h2
    rw [decide_eq_false_iff_not]
    have : 100000 ≤ sizeLine := by decide
    omega
  · split
    · have e : n = 0 := by omega
      subst e
      rw [Made.post.eq_3]
      exact ⟨by decide, .str Str.empty, H, I.tok _, ⟨_, rfl⟩, q⟩
    · split
      · rename_i k
        rw [Bool.or_eq_true, beq_iff_eq, beq_iff_eq] at k
        have e : strOf (List.replicate n.toNat z.cps.toList).flatten = z := by
          rcases k with k | k
          · subst k
            show strOf (List.replicate 1 z.cps.toList).flatten = z
            rw [List.replicate_one, List.flatten_cons, List.flatten_nil, List.append_nil]
            exact str_strOf z
          · have k : z.cps.size = 0 := k
            have k : z.cps.toList = [] := by rw [← List.length_eq_zero_iff, Array.length_toList]; exact k
            have : (List.replicate n.toNat ([] : List Nat)).flatten = [] := by simp
            rw [k, this, ← k]
            exact str_strOf z
        rw [e] at q
        exact ⟨.str z, H, I, ⟨t, rfl⟩, q⟩
      · have e : (⟨List.foldl (fun x1 x2 => x1 ++ x2) #[] (List.replicate n.toNat z.cps)⟩ : Str) = strOf (List.replicate n.toNat z.cps.toList).flatten := by
          rw [foldl_app, List.map_replicate]
          rfl
        rw [e]
        rw [Made.post.eq_3]
        refine ⟨?_, .str _, H, I.tok _, ⟨_, rfl⟩, q⟩
        have : (strOf (List.replicate n.toNat z.cps.toList).flatten).length = z.cps.size * n.toNat := by
          show (List.replicate n.toNat z.cps.toList).flatten.toArray.size = _
          rw [List.size_toArray, List.length_flatten, List.map_replicate, List.sum_replicate_nat, Array.length_toList, Nat.mul_comm]
        rw [this]
        exact szM h2
theorem bin_mul (hK : X.K = C.K) {x y d : D} (e : binD g .mul x y = some d) : BinS C X g .mul x y d := by
  cases y with
  | int n =>
    cases x with
    | int i =>
      have e2 : (if mulOk i n then some (D.int (i * n)) else none) = some d := e
      split at e2
      · rename_i hz
        cases e2
        refine bin_int op_mul ⟨i, n, rfl, rfl, ?_, rfl⟩
        unfold mulOk at hz
        rw [Bool.or_eq_true, decide_eq_true_eq, decide_eq_true_eq] at hz
        unfold CMul
        rcases hz with hz | hz
        · exact .inl (by omega)
        · exact .inr (by omega)
      · cases e2
    | tup a =>
      have e2 : (if 1 ≤ a.length ∧ a.length ≤ 1000 ∧ 2 ≤ n ∧ n ≤ 1000 then some (D.tup ((List.replicate n.toNat a).flatten)) else none) = some d := e
      split at e2
      · rename_i hz
        cases e2
        refine ⟨rRepT X.K, op_repT, fun {W H u v Q} r hx hy f => ?_⟩
        rw [opd_int hy]
        obtain ⟨p, vs, rfl, h1, h2⟩ := rep_tup hx.tup
        refine ⟨p, n, vs, rfl, rfl, by rw [hK]; exact r.sqT h1, fun z => ?_, hz.2.2.1, hz.2.2.2, by rw [h2.length]; exact hz.2.1, fun p hp => f.tup r (h2.replicate _) hp⟩
        rw [(rep_nil_iff h2).mp z] at hz
        exact absurd hz.1 (by decide)
      · cases e2
    | str z =>
      have e2 : (if 0 ≤ n ∧ n < 1000000 ∧ z.cps.size * n.toNat ≤ sizeM then some (D.str (strOf (List.replicate n.toNat z.cps.toList).flatten)) else none) = some d := e
      split at e2
      · rename_i hz
        cases e2
        refine ⟨_, op_mulS, fun {W H u v Q} r hx hy f => ?_⟩
        rw [opd_int hy, opd_str hx]
        exact ⟨z, n, rfl, rfl, hz.1, hz.2.1, hz.2.2, f.now r rfl⟩
      · cases e2
    | _ => exact mul_list e
  | _ => cases x <;> cases e
theorem bin_fdiv {x y d : D} (e : binD g .fdiv x y = some d) : BinS C X g .fdiv x y d := by
  unfold binD at e
  split at e <;> try (first | (cases e; done) | contradiction)
  rename_i a b hq
  split at e
  · rename_i hz
    cases e
    exact bin_int op_fdiv ⟨a, b, rfl, rfl, hz, rfl⟩
  · cases e
theorem bin_mod {x y d : D} (e : binD g .mod x y = some d) : BinS C X g .mod x y d := by
  unfold binD at e
  split at e <;> try (first | (cases e; done) | contradiction)
  rename_i a b hq
  split at e
  · rename_i hz
    cases e
    exact bin_int op_mod ⟨a, b, rfl, rfl, hz, rfl⟩
  · cases e
theorem bin_pow {x y d : D} (e : binD g .pow x y = some d) : BinS C X g .pow x y d := by
  unfold binD at e
  split at e <;> try (first | (cases e; done) | contradiction)
  rename_i a b hq
  split at e
  · rename_i hz
    cases e
    refine bin_int op_pow ⟨a, b, rfl, rfl, ⟨hz.1, by omega, by omega⟩, rfl⟩
  · cases e
theorem bin_band {x y d : D} (e : binD g .band x y = some d) : BinS C X g .band x y d := by
  unfold binD at e
  split at e <;> try (first | (cases e; done) | contradiction)
  rename_i a b hq
  split at e
  · rename_i hz
    cases e
    refine ⟨_, op_and, fun {W H u v Q} r hx hy f => ?_⟩
    rw [opd_int hx, opd_int hy]
    refine ⟨a, b, rfl, rfl, ?_⟩
    obtain ⟨i, rfl⟩ := Int.eq_ofNat_of_zero_le hz.1
    obtain ⟨j, rfl⟩ := Int.eq_ofNat_of_zero_le hz.2
    have e := PySem.W.os_band i j
    show Q (V.int (Builtin.bitAnd i j)) H
    rw [e]
    exact f.now r rfl
  · cases e
theorem bin_ok (hK : X.K = C.K) {o : Bop} {x y d : D} (e : binD g o x y = some d) : BinS C X g o x y d := by
  cases o with
  | add => exact bin_add hK e
  | sub => exact bin_sub e
  | mul => exact bin_mul hK e
  | fdiv => exact bin_fdiv e
  | mod => exact bin_mod e
  | pow => exact bin_pow e
  | band => exact bin_band e
end
end VM

namespace VM
open PySem L2 PyProof.Rows PySem.SeqAt
open AutoSeq1 (wpAny_loadPart')
open MeetsSeq MeetsSeq2 MeetsSeq3 SeqRoads2
/-! ### == of an instance with its own def for it and a value of another kind, either way -/
theorem int_dec_bool (b : Bool) (x : Addr) (c dx : Addr) : Meets (Builtin.«int.__eq__» ⟨[.bool b, .ref x], []⟩) (fun _ R s => s.heap.get? x = some (PySem.W.instObj c dx) ∧ R (.ok (.ret .notImplemented)) s) :=
  .of_wp fun prog w A R s h => by obtain ⟨hp, g, d, tk, os⟩ := s; obtain ⟨hl, h⟩ := h; unfold PySem.W.instObj at hl; wp_walk using wpAny_loadPart' hl, wpAny_load hl; exact ⟨_, rfl, h⟩
theorem int_dec_int (b : Int) (u : Tok) (x : Addr) (c dx : Addr) : Meets (Builtin.«int.__eq__» ⟨[.int b u, .ref x], []⟩) (fun _ R s => s.heap.get? x = some (PySem.W.instObj c dx) ∧ R (.ok (.ret .notImplemented)) s) :=
  .of_wp fun prog w A R s h => by obtain ⟨hp, g, d, tk, os⟩ := s; obtain ⟨hl, h⟩ := h; unfold PySem.W.instObj at hl; wp_walk using wpAny_loadPart' hl, wpAny_load hl; exact ⟨_, rfl, h⟩
theorem str_dec (b : Str) (u : Tok) (x : Addr) (c dx : Addr) : Meets (Builtin.«str.__eq__» ⟨[.str b u, .ref x], []⟩) (fun _ R s => s.heap.get? x = some (PySem.W.instObj c dx) ∧ R (.ok (.ret .notImplemented)) s) :=
  .of_wp fun prog w A R s h => by obtain ⟨hp, g, d, tk, os⟩ := s; obtain ⟨hl, h⟩ := h; unfold PySem.W.instObj at hl; wp_walk using wpAny_loadPart' hl, wpAny_load hl; exact ⟨_, rfl, h⟩
section
variable {prog : Program} {w : World} {A : Around} {E : Value → Shared → Prop} {s : Shared} {K : PySem.W.Frag} {x C f : Addr} {ox : Obj} {od : Option Obj}
theorem isInst_own {v base : Value} {T r : _} (ht : PySem.W.Looks (model prog w) s.heap (typeOf v) T) (hs : PySem.W.Looks (model prog w) s.heap (isSubtype T base) r) : PySem.W.Looks (model prog w) s.heap (isInstance v base) r := ht.andThen hs
theorem list_dec {l : Addr} {items : Array Value} {n : Nat} {dd : Option Addr} {sl : Array (Option Value)} {R : Result → Shared → Prop} (hl : s.heap.get? l = some { cls := .type "list", dict := dd, data := .seq items n, slots := sl })
    (hi : PySem.W.Looks (model prog w) s.heap (isInstance (.ref x) (.type "list")) false) (h : R (.ok (.ret .notImplemented)) s) :
    wpAny (model prog w) A.in1 (Builtin.«list.__eq__» ⟨[.ref l, .ref x], []⟩) (GQ.FinOf prog w A R) (fun e s' => R (.error e) s') s := by
  obtain ⟨hp, g, d, tk, os⟩ := s
  wp_walk using hi.here
  exact h
theorem tup_dec {l : Addr} {items : Array Value} {n : Nat} {dd : Option Addr} {sl : Array (Option Value)} {R : Result → Shared → Prop} (hl : s.heap.get? l = some { cls := .type "tuple", dict := dd, data := .seq items n, slots := sl })
    (hi : PySem.W.Looks (model prog w) s.heap (isInstance (.ref x) (.type "tuple")) false) (h : R (.ok (.ret .notImplemented)) s) :
    wpAny (model prog w) A.in1 (Builtin.«tuple.__eq__» ⟨[.ref l, .ref x], []⟩) (GQ.FinOf prog w A R) (fun e s' => R (.error e) s') s := by
  obtain ⟨hp, g, d, tk, os⟩ := s
  wp_walk using hi.here
  exact h
theorem rc_refl {b : Value} {T id : String} {Q : Value → Shared → Prop} (hu : A.units < cLine) (X : K.In s.heap) (I : PySem.W.InstAt s.heap x ox C od) (ht : s.TypeIs b T) (hm : PySem.W.mroIn K C (.type T) = some false)
    (hs : PySem.W.findIn K (.ref C) "__eq__" = some (some (.ref f))) (hf : PySem.W.isFn K (.ref f) = true) (sl : Slot T "__eq__" id)
    (hd : ∀ Q' : Value → Shared → Prop, Q' .notImplemented s → wpAny (model prog w) A (call (.builtin id) [b, .ref x]) Q' E s)
    (h : wpAny (model prog w) A (call (.ref f) [.ref x, b]) (PySem.W.CmpBack Q) E s) : wpAny (model prog w) A (richCompare .Eq b (.ref x)) Q E s := by
  have two : wpAny (model prog w) A (tryCompare (.ref x) "__eq__" b) (fun r s' => ∃ v, r = some v ∧ Q v s') E s := by
    unfold tryCompare
    refine wpAny_bind (PySem.W.ifBound_K X I hs hf (wpAny_mono h (fun v s' hv => ?_) fun _ _ e => e))
    cases v <;> first | exact hv.elim | exact wpAny_pure ⟨_, rfl, hv⟩
  simp only [richCompare, cmpInfo_Eq, ht.oneThing_none]
  refine wpAny_holding (wpAny_bind (wpAny_cRoomFor hu ?_))
  refine wpAny_bind (wpAny_typeOf ht ?_)
  refine wpAny_bind (I.type.here ?_)
  split
  · refine wpAny_bind ((PySem.W.looks_mroIn X hm).here ?_)
    simp only [Bool.false_eq_true, if_false, Bool.not_false, if_true]
    refine wpAny_bind (m := tryCompare b _ (.ref x)) (wpAny_tryCompare_declines ht sl (hd _ ⟨rfl, ?_⟩))
    refine wpAny_bind (m := tryCompare (.ref x) _ b) (wpAny_mono two (fun r s' z => ?_) fun _ _ e => e)
    obtain ⟨v, rfl, hq⟩ := z
    exact wpAny_pure hq
  · rename_i q
    exact absurd (by simp) q
end
/-! ### any value in a list or tuple of texts -/
theorem str_dec_dict (b : Str) (u : Tok) (l : Addr) (o : Obj) (es : Array DictEntry) (ep : Nat) (hc : o.cls = .type "dict") (hd : o.data = .dict es ep) : Meets (Builtin.«str.__eq__» ⟨[.str b u, .ref l], []⟩) (fun _ R s => s.heap.get? l = some o ∧ R (.ok (.ret .notImplemented)) s) :=
  .of_wp fun prog w A R s h => by
    obtain ⟨cls, dd, data, sl⟩ := o
    simp only at hc hd
    subst hc hd
    obtain ⟨hp, g, d, tk, os⟩ := s; obtain ⟨hl, h⟩ := h; wp_walk using wpAny_loadPart' hl, wpAny_load hl; exact ⟨_, rfl, h⟩
theorem dict_dec_str (b : Str) (u : Tok) (l : Addr) (o : Obj) (es : Array DictEntry) (ep : Nat) (hc : o.cls = .type "dict") (hd : o.data = .dict es ep) : Meets (Builtin.«dict.__eq__» ⟨[.ref l, .str b u], []⟩) (fun _ R s => s.heap.get? l = some o ∧ R (.ok (.ret .notImplemented)) s) :=
  .of_wp fun prog w A R s h => by
    obtain ⟨cls, dd, data, sl⟩ := o
    simp only at hc hd
    subst hc hd
    obtain ⟨hp, g, d, tk, os⟩ := s; obtain ⟨hl, h⟩ := h; have f1 := F.sub_str_dict; wp_walk using wpAny_loadPart' hl, wpAny_load hl; exact ⟨_, rfl, h⟩
theorem eqAt_str_dict {A : Around} {s : Shared} {l : Addr} (b : Str) (u : Tok) {o : Obj} {es : Array DictEntry} {ep : Nat} (ho : s.heap.get? l = some o) (hc : o.cls = .type "dict") (hd : o.data = .dict es ep) (hu : A.units < cLine) : EqAt A s (.str b u) (.ref l) false := fun prog w E Q h => by
  unfold eqBool
  refine wpAny_holding ?_
  refine wpAny_ite_split (fun hab => absurd (eq_of_beq hab) nofun) (fun _ => ?_)
  refine wpAny_bind (rc_eq_decline_or (k := false) (typeIs_str s b u) ⟨_, ho, hc⟩ (by decide) F.sub_dict_str F.slot_str_eq F.slot_dict_eq_refl
    (fun _ hq => call_meets F.slot_str_eq (typeIs_str s b u) F.entry_str_eq (F.args_str_eq_2 _ _) (str_dec_dict b u l o es ep hc hd) ⟨ho, hq⟩)
    (fun _ hq => call_meets F.slot_dict_eq_refl ⟨_, ho, hc⟩ F.entry_dict_eq (F.args_dict_eq_2 _ _) (dict_dec_str b u l o es ep hc hd) ⟨ho, hq⟩)
    (fun _ hq => wpAny_of_eq (rfl : isSame (.str b u) (.ref l) = pure false) hq) (.inr hu) ?_)
  exact wpAny_truthy_bool h
section
variable {prog : Program} {w : World} {A : Around} {R : Result → Shared → Prop}
theorem tup_containsI (l : Addr) (items : Array Value) (n : Nat) (dd : Option Addr) (sl : Array (Option Value)) (x : Value) (I : Shared → Prop) (turn : ∀ y, y ∈ items → ∀ s, I s → wpAny (model prog w) A.in1 (eqBool y x) (fun r s' => r = false ∧ I s') (fun e s' => R (.error e) s') s)
    (fin : ∀ s, I s → R (.ok (.ret (.bool false))) s) {s : Shared} (hl : s.heap.get? l = some { cls := .type "tuple", dict := dd, data := .seq items n, slots := sl }) (h : I s) :
    wpAny (model prog w) A.in1 (Builtin.«tuple.__contains__» ⟨[.ref l, x], []⟩) (GQ.FinOf prog w A R) (fun e s' => R (.error e) s') s := by
  obtain ⟨hp, g, d, tk, os⟩ := s
  wp_walk using wpAny_loadPart' hl, wpAny_forIn_array _ (fun rest b s' => b.1 = none ∧ (∀ y, y ∈ rest → y ∈ items) ∧ I s') _
  case turn =>
    rintro y rest b s' ⟨hb, hmem, hI⟩
    refine wpAny_bind (wpAny_mono (turn y (hmem y (List.mem_cons_self ..)) s' hI) (fun r s2 q => ?_) fun _ _ e => e)
    obtain ⟨rfl, q⟩ := q
    wp_walk
    exact ⟨rfl, fun z hz => hmem z (List.mem_cons_of_mem _ hz), q⟩
  case fin =>
    rintro ⟨b1, b2⟩ s' ⟨hb, -, hI⟩
    simp only at hb
    subst hb
    have := fin s' hI
    wp_walk
    exact this
  case h =>
    exact ⟨rfl, fun y hy => by simpa using hy, h⟩
theorem list_contains_loopI (l : Addr) (N : Nat) (x : Value) (I : Nat → Shared → Prop) (hl : ∀ i s, I i s → ∃ (items : Array Value) (n : Nat) (sl : Array (Option Value)), s.heap.get? l = some { cls := .type "list", data := .seq items n, slots := sl } ∧ items.size = N ∧ ∀ h1 : i < items.size, wpAny (model prog w) A.in1 (eqBool items[i] x) (fun r s' => r = false ∧ I (i + 1) s') (fun e s' => R (.error e) s') s)
    (fin : ∀ s, I N s → R (.ok (.ret (.bool false))) s) (k : Nat) : ∀ i : Nat, N - i = k → i ≤ N → ∀ s, I i s → wpAny (model prog w) A.in1 (Builtin.«list.__contains__.loop» ⟨[.ref l, x, rawInt i], []⟩) (GQ.FinOf prog w A R) (fun e s' => R (.error e) s') s := by
  induction k with
  | zero =>
    intro i hk hi s h
    obtain ⟨items, n, sl, hl1, hs1, _⟩ := hl _ _ h
    have hi' : i = N := by omega
    have hR : R (.ok (.ret (.bool false))) s := fin s (hi' ▸ h)
    obtain ⟨hp, g, d, tk, os⟩ := s
    wp_walk using wpAny_loadPart' hl1
    have hi1 : items[((i : Nat) : Int).toNat]? = none := by simp; omega
    rw [hi1]
    wp_walk
    exact hR
  | succ k ih =>
    intro i hk hi s h
    obtain ⟨items, n, sl, hl1, hs1, turn⟩ := hl _ _ h
    have hlt : i < items.size := by omega
    have ht := turn hlt
    obtain ⟨hp, g, d, tk, os⟩ := s
    wp_walk using wpAny_loadPart' hl1
    have hi1 : items[((i : Nat) : Int).toNat]? = some items[i] := by simp [hlt]
    have hc : ((i : Int) + 1) = ((i + 1 : Nat) : Int) := by omega
    rw [hi1]
    refine wpAny_bind (wpAny_mono ht (fun r s2 h2 => ?_) fun _ _ x => x)
    obtain ⟨rfl, h2⟩ := h2
    have hrec := ih (i + 1) (by omega) (by omega) s2 h2
    obtain ⟨hp2, g2, d2, tk2, os2⟩ := s2
    wp_walk
    rw [hc]
    exact ⟨plainId_quiet plain_contains_loop _, codeAny_builtin entry_contains_loop (by
      rw [Around.under_plainId plain_contains_loop _]
      exact hrec)⟩
theorem list_containsI (l : Addr) (N : Nat) (x : Value) (I : Nat → Shared → Prop) (hl : ∀ i s, I i s → ∃ (items : Array Value) (n : Nat) (sl : Array (Option Value)), s.heap.get? l = some { cls := .type "list", data := .seq items n, slots := sl } ∧ items.size = N ∧ ∀ h1 : i < items.size, wpAny (model prog w) A.in1 (eqBool items[i] x) (fun r s' => r = false ∧ I (i + 1) s') (fun e s' => R (.error e) s') s)
    (fin : ∀ s, I N s → R (.ok (.ret (.bool false))) s) {s : Shared} (h : I 0 s) : wpAny (model prog w) A.in1 (Builtin.«list.__contains__» ⟨[.ref l, x], []⟩) (GQ.FinOf prog w A R) (fun e s' => R (.error e) s') s := by
  obtain ⟨items, n, sl, hl1, _⟩ := hl _ _ h
  have hrec := list_contains_loopI (A := A) (R := R) l N x I hl fin _ 0 rfl (Nat.zero_le _) s h
  obtain ⟨hp, g, d, tk, os⟩ := s
  wp_walk using wpAny_loadPart' hl1
  exact ⟨plainId_quiet plain_contains_loop _, codeAny_builtin entry_contains_loop (by
    rw [Around.under_plainId plain_contains_loop _]
    exact hrec)⟩
end
section
variable {prog : Program} {w : World} {A : Around} {E : Value → Shared → Prop} {s : Shared}
theorem in_here {T id : String} {B : Builtin} {c x : Value} {Q : Value → Shared → Prop} (hT : s.TypeIs c T) (slot : Slot T "__contains__" id) (entry : entryFor table id = some B) (args : argsOk id ⟨[c, x], []⟩)
    (h : wpAny (model prog w) A.in1 (B ⟨[c, x], []⟩) (GQ.FinOf prog w A (wants (fun v s' => ∃ b, v = .bool b ∧ Q (.bool b) s') E)) (fun e s' => wants (fun v s' => ∃ b, v = .bool b ∧ Q (.bool b) s') E (.error e) s') s) : wpAny (model prog w) A (compareOp .In x c) Q E s := by
  show wpAny _ A (do return .bool (← contains c x)) Q E s
  refine wpAny_bind (wpAny_contains_slot hT slot (wpAny_mono (GQ.call_here slot hT entry args h) (fun v s' hv => ?_) fun _ _ e => e))
  obtain ⟨b, rfl, hq⟩ := hv
  exact wpAny_truthy_bool (wpAny_pure hq)
end
/-- == of a book and a value of a built-in kind -/
def spEqT (C : Addr) : Sp := fun vs H Q _ => ∃ (a : Addr) (y : V) (dx : Addr) (fs : List (Str × V)), vs = [.ref a, y] ∧ H a = some (.ins C dx fs) ∧ (∃ s, y = .str s) ∧ Q (.bl false) H
/-- what the comparison of a text with a book asks of the class -/
structure EqC (K : PySem.W.Frag) (C f : Addr) : Prop where
  at_ : PySem.W.findIn K (.ref C) "__eq__" = some (some (.ref f))
  fn : PySem.W.isFn K (.ref f) = true
  str : PySem.W.mroIn K C (.type "str") = some false
section
variable {X : Cx} {n : Nat} {C f : Addr} {fd : FuncData} {ps : List Str}
theorem eq_str_ins {A : Around} {pins : List (Addr × Obj)} {σ : L2.St} {H : Hp} {s : Shared} {a dx : Addr} {fs : List (Str × V)} {z : Str} {t : Tok} {Q : Bool → Shared → Prop} (G : FnOk X.prog X.w X.K X.mg X.base CX0 n f fd ps (spEqT C)) (hc : EqC X.K C f) (hb : Binds X.K fd ps [])
    (hr : Room n A) (e0 : Env0 X.prog X.w X.K X.mg X.base A X.stack s H) (I : Inv X pins σ H s) (ha : H a = some (.ins C dx fs)) (q : ∀ s', Inv X pins σ H s' → Q false s') : wpAny (model X.prog X.w) A (eqBool (.str z t) (.ref a)) Q X.xe s := by
  unfold eqBool
  refine wpAny_holding ?_
  refine wpAny_ite_split (fun hab => absurd (eq_of_beq hab) nofun) (fun _ => ?_)
  refine wpAny_bind ?_
  obtain ⟨mA, J, _⟩ := ins_get I.hok ha
  obtain ⟨od, J, _⟩ := J.look
  refine rc_refl hr.units0 I.kIn J (typeIs_str s z t) hc.str hc.at_ hc.fn F.slot_str_eq (fun Q' hq => call_meets F.slot_str_eq (typeIs_str s z t) F.entry_str_eq (F.args_str_eq_2 _ _) (str_dec z t a C dx) ⟨J.at_, hq⟩) ?_
  have hsp : spEqT C [.ref a, .str z] H (fun v H' => v = .bl false ∧ H' = H) (fun _ _ _ => False) := ⟨a, _, dx, fs, rfl, ha, ⟨z, rfl⟩, rfl, rfl⟩
  have hl := G.len _ _ _ _ hsp
  have r2 : Vals [V.ref a, V.str z] [Value.ref a, Value.str z t] := .cons rfl (.cons ⟨t, rfl⟩ .nil)
  refine wpAny_call (codeAny_mono (G.run A X.stack s H ⟨[.ref a, .str z t], []⟩ [.ref a, .str z t] [.ref a, .str z] _ _ hr e0 (by
    have := hb s [.ref a, .str z t] I.kIn (by simpa using hl)
    simpa using this) r2 hsp) fun r s' hq => ?_)
  cases r with
  | error e => exact (pass0 : Passes CX0 X fun _ _ _ => False) pins σ H s e s' I hq
  | ok fl =>
    cases fl with
    | ret w =>
      obtain ⟨y, H', I', rz, ez, eh⟩ := I.after hq
      subst ez eh
      cases rz
      exact wpAny_truthy_bool (q s' I')
    | next => exact False.elim hq
    | brk => exact False.elim hq
    | cont => exact False.elim hq
end
theorem str_item {ss : List Str} {its : List Value} (r : Vals (ss.map V.str) its) : ∀ y ∈ its, ∃ z t, y = Value.str z t := by
  induction ss generalizing its with
  | nil =>
    cases r
    intro y hy
    cases hy
  | cons s ss ih =>
    cases r with
    | cons h t =>
      intro y hy
      rcases List.mem_cons.mp hy with e | e
      · obtain ⟨u, hu⟩ := h
        exact ⟨s, u, by rw [e, hu]⟩
      · exact ih t y e
theorem any_false {its : Array Value} : its.any (fun _ => false) = false := by simp
section
variable {prog : Program} {w : World} {A : Around} {s : Shared} {E : Value → Shared → Prop}
theorem notIn_here {T id : String} {B : Builtin} {c x : Value} {Q : Value → Shared → Prop} (hT : s.TypeIs c T) (slot : Slot T "__contains__" id) (entry : entryFor table id = some B) (args : argsOk id ⟨[c, x], []⟩)
    (h : wpAny (model prog w) A.in1 (B ⟨[c, x], []⟩) (GQ.FinOf prog w A (wants (fun v s' => ∃ b, v = .bool b ∧ Q (.bool (!b)) s') E)) (fun e s' => wants (fun v s' => ∃ b, v = .bool b ∧ Q (.bool (!b)) s') E (.error e) s') s) : wpAny (model prog w) A (compareOp .NotIn x c) Q E s := by
  show wpAny _ A (do return .bool (!(← contains c x))) Q E s
  refine wpAny_bind (wpAny_contains_slot hT slot (wpAny_mono (GQ.call_here slot hT entry args h) (fun v s' hv => ?_) fun _ _ e => e))
  obtain ⟨b, rfl, hq⟩ := hv
  exact wpAny_truthy_bool (wpAny_pure hq)
end

section
variable {X : Cx} {n : Nat} {C f : Addr} {fd : FuncData} {ps : List Str}
theorem in_pure {A : Around} {H : Hp} {s : Shared} {pins : List (Addr × Obj)} {σ : L2.St} {p : Addr} {ss : List Str} {v : Value} {Q : Value → Shared → Prop} (neg : Bool) (I : Inv X pins σ H s) (hp : SqL X.K H p (ss.map V.str) ∨ SqT X.K H p (ss.map V.str))
    (he : ∀ (z : Str) (t : Tok), EqAt A.in1 s (.str z t) v false) (q : Q (.bool neg) s) : wpAny (model X.prog X.w) A (compareOp (if neg then .NotIn else .In) v (.ref p)) Q X.xe s := by
  rcases hp with hp | hp
  · obtain ⟨its, r, pl, hz⟩ := I.list hp
    have he' : ∀ y, y ∈ its.toArray → EqAt A.in1 s y v ((fun _ => false) y) := fun y hy => by
      obtain ⟨z, t, rfl⟩ := str_item r y (by simpa using hy)
      exact he z t
    cases neg with
    | true => exact notIn_listAt (fun _ => false) pl.isList he' (by rw [any_false]; exact q)
    | false => exact in_listAt (fun _ => false) pl.isList he' (by rw [any_false]; exact q)
  · obtain ⟨its, r, pl, hz⟩ := I.tuple hp
    have he' : ∀ y, y ∈ its.toArray → EqAt A.in1 s y v ((fun _ => false) y) := fun y hy => by
      obtain ⟨z, t, rfl⟩ := str_item r y (by simpa using hy)
      exact he z t
    cases neg with
    | true => exact notIn_tupleAt (fun _ => false) pl he' (by rw [any_false]; exact q)
    | false => exact in_tupleAt (fun _ => false) pl he' (by rw [any_false]; exact q)
theorem inq_here {T id : String} {B : Builtin} {c x : Value} {Q : Value → Shared → Prop} {prog : Program} {w : World} {A : Around} {s : Shared} {E : Value → Shared → Prop} (neg : Bool) (hT : s.TypeIs c T) (slot : Slot T "__contains__" id) (entry : entryFor table id = some B) (args : argsOk id ⟨[c, x], []⟩)
    (h : wpAny (model prog w) A.in1 (B ⟨[c, x], []⟩) (GQ.FinOf prog w A (wants (fun v s' => v = .bool false ∧ Q (.bool neg) s') E)) (fun e s' => wants (fun v s' => v = .bool false ∧ Q (.bool neg) s') E (.error e) s') s) : wpAny (model prog w) A (compareOp (if neg then .NotIn else .In) x c) Q E s := by
  cases neg with
  | true =>
    refine notIn_here hT slot entry args (wpAny_mono h (fun v s' hv => ?_) fun _ _ e => e)
    have st : ∀ r s'', wants (fun v s' => v = .bool false ∧ Q (.bool true) s') E r s'' → wants (fun v s' => ∃ b, v = .bool b ∧ Q (.bool (!b)) s') E r s'' := fun r s'' z => by
      cases r with
      | error e => exact z
      | ok fl =>
        cases fl with
        | ret u => exact ⟨false, z⟩
        | _ => exact z
    cases v with
    | done fin => exact st _ _ hv
    | again c => exact ⟨hv.1, codeAny_mono hv.2 st⟩
  | false =>
    refine in_here hT slot entry args (wpAny_mono h (fun v s' hv => ?_) fun _ _ e => e)
    have st : ∀ r s'', wants (fun v s' => v = .bool false ∧ Q (.bool false) s') E r s'' → wants (fun v s' => ∃ b, v = .bool b ∧ Q (.bool b) s') E r s'' := fun r s'' z => by
      cases r with
      | error e => exact z
      | ok fl =>
        cases fl with
        | ret u => exact ⟨false, z⟩
        | _ => exact z
    cases v with
    | done fin => exact st _ _ hv
    | again c => exact ⟨hv.1, codeAny_mono hv.2 st⟩
end
/-- what == asks of a class with its own def for it: False beside a text -/
def EqIns (X : Cx) (A : Addr) : Prop := ∃ f fd ps n, FnOk X.prog X.w X.K X.mg X.base CX0 n f fd ps (spEqT A) ∧ EqC X.K A f ∧ Binds X.K fd ps [] ∧ Room (n + 1) X.A
/-- an instance or a dict in a row of texts -/
def rInN (X : Cx) (neg : Bool) : R2 := fun u v H Q => ∃ (p a : Addr) (ss : List Str), v = .ref p ∧ u = .ref a ∧ (SqL X.K H p (ss.map V.str) ∨ SqT X.K H p (ss.map V.str)) ∧ ((∃ kvs, Rd H a (.dK kvs)) ∨ ∃ A dx fs, H a = some (.ins A dx fs) ∧ EqIns X A) ∧ Q (.bl neg) H
theorem op_inN {X : Cx} (hu : X.A.units + 1 < cLine) (neg : Bool) : OpR X (compareOp (if neg then .NotIn else .In)) (rInN X neg) := by
  intro pins s σ H x y u v Q I rx ry h
  obtain ⟨p, a, ss, rfl, rfl, hp, hv, q⟩ := h
  cases (show u = Value.ref a from rx)
  cases (show v = Value.ref p from ry)
  have fin : ∀ s', Inv X pins σ H s' → EP X pins σ Q (.bool neg) s' := fun s' I' => ⟨.bl neg, H, I', rfl, q⟩
  rcases hv with ⟨kvs, e⟩ | ⟨A, dx, fs, e, f, fd, ps, n, G, hc, hb, hr⟩
  · obtain ⟨_, _, vs, _, o, es, ep, h1, h2, h3, _⟩ := (show ObjOk X.prog X.w H s.heap a (.dK kvs) from e.ok I.hok)
    exact in_pure neg I hp (fun z t => eqAt_str_dict z t h1 h2.1 h3 hu) (fin s I)
  · have turn : ∀ (z : Str) (t : Tok) (s1 : Shared) (E : Value → Shared → Prop), Inv X pins σ H s1 → wpAny (model X.prog X.w) X.A.in1 (eqBool (.str z t) (.ref a)) (fun r s' => r = false ∧ Inv X pins σ H s') X.xe s1 := fun z t s1 E I1 =>
      eq_str_ins G hc hb hr.in1 I1.env0.in1 I1 e fun s' I' => ⟨rfl, I'⟩
    rcases hp with hp | hp
    · obtain ⟨its, r, ⟨⟨cls, dd, data, sl⟩, n', e1, hc1, hd1, hs1⟩, _⟩ := I.list hp
      simp only at hc1 hd1 hs1
      subst hc1 hd1 hs1
      refine inq_here neg ⟨_, e1, rfl⟩ F.slot_list_contains F.entry_list_contains (F.args_list_contains_2 _ _) ?_
      refine list_containsI p (ss.map V.str).length (.ref a) (fun _ s' => Inv X pins σ H s') (fun i s1 I1 => ?_) (fun s1 I1 => ⟨rfl, fin s1 I1⟩) I
      obtain ⟨its1, r1, ⟨⟨cls, dd, data, sl⟩, n', e1, hc1, hd1, hs1⟩, _⟩ := I1.list hp
      simp only at hc1 hd1 hs1
      subst hc1 hd1 hs1
      refine ⟨its1.toArray, n', sl, e1, by rw [List.size_toArray, ← r1.length], fun h1 => ?_⟩
      obtain ⟨y, t, ey⟩ := str_item r1 its1.toArray[i] (by simp)
      rw [ey]
      exact turn y t s1 (fun _ _ => True) I1
    · obtain ⟨its, r, pl, hz⟩ := I.tuple hp
      obtain ⟨⟨cls, dd, data, sl⟩, ho, hc', n', hd⟩ := id pl
      simp only at hc' hd
      subst hc' hd
      refine inq_here neg ⟨_, ho, rfl⟩ F.slot_tuple_contains F.entry_tuple_contains (F.args_tuple_contains_2 _ _) ?_
      refine tup_containsI p its.toArray n' dd sl (.ref a) (fun s' => Inv X pins σ H s') (fun y hy s1 I1 => ?_) (fun s1 I1 => ⟨rfl, fin s1 I1⟩) ho I
      obtain ⟨z, t, ey⟩ := str_item r y (by simpa using hy)
      rw [ey]
      exact turn z t s1 (fun _ _ => True) I1
end VM

namespace VM
open PySem L2 SeqAt PyProof.Rows
section
variable {C : Ct} {W : Wd} {g : Gs} {H : Hp} {X : Cx}

/-! ### dicts: keys -/
def keyK : D → Option Key
  | .int i => some (.inl i)
  | .str s => some (.inr s)
  | _ => none
theorem keyK_of {k : D} (h : isKey k = true) : ∃ κ, keyK k = some κ ∧ kD κ = k := by
  cases k <;> first
    | (exact ⟨_, rfl, rfl⟩)
    | cases h
theorem keyB_key (a b : Key) : keyB (kD a) (kD b) = decide (a = b) := by
  cases a <;> cases b
  · rename_i i j
    show (i == j) = _
    by_cases e : i = j
    · subst e; simp
    · rw [decide_eq_false (fun q => e (Sum.inl.inj q))]; simpa using e
  · exact (decide_eq_false fun q => nomatch q).symm
  · exact (decide_eq_false fun q => nomatch q).symm
  · rename_i i j
    show decide (i = j) = _
    by_cases e : i = j
    · subst e; simp
    · rw [decide_eq_false e, decide_eq_false (fun q => e (Sum.inr.inj q))]
theorem key_rep {κ : Key} {u : V} (h : Rep C W (kD κ) u) : u = kV κ := by
  cases κ with
  | inl i => exact rep_int h
  | inr s => exact rep_str h
theorem key_opd {κ : Key} {u : V} (h : Opd C W H (kD κ) u) : u = kV κ := by
  cases κ with
  | inl i => exact opd_int h
  | inr s => exact opd_str h
theorem keyFind_ok (κ : Key) : ∀ {kvs : List (Key × V)} {ds : List D}, RepL C W ds (kvs.map (·.2)) → match keyFind (kD κ) (kvs.map fun p => kD p.1) ds with
    | none => valV kvs κ = none
    | some d => ∃ v, valV kvs κ = some v ∧ Rep C W d v
  | [], _, h => by
    rw [List.map_nil] at h ⊢
    show valV [] κ = none
    rfl
  | p :: r, [], h => by
    rw [List.map_cons, RepL.eq_1] at h
    cases h
  | p :: r, d :: ds, h => by
    obtain ⟨v, vs, e, h1, h2⟩ := h.uncons
    rw [List.map_cons] at e
    cases e
    rw [List.map_cons]
    unfold keyFind
    rw [keyB_key]
    by_cases q : p.1 = κ
    · rw [decide_eq_true q, if_pos rfl]
      exact ⟨p.2, valV_pos q, h1⟩
    · rw [decide_eq_false q, if_neg Bool.false_ne_true, valV_neg q]
      exact keyFind_ok κ h2
theorem opd_dct (r : RelG C W g H) {i : Nat} {ks ds : List D} {v : V} (h : Opd C W H (.dct i ks ds) v) : ∃ a kvs, v = .ref a ∧ Rd H a (.dK kvs) ∧ ks = kvs.map (fun p => kD p.1) ∧ RepL C W ds (kvs.map (·.2)) := by
  rcases h with h | ⟨a, c, rfl, h, e, _⟩
  · obtain ⟨a, kvs, rfl, h1, h2, h3⟩ := rep_dct h
    exact ⟨a, kvs, rfl, r.rd h1, h2, h3⟩
  · cases c with
    | lst ys => cases e
    | dct ys zs =>
      cases e
      obtain ⟨kvs, h1, h2, h3⟩ := h
      exact ⟨a, kvs, rfl, .inl h1, h2, h3⟩
    | ins => cases e
theorem dctA_ok (r : RelG C W g H) {d : D} {q : List D × List D} {v : V} (e : dctA g d = some q) (h : Opd C W H d v) : ∃ a kvs, v = .ref a ∧ Rd H a (.dK kvs) ∧ q.1 = kvs.map (fun p => kD p.1) ∧ RepL C W q.2 (kvs.map (·.2)) := by
  cases d with
  | dct i ks ds => cases e; exact opd_dct r h
  | glo n =>
    simp only [dctA] at e
    cases z : g.cell n with
    | none => rw [z] at e; cases e
    | some c =>
      rw [z] at e
      cases c with
      | lst ys => cases e
      | dct ys zs =>
        cases e
        obtain ⟨a, rfl, _, _, kvs, h1, h2, h3⟩ := glo_cell r h z
        exact ⟨a, kvs, rfl, .inl h1, h2, h3⟩
      | ins => cases e
  | _ => cases e
theorem keyAt_ok {k : D} {ks ds : List D} {o : Option D} (e : keyAt k ks ds = some o) : ∃ κ, k = kD κ ∧ o = keyFind (kD κ) ks ds := by
  unfold keyAt at e
  split at e
  · rename_i hk
    obtain ⟨κ, _, rfl⟩ := keyK_of hk
    cases e
    exact ⟨κ, rfl, rfl⟩
  · cases e

/-! ### in -/
theorem bigU (hu : Big X) : X.A.units + 1 < cLine := by have : X.A.units + 100 < cLine := hu; omega
theorem op_inD (hu : Big X) : OpR X (compareOp .In) (fun y x H Q => ∃ a o, x = .ref a ∧ DGet H a y o ∧ Q (.bl o.isSome) H) := by
  intro pins s σ H x y v u Q I rx ry ⟨a, o, ex, dg, q⟩
  subst ex
  obtain rfl : u = Value.ref a := ry
  exact d_in (bigU hu) I dg rx fun s3 I3 => ⟨.bl o.isSome, H, I3, rfl, q⟩
theorem op_ninD (hu : Big X) : OpR X (compareOp .NotIn) (fun y x H Q => ∃ a o, x = .ref a ∧ DGet H a y o ∧ Q (.bl (!o.isSome)) H) := by
  intro pins s σ H x y v u Q I rx ry ⟨a, o, ex, dg, q⟩
  subst ex
  obtain rfl : u = Value.ref a := ry
  exact d_notIn (bigU hu) I dg rx fun s3 I3 => ⟨.bl (!o.isSome), H, I3, rfl, q⟩
def negB (o : Cop) (b : Bool) : D := match o with
  | .nin => .bl (!b)
  | _ => .bl b
/-- what == asks of the classes -/
def EqsX (C : Ct) (X : Cx) : Prop := ∀ c A, C.cA c = some A → EqIns X A
theorem strs_rep {C : Ct} {W : Wd} : ∀ {ys : List D} {vs : List V}, ys.all isStr = true → RepL C W ys vs → ∃ ss : List Str, vs = ss.map V.str
  | [], vs, _, h => ⟨[], h.nil_eq⟩
  | y :: ys, vs, a, h => by
    rw [List.all_cons, Bool.and_eq_true] at a
    obtain ⟨v, r, rfl, h1, h2⟩ := h.uncons
    obtain ⟨ss, rfl⟩ := strs_rep a.2 h2
    cases y with
    | str s => exact ⟨s :: ss, by rw [rep_str h1]; rfl⟩
    | _ => cases a.1
theorem in_strs (hK : X.K = C.K) (hu : Big X) (he : EqsX C X) {o : Cop} (ho : o = .inn ∨ o = .nin) {x y : D} {ys : List D} {b : Bool} (hs : seqA g y = some ys) (e : inStr x ys = some b) : CmpS C X g o x y (negB o b) := by
  have hb : b = false ∧ ys.all isStr = true := by
    unfold inStr at e
    split at e
    · split at e
      · rename_i h; cases e; exact ⟨rfl, h⟩
      · cases e
    · split at e
      · rename_i h; cases e; exact ⟨rfl, h⟩
      · cases e
    · cases e
  obtain ⟨rfl, hall⟩ := hb
  have key : ∀ {W : Wd} {H : Hp} {u v : V}, RelG C W g H → Opd C W H x u → Opd C W H y v → ∃ (p a : Addr) (ss : List Str), v = .ref p ∧ u = .ref a ∧ (SqL X.K H p (ss.map V.str) ∨ SqT X.K H p (ss.map V.str)) ∧ ((∃ kvs, Rd H a (.dK kvs)) ∨ ∃ A dx fs, H a = some (.ins A dx fs) ∧ EqIns X A) := fun {W H u v} r hx hy => by
    obtain ⟨p, vs, rfl, h1, h2⟩ := seqA_ok r hs hy
    obtain ⟨ss, rfl⟩ := strs_rep hall h2
    rw [hK]
    cases x with
    | dct i ks ds =>
      obtain ⟨a, kvs, rfl, k1, _⟩ := opd_dct r hx
      exact ⟨p, a, ss, rfl, rfl, h1, .inl ⟨kvs, k1⟩⟩
    | ins c i fs ds =>
      rcases hx with hx | ⟨_, c, _, _, z, _⟩
      · obtain ⟨a, A, dx, ws, rfl, k1, k2, _⟩ := rep_ins hx
        refine ⟨p, a, ss, rfl, rfl, h1, .inr ⟨A, dx, (fs.map C.fld).zip ws, ?_, he c A k1⟩⟩
        rcases r.le _ _ k2 with h | ⟨z, _⟩
        · exact h
        · exact z.elim
      · cases c with
        | lst => cases z
        | dct => cases z
        | ins k fs ds => rename_i hne; exact absurd rfl (hne k fs ds)
    | _ => cases e
  rcases ho with rfl | rfl
  · refine ⟨_, op_inN (bigU hu) false, fun {W H u v Q} r hx hy f => ?_⟩
    obtain ⟨p, a, ss, e1, e2, e3, e4⟩ := key r hx hy
    exact ⟨p, a, ss, e1, e2, e3, e4, f.now r rfl⟩
  · refine ⟨_, op_inN (bigU hu) true, fun {W H u v Q} r hx hy f => ?_⟩
    obtain ⟨p, a, ss, e1, e2, e3, e4⟩ := key r hx hy
    exact ⟨p, a, ss, e1, e2, e3, e4, f.now r rfl⟩
theorem in_seqL (hK : X.K = C.K) (hu : Big X) {o : Cop} (ho : o = .inn ∨ o = .nin) {x y : D} {ys : List D} {b : Bool} (hs : seqA g y = some ys) (e : inL x ys = some b) : CmpS C X g o x y (negB o b) := by
  have key : ∀ {W : Wd} {H : Hp} {u v : V}, RelG C W g H → Opd C W H x u → Opd C W H y v → ∃ W a vs, v = .ref a ∧ (SqL C.K H a vs ∨ SqT C.K H a vs) ∧ RepL C (atH W H) ys vs ∧ Rep C (atH W H) x u := fun {W H u v} r hx hy => by
    obtain ⟨a, vs, rfl, h1, h2⟩ := seqA_ok r hs hy
    exact ⟨W, a, vs, rfl, h1, r.repL _ _ h2, hx.now r⟩
  rcases ho with rfl | rfl
  · exact ⟨_, op_inX hK hu e, fun {W H u v Q} r hx hy f => ⟨key r hx hy, f.now r rfl⟩⟩
  · exact ⟨_, op_ninX hK hu e, fun {W H u v Q} r hx hy f => ⟨key r hx hy, f.now r rfl⟩⟩
theorem in_seq (hK : X.K = C.K) (hu : Big X) (he : EqsX C X) {o : Cop} (ho : o = .inn ∨ o = .nin) {x y : D} {ys : List D} {b : Bool} (hs : seqA g y = some ys) (e : inQ x ys = some b) : CmpS C X g o x y (negB o b) := by
  unfold inQ at e
  split at e
  · exact in_strs hK hu he ho hs e
  · rename_i c hc
    cases e
    exact in_seqL hK hu ho hs hc
theorem in_str {o : Cop} (ho : o = .inn ∨ o = .nin) {a b : Str} {c : Bool} (e : subStr a.cps.toList b.cps.toList = some c) : CmpS C X g o (.str a) (.str b) (negB o c) := by
  have h : ∃ n, a = ⟨#[n]⟩ ∧ c = decide (n ∈ b.cps.toList) := by
    unfold subStr at e
    split at e
    · rename_i n hn
      cases e
      refine ⟨n, ?_, rfl⟩
      obtain ⟨cps⟩ := a
      have : cps = #[n] := by
        have := congrArg List.toArray hn
        simpa using this
      rw [this]
    · cases e
  obtain ⟨n, rfl, rfl⟩ := h
  rcases ho with rfl | rfl
  · refine ⟨_, op_in_sign, fun {W H u v Q} r hx hy f => ?_⟩
    rw [opd_str hx, opd_str hy]
    exact ⟨n, b, rfl, rfl, f.now r rfl⟩
  · refine ⟨_, op_notIn_sign, fun {W H u v Q} r hx hy f => ?_⟩
    rw [opd_str hx, opd_str hy]
    exact ⟨n, b, rfl, rfl, f.now r rfl⟩
theorem dget_of (r : RelG C W g H) {d : D} {q : List D × List D} {v : V} (e : dctA g d = some q) (h : Opd C W H d v) (κ : Key) : ∃ a o, v = .ref a ∧ DGet H a (kV κ) o ∧ (match keyFind (kD κ) q.1 q.2 with
    | none => o = none
    | some d => ∃ w, o = some w ∧ Rep C W d w) := by
  obtain ⟨a, kvs, rfl, h1, h2, h3⟩ := dctA_ok r e h
  refine ⟨a, valV kvs κ, rfl, .inl ⟨kvs, κ, h1, rfl, rfl⟩, ?_⟩
  rw [h2]
  exact keyFind_ok κ h3
theorem in_dct (hu : Big X) {o : Cop} (ho : o = .inn ∨ o = .nin) {x y : D} {q : List D × List D} {b : Option D} (hs : dctA g y = some q) (e : keyAt x q.1 q.2 = some b) : CmpS C X g o x y (negB o b.isSome) := by
  obtain ⟨κ, rfl, rfl⟩ := keyAt_ok e
  have key : ∀ {W : Wd} {H : Hp} {v : V}, RelG C W g H → Opd C W H y v → ∃ a o, v = .ref a ∧ DGet H a (kV κ) o ∧ o.isSome = (keyFind (kD κ) q.1 q.2).isSome := fun {W H v} r hy => by
    obtain ⟨a, o, rfl, h1, h2⟩ := dget_of r hs hy κ
    refine ⟨a, o, rfl, h1, ?_⟩
    cases z : keyFind (kD κ) q.1 q.2 with
    | none => rw [z] at h2; rw [h2]; rfl
    | some d => rw [z] at h2; obtain ⟨w, h2, _⟩ := h2; rw [h2]; rfl
  rcases ho with rfl | rfl
  · refine ⟨_, op_inD hu, fun {W H u v Q} r hx hy f => ?_⟩
    obtain ⟨a, o, ev, h1, h2⟩ := key r hy
    rw [key_opd hx]
    exact ⟨a, o, ev, h1, by rw [h2]; exact f.now r rfl⟩
  · refine ⟨_, op_ninD hu, fun {W H u v Q} r hx hy f => ?_⟩
    obtain ⟨a, o, ev, h1, h2⟩ := key r hy
    rw [key_opd hx]
    exact ⟨a, o, ev, h1, by rw [h2]; exact f.now r rfl⟩
theorem in_ok (hK : X.K = C.K) (hu : Big X) (he : EqsX C X) {o : Cop} (ho : o = .inn ∨ o = .nin) {x y : D} {b : Bool} (e : inD g x y = some b) : CmpS C X g o x y (negB o b) := by
  cases y with
  | str b' =>
    cases x with
    | str a => exact in_str ho e
    | _ => cases e
  | dct i ks vs =>
    obtain ⟨o', h1, rfl⟩ := map_some (show (keyAt x ks vs).map (·.isSome) = some b from e)
    exact in_dct hu ho (q := (ks, vs)) rfl h1
  | tup ys => exact in_seq hK hu he ho rfl e
  | lst ys => exact in_seq hK hu he ho rfl e
  | kst ys => exact in_seq hK hu he ho rfl e
  | glo n =>
    simp only [inD] at e
    cases z : g.cell n with
    | none => rw [z] at e; cases e
    | some c =>
      rw [z] at e
      cases c with
      | lst ys => exact in_seq hK hu he ho (ys := ys) (by simp only [seqA, seqL, z]) e
      | dct ks vs =>
        obtain ⟨o', h1, rfl⟩ := map_some (show (keyAt x ks vs).map (·.isSome) = some b from e)
        exact in_dct hu ho (q := (ks, vs)) (by simp only [dctA, z]) h1
      | ins => cases e
  | _ => cases e
theorem sameD_shape {x y : D} {b : Bool} (e : sameD x y = some b) : y = .non ∨ (∃ a b, x = .bl a ∧ y = .bl b) ∨ ∃ s b, x = .str s ∧ y = .bl b := by
  cases y with
  | non => exact .inl rfl
  | bl c =>
    cases x with
    | bl a => exact .inr (.inl ⟨a, c, rfl, rfl⟩)
    | str a => exact .inr (.inr ⟨a, c, rfl, rfl⟩)
    | _ => cases e
  | _ => cases e
/-! ### == of dicts -/
theorem hits_at (hK : X.K = C.K) {pins : List (Addr × Obj)} {σ : L2.St} {s : Shared} (I : Inv X pins σ H s) {A : Around} (hu : A.units + EQ < cLine) {ks' : List (Key × V)} {vb : List (Key × Value)} (rb : KV ks' vb) {vs' : List D} (hv' : RepL C (atH W H) vs' (ks'.map (·.2))) : ∀ {kvs : List (Key × V)} {va : List (Key × Value)} {vs : List D} {b : Bool},
    KV kvs va → RepL C (atH W H) vs (kvs.map (·.2)) → hitsD (ks'.map fun p => kD p.1) vs' (kvs.map fun p => kD p.1) vs = some b → PySem.W.KeqHits A s vb va b
  | [], va, vs, b, ra, hv, e => by
    cases ra
    have : vs = [] := by
      cases vs with
      | nil => rfl
      | cons => obtain ⟨_, _, z, _⟩ := hv.uncons; cases z
    subst this
    cases e
    exact .nil
  | p :: kvs, va, vs, b, ra, hv, e => by
    cases ra with
    | @cons _ q _ va' h t =>
      obtain ⟨h1, h2⟩ := h
      cases vs with
      | nil => cases hv.nil_eq
      | cons d ds =>
        obtain ⟨v, r, ev, hv1, hv2⟩ := hv.uncons
        cases ev
        have ek : keyAt (kD p.1) (ks'.map fun p => kD p.1) vs' = some (keyFind (kD p.1) (ks'.map fun p => kD p.1) vs') := by
          unfold keyAt
          rw [if_pos (by cases p.1 <;> rfl)]
        have e : (match keyAt (kD p.1) (ks'.map fun p => kD p.1) vs' with
          | none => none
          | some none => some false
          | some (some w) => match eqI (eqD EQ) d w with
            | none => none
            | some a => match hitsD (ks'.map fun p => kD p.1) vs' (kvs.map fun p => kD p.1) ds with
              | none => none
              | some b => some (a && b)) = some b := e
        rw [ek] at e
        have kf := keyFind_ok (C := C) (W := atH W H) p.1 hv'
        obtain ⟨key, y⟩ := q
        have h1 : p.1 = key := h1
        subst h1
        have rr := rb.val p.1
        cases qk : keyFind (kD p.1) (ks'.map fun p => kD p.1) vs' with
        | none =>
          rw [qk] at e kf
          cases e
          have kf : valV ks' p.1 = none := kf
          rw [kf] at rr
          refine .miss ?_
          cases z : valueAt vb p.1 with
          | none => rfl
          | some y' => rw [z] at rr; exact rr.elim
        | some w =>
          rw [qk] at e kf
          obtain ⟨w', kf, kr⟩ := kf
          rw [kf] at rr
          obtain ⟨y', hy', ry'⟩ := rr.some_of
          have e : (match eqI (eqD EQ) d w with
            | none => none
            | some a => match hitsD (ks'.map fun p => kD p.1) vs' (kvs.map fun p => kD p.1) ds with
              | none => none
              | some b => some (a && b)) = some b := e
          cases qe : eqI (eqD EQ) d w with
          | none => rw [qe] at e; cases e
          | some a =>
            rw [qe] at e
            have e : (match hitsD (ks'.map fun p => kD p.1) vs' (kvs.map fun p => kD p.1) ds with
              | none => none
              | some b => some (a && b)) = some b := e
            cases qh : hitsD (ks'.map fun p => kD p.1) vs' (kvs.map fun p => kD p.1) ds with
            | none => rw [qh] at e; cases e
            | some c =>
              rw [qh] at e
              cases e
              exact .hit hy' (eqI_at qe hv1 kr h2 ry' fun qe => eqD_at hK I EQ d w a A p.2 w' y y' qe hv1 kr h2 ry' hu) (hits_at hK I hu rb hv' t hv2 qh)
/-- two dicts, and what == of them says -/
def rEqDct (C : Ct) (neg : Bool) (r : Bool) : R2 := fun u v H Q => (∃ W a b kvs kvs' vs vs', u = .ref a ∧ v = .ref b ∧ Rd H a (.dK kvs) ∧ Rd H b (.dK kvs') ∧ RepL C (atH W H) vs (kvs.map (·.2)) ∧ RepL C (atH W H) vs' (kvs'.map (·.2)) ∧
  (if kvs.length = kvs'.length then hitsD (kvs'.map fun p => kD p.1) vs' (kvs.map fun p => kD p.1) vs else some false) = some r) ∧ Q (.bl (if neg then !r else r)) H
theorem op_eqDct (hK : X.K = C.K) (hu : Big X) (neg r : Bool) : OpR X (compareOp (if neg then .NotEq else .Eq)) (rEqDct C neg r) := by
  intro pins s σ H u v uu vv Q I ru rv ⟨⟨W, a, b, kvs, kvs', vs, vs', eu, ev, ha, hb, h1, h2, e⟩, hq⟩
  subst eu ev
  cases ru
  cases rv
  obtain ⟨_, ya, va, ra, da⟩ := (show ObjOk X.prog X.w H s.heap a (.dK kvs) from ha.ok I.hok)
  obtain ⟨_, yb, vb, rb, db⟩ := (show ObjOk X.prog X.w H s.heap b (.dK kvs') from hb.ok I.hok)
  have la : kvs.length = va.length := ra.length
  have lb : kvs'.length = vb.length := rb.length
  have hu1 : X.A.in1.units + EQ < cLine := by have : X.A.units + 100 < cLine := hu; show X.A.units + 1 + 60 < cLine; omega
  have hu0 : X.A.units < cLine := by have : X.A.units + 100 < cLine := hu; omega
  have fin : ∀ c, c = (if neg then !r else r) → EP X pins σ Q (.bool c) s := fun c hc => ⟨.bl c, H, I, rfl, by rw [hc]; exact hq⟩
  by_cases hl : kvs.length = kvs'.length
  · rw [if_pos hl] at e
    have hh := hits_at hK I hu1 rb h2 ra h1 e
    have hv : (va.length == vb.length && r) = r := by rw [← la, ← lb, hl, beq_self_eq_true, Bool.true_and]
    cases neg with
    | true => exact PySem.W.keq_ne (knd := mixKind X.prog X.w) (r := r) ya yb da db hu0 (fun _ => hh) (by rw [hv]; exact fin _ rfl)
    | false => exact PySem.W.keq_eq (knd := mixKind X.prog X.w) (r := r) ya yb da db hu0 (fun _ => hh) (by rw [hv]; exact fin _ rfl)
  · rw [if_neg hl] at e
    cases e
    have hv : (va.length == vb.length) = false := by rw [← la, ← lb]; simpa using hl
    have no : ∀ {P : Prop}, va.length = vb.length → P := fun h => absurd (by rw [la, lb]; exact h) hl
    cases neg with
    | true => exact PySem.W.keq_ne (knd := mixKind X.prog X.w) (r := true) ya yb da db hu0 no (by rw [hv]; exact fin _ rfl)
    | false => exact PySem.W.keq_eq (knd := mixKind X.prog X.w) (r := true) ya yb da db hu0 no (by rw [hv]; exact fin _ rfl)
theorem eqT_shape {x y : D} {b : Bool} (e : eqT x y = some b) : eqD EQ x y = some b ∨ ∃ i ks vs j ks' vs', x = .dct i ks vs ∧ y = .dct j ks' vs' ∧ (if ks.length = ks'.length then hitsD ks' vs' ks vs else some false) = some b := by
  cases x with
  | dct i ks vs =>
    cases y with
    | dct j ks' vs' => exact .inr ⟨i, ks, vs, j, ks', vs', rfl, rfl, e⟩
    | _ => cases e
  | _ => exact .inl e
theorem eq_dct (hK : X.K = C.K) (hu : Big X) (neg : Bool) {i j : Nat} {ks vs ks' vs' : List D} {b : Bool} (e : (if ks.length = ks'.length then hitsD ks' vs' ks vs else some false) = some b) : CmpS C X g (if neg then .ne else .eq) (.dct i ks vs) (.dct j ks' vs') (.bl (if neg then !b else b)) := by
  have ho : coOf (if neg then Cop.ne else .eq) = (if neg then CmpOp.NotEq else .Eq) := by cases neg <;> rfl
  refine ⟨rEqDct C neg b, by rw [ho]; exact op_eqDct hK hu neg b, fun {W H u v Q} r hx hy f => ?_⟩
  refine ⟨?_, f.now r (by cases neg <;> rfl)⟩
  obtain ⟨a, kvs, rfl, h1, h2, h3⟩ := opd_dct r hx
  obtain ⟨a', kvs', rfl, k1, k2, k3⟩ := opd_dct r hy
  refine ⟨W, a, a', kvs, kvs', vs, vs', rfl, rfl, h1, k1, r.repL _ _ h3, r.repL _ _ k3, ?_⟩
  rw [h2, k2, List.length_map, List.length_map] at e
  exact e
theorem cmp_eq (hK : X.K = C.K) (hu : Big X) {x y d : D} (e : cmpD g .eq x y = some d) : CmpS C X g .eq x y d := by
  obtain ⟨b, h1, rfl⟩ := map_some (show (eqT x y).map D.bl = some d from e)
  rcases eqT_shape h1 with h | ⟨i, ks, vs, j, ks', vs', rfl, rfl, h⟩
  · exact cmp_eqD hK hu h
  · exact eq_dct hK hu false h
theorem cmp_ne (hK : X.K = C.K) (hu : Big X) {x y d : D} (e : cmpD g .ne x y = some d) : CmpS C X g .ne x y d := by
  obtain ⟨b, h1, rfl⟩ := map_some (show (eqT x y).map (fun r => D.bl (!r)) = some d from e)
  rcases eqT_shape h1 with h | ⟨i, ks, vs, j, ks', vs', rfl, rfl, h⟩
  · exact cmp_neD hK hu h
  · exact eq_dct hK hu true h
/-- all comparisons but is with a right side that is not None and not of two bools -/
theorem cmp_ok (hK : X.K = C.K) (hu : Big X) {o : Cop} (he : o = .inn ∨ o = .nin → EqsX C X) {x y d : D} (e : cmpD g o x y = some d) : CmpS C X g o x y d := by
  cases o with
  | eq => exact cmp_eq hK hu e
  | ne => exact cmp_ne hK hu e
  | lt => exact cmp_lt e
  | le => exact cmp_le e
  | gt => exact cmp_gt e
  | ge => exact cmp_ge e
  | inn =>
    obtain ⟨b, h1, rfl⟩ := map_some (show (inD g x y).map D.bl = some d from e)
    exact in_ok hK hu (he (.inl rfl)) (.inl rfl) h1
  | nin =>
    obtain ⟨b, h1, rfl⟩ := map_some (show ((inD g x y).map fun r => D.bl (!r)) = some d from e)
    exact in_ok hK hu (he (.inr rfl)) (.inr rfl) h1
  | is_ =>
    obtain ⟨b, h1, _⟩ := map_some (show (sameD x y).map D.bl = some d from e)
    exact cmp_is e (sameD_shape h1)
  | isn =>
    obtain ⟨b, h1, _⟩ := map_some (show ((sameD x y).map fun r => D.bl (!r)) = some d from e)
    exact cmp_isn e (sameD_shape h1)

/-! ### a[i] -/
def IxS (C : Ct) (X : Cx) (g : Gs) (x y d : D) : Prop := ∃ R : R2, IxR X R ∧
  ∀ {W : Wd} {H : Hp} {u v : V} {Q : VK}, RelG C W g H → Opd C W H x u → Opd C W H y v → Fin C W g H d Q → R u v H Q
theorem ix_dk (hu : Big X) : IxR X (fun x y H Q => ∃ a v, x = .ref a ∧ DGet H a y (some v) ∧ Q v H) := by
  intro value slice pins s σ H x y v u Q I rx ry ⟨a, z, ex, dg, q⟩ hs
  subst ex
  obtain rfl : v = Value.ref a := rx
  exact tail_any (dict_typeIs I dg) PySem.F.slot_dict_getitem.lookup (d_getItem (bigU hu) I dg ry fun w' s3 I3 rw' => ⟨z, H, I3, rw', q⟩) hs
theorem atI_eq {α : Type} (xs : List α) (i : Int) : atI xs i = L2.atI xs i := rfl
theorem repL_atI {xs : List D} {vs : List V} {i : Int} {d : D} (h : RepL C W xs vs) (e : atI xs i = some d) : ∃ v, L2.atI vs i = some v ∧ Rep C W d v := by
  unfold atI at e
  unfold L2.atI
  rw [h.length]
  show ∃ v, ((L2.ixN xs.length i).bind fun j => vs[j]?) = some v ∧ _
  have e2 : ((L2.ixN xs.length i).bind fun j => xs[j]?) = some d := e
  cases q : L2.ixN xs.length i with
  | none => rw [q] at e2; cases e2
  | some j =>
    rw [q] at e2
    exact h.get (i := j) e2
theorem ix_seqA (hK : X.K = C.K) {x d : D} {xs : List D} {i : Int} (hs : seqA g x = some xs) (e : atI xs i = some d) : IxS C X g x (.int i) d := by
  refine ⟨_, ix_seq, fun {W H u v Q} r hx hy f => ?_⟩
  rw [opd_int hy]
  obtain ⟨a, vs, rfl, h1, h2⟩ := seqA_ok r hs hx
  obtain ⟨v, e1, rv⟩ := repL_atI h2 e
  rcases h1 with h1 | h1
  · exact .inl ⟨a, vs, i, v, rfl, rfl, by rw [hK]; exact h1, e1, f.now r rv⟩
  · exact .inr (.inl ⟨a, vs, i, v, rfl, rfl, by rw [hK]; exact h1, e1, f.now r rv⟩)
theorem ix_str' {s : Str} {d : D} {i : Int} (e : (if s.cps.size ≤ sizeM then (atI s.cps.toList i).map ch else none) = some d) : IxS C X g (.str s) (.int i) d := by
  split at e
  · rename_i hz
    obtain ⟨c, h1, rfl⟩ := map_some e
    refine ⟨_, ix_str, fun {W H u v Q} r hx hy f => ?_⟩
    rw [opd_int hy, opd_str hx]
    exact ⟨s, i, c, rfl, rfl, szM hz, h1, f.now r rfl⟩
  · cases e
theorem ix_dct (hu : Big X) {x y d : D} {q : List D × List D} (hs : dctA g x = some q) (e : (keyAt y q.1 q.2).bind id = some d) : IxS C X g x y d := by
  cases z : keyAt y q.1 q.2 with
  | none => rw [z] at e; cases e
  | some o =>
    rw [z] at e
    have e2 : o = some d := e
    subst e2
    obtain ⟨κ, rfl, h⟩ := keyAt_ok z
    refine ⟨_, ix_dk hu, fun {W H u v Q} r hx hy f => ?_⟩
    obtain ⟨a, o, rfl, h1, h2⟩ := dget_of r hs hx κ
    rw [← h] at h2
    obtain ⟨w, rfl, hw⟩ := h2
    rw [key_opd hy]
    exact ⟨a, w, rfl, h1, f.now r hw⟩
theorem keyFind_at {z : Str} {us : List V} : ∀ {ks ds : List D} {d : D}, keyFind (.str z) ks ds = some d → RepL C W ds us → ∃ (i : Nat) (u : V), ks[i]? = some (D.str z) ∧ us[i]? = some u ∧ Rep C W d u := by
  intro ks
  induction ks generalizing us with
  | nil => intro ds d e h; cases e
  | cons y ys ih =>
    intro ds d e h
    cases ds with
    | nil => cases e
    | cons v vs =>
      obtain ⟨u, r, rfl, h1, h2⟩ := h.uncons
      have e : (if keyB y (.str z) then some v else keyFind (.str z) ys vs) = some d := e
      split at e
      · rename_i hk
        cases e
        cases y with
        | str s =>
          have hk : decide (s = z) = true := hk
          cases of_decide_eq_true hk
          exact ⟨0, u, rfl, rfl, h1⟩
        | _ => cases hk
      · obtain ⟨i, w, k1, k2, k3⟩ := ih e h2
        exact ⟨i + 1, w, k1, k2, k3⟩
theorem ix_kdc (hK : X.K = C.K) (hw : X.w = C.wd) {ks ds : List D} {z : Str} {d : D} (e : keyFind (.str z) ks ds = some d) : IxS C X g (.kdc ks ds) (.str z) d := by
  refine ⟨_, ix_kdict, fun {W H u v Q} r hx hy f => ?_⟩
  obtain ⟨a, us, rfl, h1, h2⟩ := rep_kdc hx.kdc
  rw [opd_str hy]
  obtain ⟨i, w, k1, k2, k3⟩ := keyFind_at e h2
  exact ⟨a, z, w, rfl, rfl, by rw [hK, hw]; exact h1 i z w k1 k2, f.now r k3⟩
theorem idx_ok (hK : X.K = C.K) (hw : X.w = C.wd) (hu : Big X) {x y d : D} (e : idxD g x y = some d) : IxS C X g x y d := by
  cases x with
  | tup xs => cases y with
    | int i => exact ix_seqA hK rfl e
    | _ => cases e
  | lst xs => cases y with
    | int i => exact ix_seqA hK rfl e
    | _ => cases e
  | kst xs => cases y with
    | int i => exact ix_seqA hK rfl e
    | _ => cases e
  | kdc ks ds => cases y with
    | str z => exact ix_kdc hK hw e
    | _ => cases e
  | str s => cases y with
    | int i => exact ix_str' e
    | _ => cases e
  | dct i ks vs => exact ix_dct hu (q := (ks, vs)) rfl e
  | glo n =>
    simp only [idxD] at e
    cases z : g.cell n with
    | none => rw [z] at e; cases e
    | some c =>
      rw [z] at e
      cases c with
      | lst xs => cases y with
        | int i => exact ix_seqA hK (xs := xs) (by simp only [seqA, seqL, z]) e
        | _ => cases e
      | dct ks vs => exact ix_dct hu (q := (ks, vs)) (by simp only [dctA, z]) e
      | ins => cases e
  | _ => cases e

/-! ### a[lo:hi] -/
def SlS (C : Ct) (X : Cx) (g : Gs) (x : D) (lo hi : Option Int) (d : D) : Prop := ∃ R, SlR X R ∧
  ∀ {W : Wd} {H : Hp} {u : V} {Q : VK}, RelG C W g H → Opd C W H x u → Fin C W g H d Q → R u lo hi H Q
theorem RepL.cut {xs : List D} {vs : List V} (h : RepL C W xs vs) (lo hi : Option Int) : RepL C W (cutL xs lo hi) (cutV vs lo hi) := by
  unfold cutV
  rw [h.length]
  exact (h.drop _).take _
theorem cutL_all {xs : List D} {lo hi : Option Int} (h1 : sIx xs.length 0 lo = 0) (h2 : sIx xs.length xs.length hi = xs.length) : cutL xs lo hi = xs := by
  unfold cutL
  rw [h1, h2, List.drop_zero, Nat.sub_zero, List.take_length]
theorem sl_ok (hK : X.K = C.K) {x d : D} {lo hi : Option Int} (e : slD g x lo hi = some d) : SlS C X g x lo hi d := by
  have lst : (match seqL g x with
      | some xs => some (D.lst (cutL xs lo hi))
      | none => none) = some d → SlS C X g x lo hi d := fun e => by
    cases z : seqL g x with
    | none => rw [z] at e; cases e
    | some xs =>
      rw [z] at e
      cases e
      refine ⟨_, sl_list, fun {W H u Q} r hx f => ?_⟩
      obtain ⟨a, vs, rfl, h1, h2⟩ := seqL_ok r z hx
      exact ⟨a, vs, rfl, .inl h1, fun p hp => f.lst r (h2.cut lo hi) hp⟩
  cases x with
  | tup xs =>
    cases e
    refine ⟨_, sl_tupA, fun {W H u Q} r hx f => ?_⟩
    obtain ⟨a, vs, rfl, h1, h2⟩ := rep_tup hx.tup
    refine ⟨a, vs, rfl, by rw [hK]; exact r.sqT h1, fun ⟨z1, z2⟩ => ?_, fun _ p hp => f.tup r (h2.cut lo hi) hp⟩
    rw [h2.length] at z1 z2
    rw [cutL_all z1 z2] at f
    exact f.now r hx.tup
  | str s =>
    have e2 : (if s.cps.size ≤ sizeM then some (D.str (strOf (cutL s.cps.toList lo hi))) else none) = some d := e
    split at e2
    · rename_i hz
      cases e2
      refine ⟨_, sl_str, fun {W H u Q} r hx f => ?_⟩
      rw [opd_str hx]
      refine ⟨s, rfl, szM hz, f.now r ?_⟩
      show _ = _
      unfold strOf cutL cutS
      rw [Array.length_toList]
      rfl
    · cases e2
  | lst xs => exact lst e
  | kst xs =>
    cases e
    refine ⟨_, sl_list, fun {W H u Q} r hx f => ?_⟩
    obtain ⟨a, vs, rfl, h1, h2⟩ := rep_kst hx.kst
    exact ⟨a, vs, rfl, by rw [hK]; exact r.sqL h1, fun p hp => f.lst r (h2.cut lo hi) hp⟩
  | glo n => exact lst e
  | _ => cases e
end
end VM

namespace VM
open PySem L2 SeqAt PyProof.Rows
section
variable {C : Ct} {W : Wd} {g : Gs} {H : Hp} {X : Cx}

/-! ### truth -/
theorem tru_d : TruR X (fun x H Q => ∃ a kvs, x = .ref a ∧ Rd H a (.dK kvs) ∧ Q (!kvs.isEmpty) H) := by
  intro pins s σ H x v Q I rx ⟨a, kvs, ex, h, q⟩
  subst ex
  obtain rfl : v = Value.ref a := rx
  exact d_truth I h fun s' I' => ⟨H, I', q⟩
def TruS (C : Ct) (X : Cx) (g : Gs) (x : D) (b : Bool) : Prop := ∃ R, TruR X R ∧
  ∀ {W : Wd} {H : Hp} {u : V} {Q : Bool → Hp → Prop}, RelG C W g H → Opd C W H x u → Q b H → R u H Q
theorem isEmpty_rep {xs : List D} {vs : List V} (h : RepL C W xs vs) : vs.isEmpty = xs.isEmpty := by
  cases xs with
  | nil => rw [h.nil_eq]; rfl
  | cons x r =>
    obtain ⟨v, r', rfl, _, _⟩ := h.uncons
    rfl
theorem tru_plain (hK : X.K = C.K) {x : D} {b : Bool} (h : ∀ {W : Wd} {H : Hp} {u : V}, RelG C W g H → Opd C W H x u → TruV C.K u H b) : TruS C X g x b :=
  ⟨_, tru_ok, fun {W H u Q} r hx q => ⟨b, by rw [hK]; exact h r hx, q⟩⟩
theorem tru_seq (hK : X.K = C.K) {x : D} {xs : List D} (e : seqA g x = some xs) : TruS C X g x (!xs.isEmpty) :=
  tru_plain hK fun {W H u} r hx => by
    obtain ⟨a, vs, rfl, h1, h2⟩ := seqA_ok r e hx
    rw [← isEmpty_rep h2]
    rcases h1 with h1 | h1
    · exact .inl ⟨vs, h1, rfl⟩
    · exact .inr (.inl ⟨vs, h1, rfl⟩)
theorem tru_dct {x : D} {q : List D × List D} (e : dctA g x = some q) : TruS C X g x (!q.1.isEmpty) :=
  ⟨_, tru_d, fun {W H u Q} r hx f => by
    obtain ⟨a, kvs, rfl, h1, h2, h3⟩ := dctA_ok r e hx
    refine ⟨a, kvs, rfl, h1, ?_⟩
    have : q.1.isEmpty = kvs.isEmpty := by
      rw [h2]
      cases kvs <;> rfl
    rw [← this]
    exact f⟩
theorem tru_D (hK : X.K = C.K) {x : D} {b : Bool} (e : truthD g x = some b) : TruS C X g x b := by
  cases x with
  | non => cases e; exact tru_plain hK fun r h => by rw [opd_non h]; rfl
  | bl c => cases e; exact tru_plain hK fun r h => by rw [opd_bl h]; rfl
  | int i =>
    cases e
    exact tru_plain hK fun r h => by
      rw [opd_int h]
      show decide (i ≠ 0) = (i != 0)
      by_cases z : i = 0
      · subst z; rfl
      · rw [decide_eq_true z]
        simpa using z
  | str s =>
    have e2 : (if s.cps.size ≤ sizeM then some (decide (s.cps.size ≠ 0)) else none) = some b := e
    split at e2
    · rename_i hz
      cases e2
      exact tru_plain hK fun r h => by
        rw [opd_str h]
        refine ⟨szM hz, ?_⟩
        show decide (s.cps.size ≠ 0) = ((s.cps.size : Int) != 0)
        by_cases z : s.cps.size = 0
        · rw [z]; rfl
        · rw [decide_eq_true z]
          have : ((s.cps.size : Int) ≠ 0) := by omega
          simpa using this
    · cases e2
  | tup xs => cases e; exact tru_seq hK rfl
  | lst xs => cases e; exact tru_seq hK rfl
  | kst xs => cases e; exact tru_seq hK rfl
  | kdc => cases e
  | dct i ks vs => cases e; exact tru_dct (q := (ks, vs)) rfl
  | ins => cases e
  | fn => cases e
  | glo n =>
    simp only [truthD] at e
    cases z : g.cell n with
    | none => rw [z] at e; cases e
    | some c =>
      rw [z] at e
      cases c with
      | lst ys => cases e; exact tru_seq hK (by simp only [seqA, seqL, z])
      | dct ks vs => cases e; exact tru_dct (q := (ks, vs)) (by simp only [dctA, z])
      | ins => cases e

/-! ### len -/
theorem call_lenD : CallR X (.builtin "len") (fun xs H Q => ∃ a kvs, xs = [.ref a] ∧ Rd H a (.dK kvs) ∧ Q (.int kvs.length) H) := by
  intro pins s σ H xs us Q I r ⟨a, kvs, ex, h, q⟩
  subst ex
  obtain ⟨u, rfl, ru⟩ := vals1 r
  obtain rfl : u = Value.ref a := ru
  exact d_len I h fun t s' I' => ⟨.int kvs.length, H, I', ⟨t, rfl⟩, q⟩
def Call1S (C : Ct) (X : Cx) (g : Gs) (f : Value) (x d : D) : Prop := ∃ R, CallR X f R ∧
  ∀ {W : Wd} {H : Hp} {u : V} {Q : VK}, RelG C W g H → Opd C W H x u → Fin C W g H d Q → R [u] H Q
theorem len_ok (hK : X.K = C.K) {x d : D} (e : (lenD g x).map (fun n : Nat => D.int n) = some d) : Call1S C X g (.builtin "len") x d := by
  obtain ⟨n, h, rfl⟩ := map_some e
  have seq : ∀ {xs : List D}, seqA g x = some xs → n = xs.length → Call1S C X g (.builtin "len") x (.int n) := fun {xs} e en =>
    ⟨_, call_len, fun {W H u Q} r hx f => by
      obtain ⟨a, vs, rfl, h1, h2⟩ := seqA_ok r e hx
      refine ⟨.ref a, n, rfl, ?_, f.now r rfl⟩
      rw [hK, en, ← h2.length]
      rcases h1 with h1 | h1
      · exact .inl ⟨vs, h1, rfl⟩
      · exact .inr ⟨vs, h1, rfl⟩⟩
  have dct : ∀ {q : List D × List D}, dctA g x = some q → n = q.1.length → Call1S C X g (.builtin "len") x (.int n) := fun {q} e en =>
    ⟨_, call_lenD, fun {W H u Q} r hx f => by
      obtain ⟨a, kvs, rfl, h1, h2, h3⟩ := dctA_ok r e hx
      have : n = kvs.length := by rw [en, h2, List.length_map]
      subst this
      exact ⟨a, kvs, rfl, h1, f.now r rfl⟩⟩
  cases x with
  | tup xs => exact seq rfl (Option.some.inj h).symm
  | lst xs => exact seq rfl (Option.some.inj h).symm
  | kst xs => exact seq rfl (Option.some.inj h).symm
  | str s =>
    have e2 : (if s.cps.size ≤ sizeM then some s.cps.size else none) = some n := h
    split at e2
    · rename_i hz
      cases e2
      refine ⟨_, call_len, fun {W H u Q} r hx f => ?_⟩
      rw [opd_str hx]
      exact ⟨.str s, s.cps.size, rfl, ⟨szM hz, rfl⟩, f.now r rfl⟩
    · cases e2
  | dct i ks vs => exact dct (q := (ks, vs)) rfl (Option.some.inj h).symm
  | glo m =>
    simp only [lenD] at h
    cases z : g.cell m with
    | none => rw [z] at h; cases h
    | some c =>
      rw [z] at h
      cases c with
      | lst ys => exact seq (xs := ys) (by simp only [seqA, seqL, z]) (Option.some.inj h).symm
      | dct ks vs => exact dct (q := (ks, vs)) (by simp only [dctA, z]) (Option.some.inj h).symm
      | ins => cases h
  | _ => cases h

/-! ### isinstance -/
def tyN : Ty → String
  | .int => "int"
  | .bool => "bool"
  | .str => "str"
  | .list => "list"
  | .tuple => "tuple"
  | .dict => "dict"
  | .cls _ => ""
def bNames : List String := ["NoneType", "bool", "int", "str", "list", "tuple", "dict"]
def bTys : List Ty := [.int, .bool, .str, .list, .tuple, .dict]
theorem kit_tab : (bNames.all fun a => bTys.all fun t => kitB a (tyN t) == some (a == tyN t || (a == "bool" && t == Ty.int))) = true := by decide +kernel
/-- what is known of the classes -/
structure CIs (C : Ct) (Gam : Prog) : Prop where
  /-- the classes of plain instances -/
  ty : ∀ c A, C.cA c = some A → ∀ {H : Hp} {a dx : Addr} {fs : List (Str × V)}, H a = some (.ins A dx fs) → TyOf C.K H (.ref a) (.ref A)
  cc : ∀ c A t T, C.cA c = some A → C.cA t = some T → PySem.W.kitOne C.K (.ref A) (.ref T) = some (isC Gam c t)
  cb : ∀ c A t, C.cA c = some A → t ∈ bTys → PySem.W.kitOne C.K (.ref A) (.type (tyN t)) = some false
  bc : ∀ n t T, n ∈ bNames → C.cA t = some T → PySem.W.kitOne C.K (.type n) (.ref T) = some false
/-- a class as a value -/
def TyV (C : Ct) : Ty → V → Value → Prop
  | .cls c, v, u => ∃ A, C.cA c = some A ∧ v = .ref A ∧ u = .ref A
  | t, v, u => v = .ty (tyN t) ∧ u = .type (tyN t)
theorem TyV.cls {t : Ty} {v : V} {u : Value} (h : TyV C t v u) : ClsV v u := by
  cases t with
  | cls c => obtain ⟨A, _, rfl, rfl⟩ := h; exact .own A
  | _ => obtain ⟨rfl, rfl⟩ := h; exact .ty _
theorem kit_b {n : String} (hn : n ∈ bNames) {t : Ty} (ht : t ∈ bTys) : PySem.W.kitOne C.K (.type n) (.type (tyN t)) = some (n == tyN t || (n == "bool" && t == Ty.int)) := by
  have h := kit_tab
  rw [List.all_eq_true] at h
  have h2 := h n hn
  rw [List.all_eq_true] at h2
  exact kit_ty (beq_iff_eq.mp (h2 t ht))
/-- a value's type, and the answers -/
def TyAns (C : Ct) (Gam : Prog) (g : Gs) (x : D) (K : PySem.W.Frag) (H : Hp) (u : V) : Prop :=
  ∃ t, TyX K H u t ∧ ∀ ty b v cu, isT Gam g x ty = some b → TyV C ty v cu → PySem.W.kitOne C.K t cu = some b
theorem ans_b {Gam : Prog} (I : CIs C Gam) {n : String} (hn : n ∈ bNames) {x : D} {g : Gs} (h : ∀ ty, isT Gam g x ty = some (match ty with
    | .cls _ => false
    | t => (n == tyN t || (n == "bool" && t == Ty.int)))) : ∀ ty b v cu, isT Gam g x ty = some b → TyV C ty v cu → PySem.W.kitOne C.K (.type n) cu = some b := fun ty b v cu e hv => by
  rw [h ty] at e
  cases e
  cases ty with
  | cls c =>
    obtain ⟨A, h1, rfl, rfl⟩ := hv
    exact I.bc n c A hn h1
  | int => obtain ⟨rfl, rfl⟩ := hv; exact kit_b hn (by decide)
  | bool => obtain ⟨rfl, rfl⟩ := hv; exact kit_b hn (by decide)
  | str => obtain ⟨rfl, rfl⟩ := hv; exact kit_b hn (by decide)
  | list => obtain ⟨rfl, rfl⟩ := hv; exact kit_b hn (by decide)
  | tuple => obtain ⟨rfl, rfl⟩ := hv; exact kit_b hn (by decide)
  | dict => obtain ⟨rfl, rfl⟩ := hv; exact kit_b hn (by decide)
theorem ans_i {Gam : Prog} (I : CIs C Gam) {c : Nat} {A : Addr} (hA : C.cA c = some A) {x : D} {g : Gs} (h : ∀ ty, isT Gam g x ty = some (match ty with
    | .cls t => isC Gam c t
    | _ => false)) : ∀ ty b v cu, isT Gam g x ty = some b → TyV C ty v cu → PySem.W.kitOne C.K (.ref A) cu = some b := fun ty b v cu e hv => by
  rw [h ty] at e
  cases e
  cases ty with
  | cls t =>
    obtain ⟨T, h1, rfl, rfl⟩ := hv
    exact I.cc c A t T hA h1
  | int => obtain ⟨rfl, rfl⟩ := hv; exact I.cb c A .int hA (by decide)
  | bool => obtain ⟨rfl, rfl⟩ := hv; exact I.cb c A .bool hA (by decide)
  | str => obtain ⟨rfl, rfl⟩ := hv; exact I.cb c A .str hA (by decide)
  | list => obtain ⟨rfl, rfl⟩ := hv; exact I.cb c A .list hA (by decide)
  | tuple => obtain ⟨rfl, rfl⟩ := hv; exact I.cb c A .tuple hA (by decide)
  | dict => obtain ⟨rfl, rfl⟩ := hv; exact I.cb c A .dict hA (by decide)
theorem tyx_lst {K : PySem.W.Frag} {a : Addr} {vs : List V} (h : Rd H a (.lst vs)) : TyX K H (.ref a) (.type "list") := by
  rcases h with h | ⟨o, h⟩
  · exact .base (.lst h)
  · exact .base (.frz h)
theorem tyx_tup {K : PySem.W.Frag} {a : Addr} {vs : List V} (h : SqT K H a vs) : TyX K H (.ref a) (.type "tuple") := by
  rcases h with (h | ⟨o, h⟩) | ⟨o, its, n, e, hc, _⟩
  · exact .base (.tup h)
  · exact .fTuple h
  · exact .kTuple e hc
theorem tyx_dct {K : PySem.W.Frag} {a : Addr} {kvs : List (Key × V)} (h : Rd H a (.dK kvs)) : TyX K H (.ref a) (.type "dict") := by
  rcases h with h | ⟨o, h⟩
  · exact .base (.dK h)
  · exact .fDict h
theorem ty_of {Gam : Prog} (I : CIs C Gam) {x : D} {u : V} (r : RelG C W g H) (h : Opd C W H x u) (hx : ∃ t b, isT Gam g x t = some b) : TyAns C Gam g x C.K H u := by
  cases x with
  | non => rw [opd_non h]; exact ⟨_, .base .non, ans_b I (n := "NoneType") (by decide) fun ty => by cases ty <;> rfl⟩
  | bl b => rw [opd_bl h]; exact ⟨_, .base (.bl b), ans_b I (n := "bool") (by decide) fun ty => by cases ty <;> rfl⟩
  | int i => rw [opd_int h]; exact ⟨_, .base (.int i), ans_b I (n := "int") (by decide) fun ty => by cases ty <;> rfl⟩
  | str i => rw [opd_str h]; exact ⟨_, .base (.str i), ans_b I (n := "str") (by decide) fun ty => by cases ty <;> rfl⟩
  | tup xs =>
    obtain ⟨a, vs, rfl, h1, _⟩ := rep_tup h.tup
    exact ⟨_, tyx_tup (r.sqT h1), ans_b I (n := "tuple") (by decide) fun ty => by cases ty <;> rfl⟩
  | lst xs =>
    obtain ⟨a, vs, rfl, h1, _⟩ := opd_lst r h
    exact ⟨_, tyx_lst h1, ans_b I (n := "list") (by decide) fun ty => by cases ty <;> rfl⟩
  | dct i ks vs =>
    obtain ⟨a, kvs, rfl, h1, _⟩ := opd_dct r h
    exact ⟨_, tyx_dct h1, ans_b I (n := "dict") (by decide) fun ty => by cases ty <;> rfl⟩
  | ins c i fs vs =>
    rcases h with h | ⟨a, cc, _, _, e, n⟩
    · obtain ⟨a, A, dx, ws, rfl, h1, h2, _⟩ := rep_ins h
      have h3 : H a = some (.ins A dx ((fs.map C.fld).zip ws)) := by
        rcases r.le _ _ h2 with h | ⟨z, _⟩
        · exact h
        · exact z.elim
      exact ⟨_, .base (I.ty c A h1 h3), ans_i I h1 fun ty => by cases ty <;> rfl⟩
    · cases cc with
      | lst => cases e
      | dct => cases e
      | ins k fs ds => exact absurd rfl (n k fs ds)
  | fn => obtain ⟨t, b, e⟩ := hx; cases e
  | kdc => obtain ⟨t, b, e⟩ := hx; cases e
  | kst xs =>
    obtain ⟨a, vs, rfl, h1, _⟩ := rep_kst h.kst
    have h1 := r.sqL h1
    have ty : TyX C.K H (.ref a) (.type "list") := by
      rcases h1 with h1 | ⟨o, its, n, e, hc, _⟩
      · exact tyx_lst h1
      · exact .kList e hc
    exact ⟨_, ty, ans_b I (n := "list") (by decide) fun ty => by cases ty <;> rfl⟩
  | glo n =>
    obtain ⟨t, b, e⟩ := hx
    simp only [isT] at e
    cases z : g.cell n with
    | none => rw [z] at e; cases e
    | some c =>
      obtain ⟨a, rfl, _, _, h4⟩ := glo_cell r h z
      cases c with
      | lst ys =>
        obtain ⟨vs, h1, _⟩ := h4
        exact ⟨_, .base (.lst h1), ans_b I (n := "list") (by decide) fun ty => by simp only [isT, z]; cases ty <;> rfl⟩
      | dct ks vs =>
        obtain ⟨kvs, h1, _⟩ := h4
        exact ⟨_, .base (.dK h1), ans_b I (n := "dict") (by decide) fun ty => by simp only [isT, z]; cases ty <;> rfl⟩
      | ins c fs ds =>
        obtain ⟨A, dx, vs, h1, h2, _⟩ := h4
        exact ⟨_, .base (I.ty c A h1 h2), ans_i I h1 fun ty => by (simp only [isT, z]) <;> cases ty <;> rfl⟩
end
end VM

namespace VM
open PySem L2 SeqAt PyProof.Rows

/-- the names of ids -/
structure Nm where
  fn : Nat → Str
  con : Nat → Str
  cls : Nat → Str
  mth : Nat → Str
structure Cf where
  C : Ct
  Gam : Prog
  nm : Nm
  flds : List Nat
  clss : List Nat
  fns : List Nat
  mths : List Nat
  xcs : List Nat
  call : CallT
def Cf.xf (M : Cf) (c : Nat) : List Nat := xfOf M.Gam c
/-- where code stands: may calls be made, the slots' names, the scope -/
structure Sc where
  cm : Bool
  df : Bool
  N : List Str
  sc : Scope
abbrev Cf.Ok {α : Type} (M : Cf) (W : Wd) (g : Gs) (H : Hp) (o : Out α) (E : XK) (P : α → Gs → Wd → Hp → Prop) : Prop := VM.Ok M.C M.xf W g H o E P
/-- an operand that stays one while other things go on -/
def OpdS (C : Ct) (W : Wd) (g : Gs) (H : Hp) (d : D) (v : V) : Prop :=
  Rep C W d v ∨ ∃ a c, v = .ref a ∧ W.F a = none ∧ ¬ Live W g a ∧ CellAt C W H a c ∧ d = cellD c ∧ ∀ k fs ds, c ≠ .ins k fs ds
theorem OpdS.opd {C : Ct} {W : Wd} {g : Gs} {H : Hp} {d : D} {v : V} (h : OpdS C W g H d v) : Opd C W H d v := by
  rcases h with h | ⟨a, c, h1, _, _, h2, h3, h4⟩
  · exact .inl h
  · exact .inr ⟨a, c, h1, h2, h3, h4⟩
theorem OpdS.ext {C : Ct} {W W' : Wd} {g g' : Gs} {H H' : Hp} {d : D} {v : V} (r : RelG C W g H) (e : Ext W H g W' H' g') (h : OpdS C W g H d v) : OpdS C W' g' H' d v := by
  rcases h with h | ⟨a, c, h1, h0, h5, h2, h3, h4⟩
  · exact .inl (Rep.le e.le d v h)
  · exact .inr ⟨a, c, h1, (e.Ff a h2.some h5).trans h0, fun z => h5 (e.live r h2.some z), h2.leE e h5, h3, h4⟩
/-- a call's result -/
def RetAt (C : Ct) (W' : Wd) (g' : Gs) (H H' : Hp) (r : RV) (v : V) : Prop := match r with
  | .v d => Rep C W' d v
  | .f fr => ∃ a, v = .ref a ∧ H a = none ∧ W'.F a = none ∧ ¬ Live W' g' a ∧ CellAt C W' H' a fr.cell
/-- what a def promises -/
def spOf (M : Cf) (f : Nat) : Sp := fun vs H Q E => ∃ W g ds, RelG M.C W g H ∧ RepL M.C W ds vs ∧ M.Ok W g H (M.call f ds g) E (fun r g' W' H' => ∀ v, RetAt M.C W' g' H H' r v → Q v H')
/-- .. the __init__ of a class whose instances don't change -/
def spIni (M : Cf) (c f : Nat) : Sp := fun vs H Q E => ∃ W g ds x dx A H0 rest, vs = .ref x :: rest ∧ M.C.cA c = some A ∧ RelG M.C W g H0 ∧ RepL M.C W ds rest ∧ H0 x = none ∧ H0 dx = none ∧ dx ≠ x ∧
  H = upd (upd H0 dx (.own x)) x (.ins A dx []) ∧ M.Ok W g H0 (M.call f ds g) E (fun r g' W' H' => ∀ d, r = .v d → Rep M.C W' d (.ref x) → Q .non H')
def FnAt (X : Cx) (a : Addr) (sp : Sp) (j : Nat) : Prop := ∃ fd ps k, FnOk X.prog X.w X.K X.mg X.base (L2.CX X.prog X.w) k a fd ps sp ∧ Room (k + j) X.A ∧ Binds X.K fd ps []
/-- the built-in names in use -/
def bNms : List Str := ["len", "isinstance", "list", "tuple", "dict", "int", "bool", "str", "range", "enumerate", "zip", "all", "any", "sum", "min", "max", "abs", "sorted", "repr", "ord", "ValueError"]
/-- the __init__ of an error with one field, with two -/
def spX1 (K : PySem.W.Frag) (C : Addr) (f : Str) : Sp := fun vs H Q _ => ∃ (a : Addr) (v : V), vs = [.ref a, v] ∧ OexC K C ∧ PySem.W.findIn K (.ref C) f = some none ∧ H a = some (exo a C none) ∧
  ∀ dx, H dx = none → dx ≠ a → Q .non (upd (upd H dx (exd dx [(f, v)])) a (exo a C (some dx)))
def spX2 (K : PySem.W.Frag) (C : Addr) (f g : Str) : Sp := fun vs H Q _ => ∃ (a : Addr) (v u : V), vs = [.ref a, v, u] ∧ OexC K C ∧ PySem.W.findIn K (.ref C) f = some none ∧ PySem.W.findIn K (.ref C) g = some none ∧ H a = some (exo a C none) ∧
  ∀ dx, H dx = none → dx ≠ a → Q .non (upd (upd (upd H dx (exd dx [(f, v)])) a (exo a C (some dx))) dx (exd dx [(g, u), (f, v)]))
/-- the __init__ of an error, found -/
def IniX (X : Cx) (A : Addr) (sp : Sp) (n : Nat) : Prop := OexC X.K A ∧ ∃ fI fd ps k, PySem.W.findIn X.K (.ref A) "__init__" = some (some (.ref fI)) ∧ PySem.W.typeIn X.K (.ref fI) = some (.type "function") ∧ FnOk X.prog X.w X.K X.mg X.base CX0 k fI fd ps sp ∧ Room (k + 1) X.A ∧ Binds X.K fd ps [] ∧ ps.length = n + 1
/-- what making an error needs -/
def ExAt (M : Cf) (X : Cx) (c : Nat) (A : Addr) : Prop :=
  (xfOf M.Gam c = [] ∧ PySem.W.excIn X.K A [.type "ValueError", .type "Exception", .type "BaseException", .type "object"] "ValueError.__new__" = true ∧ PySem.W.keepIn X.K (.ref A) = true ∧ Raises X (.ref A)) ∨
  (∃ f, xfOf M.Gam c = [f] ∧ IniX X A (spX1 X.K A (M.C.fld f)) 1 ∧ PySem.W.findIn X.K (.ref A) (M.C.fld f) = some none) ∨
  (∃ f g, xfOf M.Gam c = [f, g] ∧ IniX X A (spX2 X.K A (M.C.fld f) (M.C.fld g)) 2 ∧ PySem.W.findIn X.K (.ref A) (M.C.fld f) = some none ∧ PySem.W.findIn X.K (.ref A) (M.C.fld g) = some none ∧ f ≠ g)
/-- what the class of an error at D must say, that isinstance be told -/
structure IsX (K : PySem.W.Frag) (D : Addr) : Prop where
  cl : (PySem.W.clsIn K D).isSome = true
  ga : PySem.W.findIn K (.ref D) "__getattribute__" = some (some (.builtin "BaseException.__getattribute__"))
  gg : PySem.W.findIn K (.ref D) "__getattr__" = some none
  ex : PySem.W.subIn K (.ref D) (.type "BaseException") = some true
  ca : PySem.W.findIn K (.ref D) "__class__" = some (some (.builtin "object.__class__"))
  cn : PySem.W.specialIn K (.builtin "object.__class__") "__get__" = some (some (.builtin "getset_descriptor.__get__"))
  ct : PySem.W.takesIn K (.builtin "object.__class__") = some true
  cm : PySem.W.mroIn K D (.type "object") = some true
/-- what is known of the classes of errors -/
structure XcOk (M : Cf) : Prop where
  mg : ∀ c A, M.C.xA c = some A → M.C.mg (M.nm.cls c) = some (.ref A)
  at_ : ∀ c ∈ M.xcs, ∃ A, M.C.xA c = some A
  exm : ∀ c h A B, M.C.xA c = some A → M.C.xA h = some B → PySem.W.exmOne M.C.K (.ref A) (.ref B) = some (isC M.Gam c h)
  fld : ∀ c A, M.C.xA c = some A → xfOf M.Gam c ≠ [] → XfC M.C.K A ∧ ∀ f ∈ xfOf M.Gam c, PySem.W.findIn M.C.K (.ref A) (M.C.fld f) = some none
  isx : ∀ c A, M.C.xA c = some A → IsX M.C.K A ∧ PySem.W.kitOne M.C.K (.ref A) (.type "ValueError") = some true
  kit : ∀ c h A B, M.C.xA c = some A → M.C.xA h = some B → PySem.W.kitOne M.C.K (.ref A) (.ref B) = some (isC M.Gam c h)
structure Good (M : Cf) (ini : Nat → Option Nat) (S : Sc) (X : Cx) (Wx : WX) : Prop where
  K : X.K = M.C.K
  wd : X.w = M.C.wd
  mg : X.mg = M.C.mg
  N : X.N = S.N
  nd : S.N.Nodup
  sc : X.env.scope = S.sc
  calm : S.cm = true → X.calm = true
  fn : S.df = true → ∀ x, X.fn x = true
  big : Big X
  tk : Takes X Wx
  ci : CIs M.C M.Gam
  gl : ∀ f a, M.C.fA f = some a → S.cm = true → FnAt X a (spOf M f) 0
  fx : ∀ f ∈ M.fns, ∃ a, M.C.fA f = some a
  me : ∀ c m f A, M.Gam.meth c m = some f → M.C.cA c = some A → S.cm = true → ∃ a, L2.Cls M.C.K A ∧ Meth M.C.K A (M.nm.mth m) a ∧ FnAt X a (spOf M f) 0
  mf : ∀ m ∈ M.mths, ∀ f, M.C.fld f ≠ M.nm.mth m
  nw : ∀ c k f A, M.Gam.cls c = some k → k.init = some f → M.C.cA c = some A → S.cm = true → ∃ a, Mk M.C.K A a ∧ (k.kind = .froz → FnAt X a (spIni M c f) 1) ∧ (k.kind = .mut → FnAt X a (spOf M f) 1)
  con : ∀ x d, M.Gam.con x = some d → ∃ u v, M.C.mg (M.nm.con x) = some u ∧ RelV v u ∧ ∀ W, Rep M.C W d v
  fnm : ∀ f a, M.C.fA f = some a → M.C.mg (M.nm.fn f) = some (.ref a) ∧ PySem.W.keepIn M.C.K (.ref a) = true
  clm : ∀ c A, M.C.cA c = some A → M.C.mg (M.nm.cls c) = some (.ref A)
  cl : ∀ c A, M.C.cA c = some A → ∀ {H : Hp} {a dx : Addr} {fs : List (Str × V)}, H a = some (.ins A dx fs) → L2.Cls M.C.K A
  na : ∀ c A, M.C.cA c = some A → ∀ {H : Hp} {a dx : Addr} {fs : List (Str × V)}, H a = some (.ins A dx fs) → ∀ f ∈ M.flds, NoAttr M.C.K A (M.C.fld f)
  bt : ∀ b ∈ bNms, M.C.mg b = none
  cx : ∀ c ∈ M.clss, ∃ A, M.C.cA c = some A
  xc : XcOk M
  ex : ∀ c A, M.C.xA c = some A → S.cm = true → ExAt M X c A
  eqs : S.cm = true → EqsX M.C X

section
variable {M : Cf} {ini : Nat → Option Nat} {S : Sc}
/-! ### what is to be shown of each kind of text -/
def SndE (M : Cf) (ini : Nat → Option Nat) (S : Sc) (e : Expr) (x : E) : Prop := ∀ X Wx, Good M ini S X Wx → ∀ W g H σ ρ (Q : VK), RelG M.C W g H → RelS M.C W g H σ ρ →
  M.Ok W g H (evE M.Gam M.call x σ g) (WE Wx ρ) (fun d _ W' H' => ∀ v, Rep M.C W' d v → Q v H') → mxE X e ρ H Q
def SndP (M : Cf) (ini : Nat → Option Nat) (S : Sc) (e : Expr) (x : P) : Prop := ∀ X Wx, Good M ini S X Wx → ∀ W g H σ ρ (Q : VK), RelG M.C W g H → RelS M.C W g H σ ρ →
  M.Ok W g H (evP M.Gam M.call x σ g) (WE Wx ρ) (fun d g' W' H' => ∀ v, OpdS M.C W' g' H' d v → Q v H') → mxE X e ρ H Q
def SndT (M : Cf) (ini : Nat → Option Nat) (S : Sc) (e : Expr) (x : T) : Prop := ∀ X Wx, Good M ini S X Wx → ∀ W g H σ ρ (Q : Bool → Hp → Prop), RelG M.C W g H → RelS M.C W g H σ ρ →
  M.Ok W g H (evT M.Gam M.call x σ g) (WE Wx ρ) (fun b _ _ H' => Q b H') → mxT X e ρ H Q
def SndF (M : Cf) (ini : Nat → Option Nat) (S : Sc) (e : Expr) (x : F) : Prop := ∀ X Wx, Good M ini S X Wx → ∀ W g H σ ρ (Q : VK), RelG M.C W g H → RelS M.C W g H σ ρ →
  M.Ok W g H (evF M.Gam M.call x σ g) (WE Wx ρ) (fun fr g' W' H' => ∀ a, H a = none → W'.F a = none → ¬ Live W' g' a → CellAt M.C W' H' a fr.cell → Q (.ref a) H') → mxE X e ρ H Q
def SndEs (M : Cf) (ini : Nat → Option Nat) (S : Sc) (es : List Expr) (x : Es) : Prop := ∀ X Wx, Good M ini S X Wx → ∀ W g H σ ρ (Q : List V → Hp → Prop), RelG M.C W g H → RelS M.C W g H σ ρ →
  M.Ok W g H (evEs M.Gam M.call x σ g) (WE Wx ρ) (fun ds _ W' H' => ∀ vs, RepL M.C W' ds vs → Q vs H') → mxA X es ρ H Q

theorem SndE.p {e : Expr} {x : E} (h : SndE M ini S e x) : SndP M ini S e (.e x) := fun X Wx G W g H σ ρ Q r rs o =>
  h X Wx G W g H σ ρ Q r rs (o.imp fun a g' W' H' _ _ _ p v hv => p v (.inl hv))
/-! ### one operand, two operands -/
theorem one_op {X : Cx} {Wx : WX} (G : Good M ini S X Wx) {a : Expr} {x : P} (ha : SndP M ini S a x) {f : Gs → D → Option D} {J : (V → Hp → VK → Prop) → Prop} (J0 : J fun _ _ _ => False)
    (hf : ∀ g x d, f g x = some d → ∃ R, J R ∧ ∀ {W : Wd} {H : Hp} {u : V} {Q : VK}, RelG M.C W g H → Opd M.C W H x u → Fin M.C W g H d Q → R u H Q)
    {W : Wd} {g : Gs} {H : Hp} {σ : Sg} {ρ : L2.St} {Q : VK} (r : RelG M.C W g H) (rs : RelS M.C W g H σ ρ)
    (h : M.Ok W g H ((evP M.Gam M.call x σ g).bind fun u g => Out.opt (f g u) g) (WE Wx ρ) (fun d _ W' H' => ∀ v, Rep M.C W' d v → Q v H')) :
    ∃ R, J R ∧ mxE X a ρ H (fun u H1 => R u H1 Q) := by
  cases qa : evP M.Gam M.call x σ g with
  | no => rw [qa] at h; exact h.elim
  | ex c ds g' =>
    rw [qa] at h
    exact ⟨_, J0, ha X Wx G W g H σ ρ _ r rs (by rw [qa]; exact h)⟩
  | ok u g1 =>
    rw [qa] at h
    have h : M.Ok W g H (Out.opt (f g1 u) g1) (WE Wx ρ) (fun d _ W' H' => ∀ v, Rep M.C W' d v → Q v H') := h
    obtain ⟨d, hd, h⟩ := h.opt
    obtain ⟨R, hJ, hR⟩ := hf g1 u d hd
    refine ⟨R, hJ, ha X Wx G W g H σ ρ _ r rs ?_⟩
    rw [qa]
    exact fun W1 H1 e1 r1 v1 hv1 => hR r1 hv1.opd fun W' H' w e3 r3 hw => h W' H' (e1.trans r e3) r3 w hw
theorem two_op {X : Cx} {Wx : WX} (G : Good M ini S X Wx) {a b : Expr} {x y : P} (ha : SndP M ini S a x) (hb : SndP M ini S b y) {f : Gs → D → D → Option D} {J : R2 → Prop} (J0 : J fun _ _ _ _ => False)
    (hf : ∀ g x y d, f g x y = some d → ∃ R, J R ∧ ∀ {W : Wd} {H : Hp} {u v : V} {Q : VK}, RelG M.C W g H → Opd M.C W H x u → Opd M.C W H y v → Fin M.C W g H d Q → R u v H Q)
    {W : Wd} {g : Gs} {H : Hp} {σ : Sg} {ρ : L2.St} {Q : VK} (r : RelG M.C W g H) (rs : RelS M.C W g H σ ρ)
    (h : M.Ok W g H ((evP M.Gam M.call x σ g).bind fun u g => (evP M.Gam M.call y σ g).bind fun v g => Out.opt (f g u v) g) (WE Wx ρ) (fun d _ W' H' => ∀ v, Rep M.C W' d v → Q v H')) :
    ∃ R, J R ∧ tOp R (mxE X a) (mxE X b) ρ H Q := by
  cases qa : evP M.Gam M.call x σ g with
  | no => rw [qa] at h; exact h.elim
  | ex c ds g' =>
    rw [qa] at h
    exact ⟨_, J0, ha X Wx G W g H σ ρ _ r rs (by rw [qa]; exact h)⟩
  | ok u g1 =>
    rw [qa] at h
    have h : M.Ok W g H ((evP M.Gam M.call y σ g1).bind fun v g => Out.opt (f g u v) g) (WE Wx ρ) (fun d _ W' H' => ∀ v, Rep M.C W' d v → Q v H') := h
    cases qb : evP M.Gam M.call y σ g1 with
    | no => rw [qb] at h; exact h.elim
    | ex c ds g' =>
      rw [qb] at h
      refine ⟨_, J0, ha X Wx G W g H σ ρ _ r rs ?_⟩
      rw [qa]
      intro W1 H1 e1 r1 v1 hv1
      refine hb X Wx G W1 g1 H1 σ ρ _ r1 (rs.ext r e1) ?_
      rw [qb]
      exact Ok.shift (o := .ex c ds g') e1 r h
    | ok v g2 =>
      rw [qb] at h
      have h : M.Ok W g H (Out.opt (f g2 u v) g2) (WE Wx ρ) (fun d _ W' H' => ∀ v, Rep M.C W' d v → Q v H') := h
      obtain ⟨d, hd, h⟩ := h.opt
      obtain ⟨R, hJ, hR⟩ := hf g2 u v d hd
      refine ⟨R, hJ, ha X Wx G W g H σ ρ _ r rs ?_⟩
      rw [qa]
      intro W1 H1 e1 r1 v1 hv1
      refine hb X Wx G W1 g1 H1 σ ρ _ r1 (rs.ext r e1) ?_
      rw [qb]
      exact fun W2 H2 e2 r2 v2 hv2 => hR r2 (hv1.ext r1 e2).opd hv2.opd fun W' H' w e3 r3 hw => h W' H' ((e1.trans r e2).trans r e3) r3 w hw

/-- in, not in: may == call? -/
def inC (S : Sc) (o : Cop) : Bool := S.cm || (decide (o ≠ .inn) && decide (o ≠ .nin))
theorem inC_of {X : Cx} {Wx : WX} (G : Good M ini S X Wx) {o : Cop} (h : inC S o = true) : o = .inn ∨ o = .nin → EqsX M.C X := fun z => by
  unfold inC at h
  rw [Bool.or_eq_true, Bool.and_eq_true, decide_eq_true_eq, decide_eq_true_eq] at h
  rcases h with h | h
  · exact G.eqs h
  · rcases z with z | z
    · exact absurd z h.1
    · exact absurd z h.2
/-! ### names, constants -/
def visB (S : Sc) (i : Nat) (x : Str) : Bool := S.N[i]? == some x && (match S.sc.names.lookup x with
  | some .local => true
  | some .cell => true
  | some .free => true
  | _ => false) && !(x == ("__debug__" : Str)) && !(x == ("__classdict__" : Str))
def globB (S : Sc) (x : Str) : Bool := S.sc.names.lookup x == some .globalImplicit && !(x == ("__debug__" : Str))
theorem visB_of {i : Nat} {x : Str} {X : Cx} {Wx : WX} (G : Good M ini S X Wx) (h : visB S i x = true) : X.N[i]? = some x ∧ Vis X.env.scope x ∧ (x == ("__debug__" : Str)) = false ∧ (x == ("__classdict__" : Str)) = false := by
  unfold visB at h
  simp only [Bool.and_eq_true, Bool.not_eq_true'] at h
  obtain ⟨⟨⟨h1, h2⟩, h3⟩, h4⟩ := h
  refine ⟨by rw [G.N]; exact beq_iff_eq.mp h1, ?_, h3, h4⟩
  unfold Vis
  rw [G.sc]
  split at h2
  · exact .inl (by assumption)
  · exact .inr (.inl (by assumption))
  · exact .inr (.inr (by assumption))
  · cases h2
theorem globB_of {x : Str} {X : Cx} {Wx : WX} (G : Good M ini S X Wx) (h : globB S x = true) : Gl X x ∧ (x == ("__debug__" : Str)) = false := by
  unfold globB at h
  simp only [Bool.and_eq_true, Bool.not_eq_true'] at h
  refine ⟨?_, h.2⟩
  unfold Gl Env.kindOf
  rw [G.sc]
  exact beq_iff_eq.mp h.1
theorem getV_some {σ : Sg} {i : Nat} {d : D} (h : getV σ i = some d) : σ[i]? = some (some (.val d)) := by
  unfold getV at h
  split at h
  · cases h; assumption
  · cases h
theorem snd_v {i : Nat} {x : Str} {pos : Pos} (h : visB S i x = true) : SndE M ini S (.Name x pos) (.v i) := by
  intro X Wx G W g H σ ρ Q r rs o
  have o : M.Ok W g H (Out.opt (getV σ i) g) (WE Wx ρ) (fun d _ W' H' => ∀ v, Rep M.C W' d v → Q v H') := o
  obtain ⟨d, hd, o⟩ := o.opt
  obtain ⟨h1, h2, h3, h4⟩ := visB_of G h
  obtain ⟨v, e1, e2⟩ := rs.at_ i _ (getV_some hd)
  exact mxE_of (pe_var h1 h2 h3 h4) ⟨v, e1, Ok.now r o v e2⟩
theorem getM_some {σ : Sg} {i : Nat} {d : D} (h : getM σ i = some d) : ∃ s, σ[i]? = some (some s) ∧ ∀ {C : Ct} {W : Wd} {g : Gs} {H : Hp} {v : V}, SlotAt C W H s v → (∀ a, s.own = true → v = .ref a → ¬ Live W g a) → OpdS C W g H d v := by
  unfold getM at h
  split at h
  · rename_i xs hq
    cases h
    exact ⟨_, hq, fun {C W g H v} ⟨a, h1, h2, h3⟩ n => .inr ⟨a, _, h1, h2, n a rfl h1, h3, rfl, fun _ _ _ z => nomatch z⟩⟩
  · rename_i ks vs hq
    cases h
    exact ⟨_, hq, fun {C W g H v} ⟨a, h1, h2, h3⟩ n => .inr ⟨a, _, h1, h2, n a rfl h1, h3, rfl, fun _ _ _ z => nomatch z⟩⟩
  · rename_i d' hq
    cases h
    exact ⟨_, hq, fun h _ => .inl h⟩
  · cases h
theorem snd_m {i : Nat} {x : Str} {pos : Pos} (h : visB S i x = true) : SndP M ini S (.Name x pos) (.m i) := by
  intro X Wx G W g H σ ρ Q r rs o
  have o : M.Ok W g H (Out.opt (getM σ i) g) (WE Wx ρ) (fun d g' W' H' => ∀ v, OpdS M.C W' g' H' d v → Q v H') := o
  obtain ⟨d, hd, o⟩ := o.opt
  obtain ⟨h1, h2, h3, h4⟩ := visB_of G h
  obtain ⟨s, hs, k⟩ := getM_some hd
  obtain ⟨v, e1, e2⟩ := rs.at_ i _ hs
  exact mxE_of (pe_var h1 h2 h3 h4) ⟨v, e1, Ok.now r o v (k e2 fun a ho hv => (rs.apart i s a hs ho (by rw [e1, hv])).1)⟩
def cstB (d : D) (e : Expr) : Bool := match d with
  | .int i => (match e with
    | .Constant (.int j) _ _ => i == j
    | _ => false)
  | .bl b => (match e with
    | .Constant (.bool c) _ _ => b == c
    | _ => false)
  | .non => (match e with
    | .Constant .none _ _ => true
    | _ => false)
  | .str s => (match e with
    | .Constant (.str t) _ _ => decide (s = t)
    | _ => false)
  | _ => false
theorem snd_cst {d : D} {e : Expr} (h : cstB d e = true) : SndE M ini S e (.cst d) := by
  intro X Wx G W g H σ ρ Q r rs o
  have o : M.Ok W g H (.ok d g) (WE Wx ρ) (fun d _ W' H' => ∀ v, Rep M.C W' d v → Q v H') := o
  have o := Ok.now r o
  unfold cstB at h
  split at h
  · split at h
    · cases beq_iff_eq.mp h
      exact mxE_of pe_int (o _ rfl)
    · cases h
  · split at h
    · cases beq_iff_eq.mp h
      exact mxE_of pe_bl (o _ rfl)
    · cases h
  · split at h
    · exact mxE_of pe_non (o _ rfl)
    · cases h
  · split at h
    · cases of_decide_eq_true h
      exact mxE_of pe_str (o _ rfl)
    · cases h
  · cases h
theorem snd_fnv {f : Nat} {x : Str} {pos : Pos} {a : Addr} (ha : M.C.fA f = some a) (hx : x = M.nm.fn f) (h : globB S x = true) : SndE M ini S (.Name x pos) (.cst (.fn f)) := by
  intro X Wx G W g H σ ρ Q r rs o
  subst hx
  have o : M.Ok W g H (.ok (.fn f) g) (WE Wx ρ) (fun d _ W' H' => ∀ v, Rep M.C W' d v → Q v H') := o
  obtain ⟨h1, h2⟩ := globB_of G h
  obtain ⟨m, _⟩ := G.fnm f a ha
  exact mxE_of (pe_glob (v := .ref a) h1 (by rw [G.mg]; exact m) rfl h2) (Ok.now r o _ (by rw [Rep.eq_10]; exact ⟨a, ha, rfl⟩))
theorem snd_gc {k : Nat} {x : Str} {pos : Pos} (hx : x = M.nm.con k) (h : globB S x = true) : SndE M ini S (.Name x pos) (.gc k) := by
  intro X Wx G W g H σ ρ Q r rs o
  subst hx
  have o : M.Ok W g H (Out.opt (M.Gam.con k) g) (WE Wx ρ) (fun d _ W' H' => ∀ v, Rep M.C W' d v → Q v H') := o
  obtain ⟨d, hd, o⟩ := o.opt
  obtain ⟨h1, h2⟩ := globB_of G h
  obtain ⟨u, v, m, ru, rp⟩ := G.con k d hd
  exact mxE_of (pe_glob h1 (by rw [G.mg]; exact m) ru h2) (Ok.now r o v (rp W))

/-! ### operators -/
theorem snd_bin {a b : Expr} {x y : P} {o : Bop} {pos : Pos} (ha : SndP M ini S a x) (hb : SndP M ini S b y) : SndE M ini S (.BinOp a (opOf o) b pos) (.bin o x y) := by
  intro X Wx G W g H σ ρ Q r rs h
  obtain ⟨R, hJ, hR⟩ := two_op G ha hb (f := fun g u v => binD g o u v) (J := fun R => OpR X (binaryOp (opOf o)) R) (fun _ _ _ _ _ _ _ _ _ _ _ _ z => z.elim) (fun g x y d e => bin_ok G.K e) r rs h
  exact mxE_of (pe_op hJ pe_mx pe_mx) hR
def notSet : Expr → Bool
  | .Set .. => false
  | _ => true
theorem notSet_of {e : Expr} (op : CmpOp) (h : notSet e = true) : behindInMarks op e = false := by
  cases e <;> first
    | rfl
    | cases h
theorem snd_cmp {a b : Expr} {x y : P} {o : Cop} {pos : Pos} (ha : SndP M ini S a x) (hb : SndP M ini S b y) (hs : notSet b = true) (hq : inC S o = true) : SndE M ini S (.Compare a [coOf o] [b] pos) (.cmp o x y) := by
  intro X Wx G W g H σ ρ Q r rs h
  obtain ⟨R, hJ, hR⟩ := two_op G ha hb (f := fun g u v => cmpD g o u v) (J := fun R => OpR X (compareOp (coOf o)) R) (fun _ _ _ _ _ _ _ _ _ _ _ _ z => z.elim) (fun g x y d e => cmp_ok G.K G.big (inC_of G hq) e) r rs h
  exact mxE_of (pe_cmpR hJ pe_mx pe_mx (notSet_of _ hs)) hR
def plainIx : Expr → Bool
  | .Slice .. => false
  | _ => true
theorem plainIx_of {e : Expr} (h : plainIx e = true) : PlainIx e := by
  intro o i
  cases e <;> first
    | rfl
    | cases h
theorem snd_idx {a b : Expr} {x : P} {y : E} {pos : Pos} (ha : SndP M ini S a x) (hb : SndE M ini S b y) (hs : plainIx b = true) : SndE M ini S (.Subscript a b pos) (.idx x y) := by
  intro X Wx G W g H σ ρ Q r rs h
  obtain ⟨R, hJ, hR⟩ := two_op G ha hb.p (f := fun g u v => idxD g u v) (J := fun R => IxR X R) (fun _ _ _ _ _ _ _ _ _ _ _ _ _ _ z _ => z.elim) (fun g x y d e => idx_ok G.K G.wd G.big e) r rs h
  exact mxE_of (pe_ix hJ pe_mx pe_mx (plainIx_of hs)) hR
theorem snd_neg {a : Expr} {x : E} {pos : Pos} (ha : SndE M ini S a x) : SndE M ini S (.UnaryOp .USub a pos) (.neg x) := by
  intro X Wx G W g H σ ρ Q r rs h
  refine mxE_of (pe_un un_neg pe_mx) (ha X Wx G W g H σ ρ _ r rs ((Ok.bind r h).imp fun d g1 W1 H1 _ _ r1 o v hv => ?_))
  cases d with
  | int i =>
    rw [rep_int hv]
    exact ⟨i, rfl, Ok.now r1 o _ rfl⟩
  | _ => exact o.elim
/-- not a, as a value -/
theorem snd_notP {a : Expr} {x : P} {pos : Pos} (ha : SndP M ini S a x) : ∀ X Wx, Good M ini S X Wx → ∀ W g H σ ρ (Q : VK), RelG M.C W g H → RelS M.C W g H σ ρ →
    M.Ok W g H ((evP M.Gam M.call x σ g).bind fun u g => Out.opt ((truthD g u).map fun b => D.bl (!b)) g) (WE Wx ρ) (fun d _ W' H' => ∀ v, Rep M.C W' d v → Q v H') → mxE X (.UnaryOp .Not a pos) ρ H Q := by
  intro X Wx G W g H σ ρ Q r rs h
  obtain ⟨R, hJ, hR⟩ := one_op G ha (f := fun g u => (truthD g u).map fun b => D.bl (!b)) (J := fun R => ∃ R' : V → Hp → (Bool → Hp → Prop) → Prop, TruR X R' ∧ ∀ u H Q, R u H Q → R' u H fun b H' => Q (.bl (!b)) H')
    ⟨fun _ _ _ => False, fun _ _ _ _ _ _ _ _ _ z => z.elim, fun _ _ _ z => z⟩
    (fun g x d e => by
      obtain ⟨b, hb, rfl⟩ := map_some e
      obtain ⟨R', h1, h2⟩ := tru_D G.K hb
      exact ⟨fun u H Q => R' u H fun b H' => Q (.bl (!b)) H', ⟨R', h1, fun _ _ _ z => z⟩, fun {W H u Q} r hx f => h2 r hx (f.now r rfl)⟩) r rs h
  obtain ⟨R', h1, h2⟩ := hJ
  intro pins s I
  refine UnaryOp_ (thn (hR pins s I) fun v s1 ⟨x, H1, I1, r1, q1⟩ => not_of (thn (h1 pins s1 ρ H1 x v _ I1 r1 (h2 _ _ _ q1)) fun b s2 ⟨H2, I2, q2⟩ => ⟨.bl (!b), H2, I2, rfl, q2⟩))
theorem snd_not {a : Expr} {x : E} {pos : Pos} (ha : SndE M ini S a x) : SndE M ini S (.UnaryOp .Not a pos) (.not_ (.e x)) := by
  intro X Wx G W g H σ ρ Q r rs h
  refine snd_notP ha.p X Wx G W g H σ ρ Q r rs ?_
  have h : M.Ok W g H (((evE M.Gam M.call x σ g).bind fun u g => Out.opt (truthD g u) g).bind fun b g => .ok (.bl (!b)) g) (WE Wx ρ) (fun d _ W' H' => ∀ v, Rep M.C W' d v → Q v H') := h
  show M.Ok W g H ((evE M.Gam M.call x σ g).bind fun u g => Out.opt ((truthD g u).map fun b => D.bl (!b)) g) _ _
  cases q : evE M.Gam M.call x σ g with
  | no => rw [q] at h; exact h
  | ex => rw [q] at h; exact h
  | ok u g1 =>
    rw [q] at h
    have h : M.Ok W g H ((Out.opt (truthD g1 u) g1).bind fun b g => .ok (.bl (!b)) g) (WE Wx ρ) (fun d _ W' H' => ∀ v, Rep M.C W' d v → Q v H') := h
    show M.Ok W g H (Out.opt ((truthD g1 u).map fun b => D.bl (!b)) g1) _ _
    cases t : truthD g1 u with
    | none => rw [t] at h; exact h
    | some b => rw [t] at h; exact h
theorem snd_notM {a : Expr} {i : Nat} {pos : Pos} (ha : SndP M ini S a (.m i)) : SndE M ini S (.UnaryOp .Not a pos) (.not_ (.m i)) := by
  intro X Wx G W g H σ ρ Q r rs h
  refine snd_notP ha X Wx G W g H σ ρ Q r rs ?_
  have h : M.Ok W g H ((Out.opt ((getM σ i).bind (truthD g)) g).bind fun b g => .ok (.bl (!b)) g) (WE Wx ρ) (fun d _ W' H' => ∀ v, Rep M.C W' d v → Q v H') := h
  show M.Ok W g H ((Out.opt (getM σ i) g).bind fun u g => Out.opt ((truthD g u).map fun b => D.bl (!b)) g) _ _
  cases q : getM σ i with
  | none => rw [q] at h; exact h
  | some u =>
    rw [q] at h
    show M.Ok W g H (Out.opt ((truthD g u).map fun b => D.bl (!b)) g) _ _
    have h : M.Ok W g H ((Out.opt (truthD g u) g).bind fun b g => .ok (.bl (!b)) g) (WE Wx ρ) (fun d _ W' H' => ∀ v, Rep M.C W' d v → Q v H') := h
    cases t : truthD g u with
    | none => rw [t] at h; exact h
    | some b => rw [t] at h; exact h
/-- and, or, as values -/
theorem snd_and {a b : Expr} {bs : List Expr} {x y : E} {pos : Pos} (ha : SndE M ini S a x) (hb : SndE M ini S (.BoolOp .And (b :: bs) pos) y) : SndE M ini S (.BoolOp .And (a :: b :: bs) pos) (.and_ x y) := by
  intro X Wx G W g H σ ρ Q r rs h
  refine mxE_of (pe_and pe_mx pe_mx) (ha X Wx G W g H σ ρ _ r rs ((Ok.bind r h).imp fun d g1 W1 H1 _ e1 r1 o v hv => ?_))
  cases d with
  | bl c =>
    cases rep_bl hv
    refine ⟨c, rfl, ?_⟩
    cases c with
    | true => exact hb X Wx G W1 g1 H1 σ ρ Q r1 (rs.ext r e1) o
    | false => exact Ok.now r1 o _ rfl
  | _ => exact o.elim
theorem snd_or {a b : Expr} {bs : List Expr} {x y : E} {pos : Pos} (ha : SndE M ini S a x) (hb : SndE M ini S (.BoolOp .Or (b :: bs) pos) y) : SndE M ini S (.BoolOp .Or (a :: b :: bs) pos) (.or_ x y) := by
  intro X Wx G W g H σ ρ Q r rs h
  refine mxE_of (pe_or pe_mx pe_mx) (ha X Wx G W g H σ ρ _ r rs ((Ok.bind r h).imp fun d g1 W1 H1 _ e1 r1 o v hv => ?_))
  cases d with
  | bl c =>
    cases rep_bl hv
    refine ⟨c, rfl, ?_⟩
    cases c with
    | true => exact Ok.now r1 o _ rfl
    | false => exact hb X Wx G W1 g1 H1 σ ρ Q r1 (rs.ext r e1) o
  | _ => exact o.elim
theorem snd_one {a : Expr} {op : BoolOp} {x : E} {pos : Pos} (ha : SndE M ini S a x) : SndE M ini S (.BoolOp op [a] pos) x := fun X Wx G W g H σ ρ Q r rs h =>
  mxE_of (pe_one pe_mx) (ha X Wx G W g H σ ρ Q r rs h)
theorem snd_ife {c a b : Expr} {t : T} {x y : E} {pos : Pos} (hc : SndT M ini S c t) (ha : SndE M ini S a x) (hb : SndE M ini S b y) : SndE M ini S (.IfExp c a b pos) (.ife t x y) := by
  intro X Wx G W g H σ ρ Q r rs h
  refine mxE_of (pe_ifExp pt_mx pe_mx pe_mx) (hc X Wx G W g H σ ρ _ r rs ((Ok.bind r h).imp fun d g1 W1 H1 _ e1 r1 o => ?_))
  cases d with
  | true => exact ha X Wx G W1 g1 H1 σ ρ Q r1 (rs.ext r e1) o
  | false => exact hb X Wx G W1 g1 H1 σ ρ Q r1 (rs.ext r e1) o
/-- a op b op c -/
theorem chn_op {a b c : Expr} {x y z : E} {o o' : Cop} (ha : SndE M ini S a x) (hb : SndE M ini S b y) (hc : SndE M ini S c z) {X : Cx} {Wx : WX} (G : Good M ini S X Wx) (hq : inC S o = true) (hq' : inC S o' = true) {W : Wd} {g : Gs} {H : Hp} {σ : Sg} {ρ : L2.St} {Q : VK}
    (r : RelG M.C W g H) (rs : RelS M.C W g H σ ρ) (h : M.Ok W g H (evE M.Gam M.call (.chn o o' x y z) σ g) (WE Wx ρ) (fun d _ W' H' => ∀ v, Rep M.C W' d v → Q v H')) :
    ∃ R R', OpR X (compareOp (coOf o)) R ∧ OpR X (compareOp (coOf o')) R' ∧ tChain R R' (mxE X a) (mxE X b) (mxE X c) ρ H Q := by
  have h : M.Ok W g H ((evE M.Gam M.call x σ g).bind fun x g => (evE M.Gam M.call y σ g).bind fun y g => match cmpD g o x y with
    | some (.bl true) => (evE M.Gam M.call z σ g).bind fun z g => Out.opt (cmpD g o' y z) g
    | some (.bl false) => .ok (.bl false) g
    | _ => .no) (WE Wx ρ) (fun d _ W' H' => ∀ v, Rep M.C W' d v → Q v H') := h
  have F0 : ∀ o, OpR X (compareOp o) fun _ _ _ _ => False := fun _ _ _ _ _ _ _ _ _ _ _ _ _ z => z.elim
  have fin : ∀ {R R' : R2}, OpR X (compareOp (coOf o)) R → OpR X (compareOp (coOf o')) R' → tChain R R' (mxE X a) (mxE X b) (mxE X c) ρ H Q →
      ∃ R R', OpR X (compareOp (coOf o)) R ∧ OpR X (compareOp (coOf o')) R' ∧ tChain R R' (mxE X a) (mxE X b) (mxE X c) ρ H Q := fun h1 h2 q => ⟨_, _, h1, h2, q⟩
  cases qa : evE M.Gam M.call x σ g with
  | no => rw [qa] at h; exact h.elim
  | ex cc ds g' =>
    rw [qa] at h
    exact fin (F0 _) (F0 _) (ha X Wx G W g H σ ρ _ r rs (by rw [qa]; exact h))
  | ok u g1 =>
    rw [qa] at h
    have h : M.Ok W g H ((evE M.Gam M.call y σ g1).bind fun y g => match cmpD g o u y with
      | some (.bl true) => (evE M.Gam M.call z σ g).bind fun z g => Out.opt (cmpD g o' y z) g
      | some (.bl false) => .ok (.bl false) g
      | _ => .no) (WE Wx ρ) (fun d _ W' H' => ∀ v, Rep M.C W' d v → Q v H') := h
    cases qb : evE M.Gam M.call y σ g1 with
    | no => rw [qb] at h; exact h.elim
    | ex cc ds g' =>
      rw [qb] at h
      refine fin (F0 _) (F0 _) (ha X Wx G W g H σ ρ _ r rs ?_)
      rw [qa]
      intro W1 H1 e1 r1 v1 hv1
      refine hb X Wx G W1 g1 H1 σ ρ _ r1 (rs.ext r e1) ?_
      rw [qb]
      exact Ok.shift (o := .ex cc ds g') e1 r h
    | ok v g2 =>
      rw [qb] at h
      cases qc : cmpD g2 o u v with
      | none =>
        have h : M.Ok W g H (match cmpD g2 o u v with
          | some (.bl true) => (evE M.Gam M.call z σ g2).bind fun z g => Out.opt (cmpD g o' v z) g
          | some (.bl false) => .ok (.bl false) g2
          | _ => .no) (WE Wx ρ) (fun d _ W' H' => ∀ v, Rep M.C W' d v → Q v H') := h
        rw [qc] at h
        exact h.elim
      | some d =>
        have h : M.Ok W g H (match cmpD g2 o u v with
          | some (.bl true) => (evE M.Gam M.call z σ g2).bind fun z g => Out.opt (cmpD g o' v z) g
          | some (.bl false) => .ok (.bl false) g2
          | _ => .no) (WE Wx ρ) (fun d _ W' H' => ∀ v, Rep M.C W' d v → Q v H') := h
        rw [qc] at h
        obtain ⟨R, hJ, hR⟩ := cmp_ok G.K G.big (inC_of G hq) qc
        cases d with
        | bl k =>
          cases k with
          | false =>
            have h : M.Ok W g H (.ok (.bl false) g2) (WE Wx ρ) (fun d _ W' H' => ∀ v, Rep M.C W' d v → Q v H') := h
            refine fin hJ (F0 _) (ha X Wx G W g H σ ρ _ r rs ?_)
            rw [qa]
            intro W1 H1 e1 r1 v1 hv1
            refine hb X Wx G W1 g1 H1 σ ρ _ r1 (rs.ext r e1) ?_
            rw [qb]
            intro W2 H2 e2 r2 v2 hv2
            refine hR r2 (.inl (Rep.le e2.le _ _ hv1)) (.inl hv2) fun W3 H3 w3 e3 r3 hw3 => ?_
            exact ⟨false, rep_bl hw3, by rw [if_neg Bool.false_ne_true]; exact h W3 H3 ((e1.trans r e2).trans r e3) r3 _ rfl⟩
          | true =>
            have h : M.Ok W g H ((evE M.Gam M.call z σ g2).bind fun z g => Out.opt (cmpD g o' v z) g) (WE Wx ρ) (fun d _ W' H' => ∀ v, Rep M.C W' d v → Q v H') := h
            cases qz : evE M.Gam M.call z σ g2 with
            | no => rw [qz] at h; exact h.elim
            | ex cc ds g' =>
              rw [qz] at h
              refine fin hJ (F0 _) (ha X Wx G W g H σ ρ _ r rs ?_)
              rw [qa]
              intro W1 H1 e1 r1 v1 hv1
              refine hb X Wx G W1 g1 H1 σ ρ _ r1 (rs.ext r e1) ?_
              rw [qb]
              intro W2 H2 e2 r2 v2 hv2
              refine hR r2 (.inl (Rep.le e2.le _ _ hv1)) (.inl hv2) fun W3 H3 w3 e3 r3 hw3 => ?_
              have e4 := (e1.trans r e2).trans r e3
              refine ⟨true, rep_bl hw3, ?_⟩
              rw [if_pos rfl]
              refine hc X Wx G W3 g2 H3 σ ρ _ r3 (rs.ext r e4) ?_
              rw [qz]
              exact Ok.shift (o := .ex cc ds g') e4 r h
            | ok t g3 =>
              rw [qz] at h
              obtain ⟨d', hd', h⟩ := Ok.opt h
              obtain ⟨R', hJ', hR'⟩ := cmp_ok G.K G.big (inC_of G hq') hd'
              refine fin hJ hJ' (ha X Wx G W g H σ ρ _ r rs ?_)
              rw [qa]
              intro W1 H1 e1 r1 v1 hv1
              refine hb X Wx G W1 g1 H1 σ ρ _ r1 (rs.ext r e1) ?_
              rw [qb]
              intro W2 H2 e2 r2 v2 hv2
              refine hR r2 (.inl (Rep.le e2.le _ _ hv1)) (.inl hv2) fun W3 H3 w3 e3 r3 hw3 => ?_
              have e4 := (e1.trans r e2).trans r e3
              refine ⟨true, rep_bl hw3, ?_⟩
              rw [if_pos rfl]
              refine hc X Wx G W3 g2 H3 σ ρ _ r3 (rs.ext r e4) ?_
              rw [qz]
              intro W4 H4 e5 r4 v4 hv4
              exact hR' r4 (.inl (Rep.le (e3.le.trans e5.le) _ _ hv2)) (.inl hv4) fun W5 H5 w5 e6 r5 hw5 => h W5 H5 ((e4.trans r e5).trans r e6) r5 w5 hw5
        | _ => exact h.elim
theorem snd_chn {a b c : Expr} {x y z : E} {o o' : Cop} {pos : Pos} (ha : SndE M ini S a x) (hb : SndE M ini S b y) (hc : SndE M ini S c z) (hs : notSet c = true) (hq : inC S o = true) (hq' : inC S o' = true) :
    SndE M ini S (.Compare a [coOf o, coOf o'] [b, c] pos) (.chn o o' x y z) := by
  intro X Wx G W g H σ ρ Q r rs h
  obtain ⟨R, R', h1, h2, q⟩ := chn_op ha hb hc G hq hq' r rs h
  exact mxE_of (pe_chain h1 h2 pe_mx pe_mx pe_mx (notSet_of _ hs)) q
end
end VM

namespace VM
open PySem L2 SeqAt PyProof.Rows

/-! ### frozen, given to the store -/
section
variable {C : Ct} {W W1 : Wd} {g g1 : Gs} {H H1 : Hp} {a : Addr}
theorem live_ne {c : Cell} {n : Nat} {b : Addr} (hl : ¬ Live W1 g1 a) (h1 : g1.cell n ≠ none) (h2 : W1.phi n = some b) : b ≠ a := fun z => hl ⟨n, h1, by rw [← z]; exact h2⟩
theorem frozen {u : HO} (r : RelG C W g H) (e : Ext W H g W1 H1 g1) (r1 : RelG C W1 g1 H1) (ha : H a = none) (hf : W1.F a = none) (hl : ¬ Live W1 g1 a) (hu : H1 a = some u) :
    Ext W H g (W1.put a u) H1 g1 ∧ RelG C (W1.put a u) g1 H1 := by
  have ne : ∀ b, H b ≠ none → b ≠ a := fun b hb z => hb (by rw [z]; exact ha)
  refine ⟨⟨e.le.trans (Wd.le_put hf), fun b hb hn => ?_, e.phif, e.keep, e.there, e.nx, e.dead⟩, fun b v hv => ?_, fun n c hc => ?_, r1.inj, r1.fresh, r1.there⟩
  · show upd W1.F a u b = W.F b
    rw [upd_ne (ne b hb)]
    exact e.Ff b hb hn
  · have hv : upd W1.F a u b = some v := hv
    by_cases q : b = a
    · subst q
      rw [upd_same] at hv
      cases hv
      exact .inl hu
    · rw [upd_ne q] at hv
      exact r1.le b v hv
  · obtain ⟨b, h1, h2, h3⟩ := r1.cell n c hc
    have q : b ≠ a := live_ne (c := c) hl (by rw [hc]; exact fun z => nomatch z) h1
    exact ⟨b, h1, by show upd W1.F a u b = none; rw [upd_ne q]; exact h2, h3.le (Wd.le_put hf) rfl⟩
def Wd.cell (W : Wd) (n : Nat) (a : Addr) : Wd := ⟨W.F, fun m => if m = n then some a else W.phi m⟩
theorem stored {c : Cell} (r : RelG C W g H) (e : Ext W H g W1 H1 g1) (r1 : RelG C W1 g1 H1) (ha : H a = none) (hf : W1.F a = none) (hl : ¬ Live W1 g1 a) (hc : CellAt C W1 H1 a c) :
    Ext W H g (W1.cell g1.next a) H1 (g1.new c) ∧ RelG C (W1.cell g1.next a) (g1.new c) H1 := by
  have f0 := (r1.fresh g1.next (Nat.le_refl _)).2
  have le1 : W1.Le (W1.cell g1.next a) := ⟨fun _ _ h => h, fun n b h => by
    show (if n = g1.next then some a else W1.phi n) = some b
    rw [if_neg fun z => by rw [z, f0] at h; cases h]
    exact h⟩
  have phin : (W1.cell g1.next a).phi g1.next = some a := if_pos rfl
  have phio : ∀ n, n ≠ g1.next → (W1.cell g1.next a).phi n = W1.phi n := fun n h => if_neg h
  have cn : (g1.new c).cell g1.next = some c := if_pos rfl
  have co : ∀ n, n ≠ g1.next → (g1.new c).cell n = g1.cell n := fun n h => if_neg h
  refine ⟨⟨e.le.trans le1, e.Ff, fun n b h1 h2 => ?_, e.keep, e.there, Nat.le_trans e.nx (Nat.le_succ _), fun n h1 h2 => ?_⟩, r1.le, fun n d hd => ?_, fun n m b h1 h2 h3 h4 => ?_, fun n h => ?_, fun n b h => ?_⟩
  · by_cases q : n = g1.next
    · subst q
      rw [phin] at h2
      cases h2
      exact ha
    · rw [phio n q] at h2
      exact e.phif n b h1 h2
  · rw [co n fun z => by rw [z] at h1; exact absurd (Nat.lt_of_lt_of_le h1 e.nx) (Nat.lt_irrefl _)]
    exact e.dead n h1 h2
  · by_cases q : n = g1.next
    · subst q
      rw [cn] at hd
      cases hd
      exact ⟨a, phin, hf, hc.le le1 rfl⟩
    · rw [co n q] at hd
      obtain ⟨b, k1, k2, k3⟩ := r1.cell n d hd
      exact ⟨b, by rw [phio n q]; exact k1, k2, k3.le le1 rfl⟩
  · by_cases q : n = g1.next
    · by_cases q2 : m = g1.next
      · rw [q, q2]
      · rw [q, phin] at h3
        cases h3
        rw [co m q2] at h2
        rw [phio m q2] at h4
        exact absurd ⟨m, h2, h4⟩ hl
    · by_cases q2 : m = g1.next
      · rw [q2, phin] at h4
        cases h4
        rw [co n q] at h1
        rw [phio n q] at h3
        exact absurd ⟨n, h1, h3⟩ hl
      · rw [co n q] at h1
        rw [co m q2] at h2
        rw [phio n q] at h3
        rw [phio m q2] at h4
        exact r1.inj n m b h1 h2 h3 h4
  · have h' : g1.next + 1 ≤ n := h
    have q : n ≠ g1.next := by omega
    rw [co n q, phio n q]
    exact r1.fresh n (by omega)
  · by_cases q : n = g1.next
    · subst q
      rw [phin] at h
      cases h
      exact hc.some
    · rw [phio n q] at h
      exact r1.there n b h
theorem fr_rep {fr : Fr} (h : CellAt C W1 H1 a fr.cell) : ∃ u, H1 a = some u ∧ (W1.F a = none → Rep C (W1.put a u) fr.d0 (.ref a)) := by
  cases fr with
  | l xs =>
    obtain ⟨vs, h1, h2⟩ := h
    exact ⟨_, h1, fun hf => lst_rep (.inl put_same) (RepL.le (Wd.le_put hf) _ _ h2)⟩
  | d ks ds =>
    obtain ⟨kvs, h1, h2, h3⟩ := h
    refine ⟨_, h1, fun hf => ?_⟩
    show Rep C _ (.dct 0 ks ds) (.ref a)
    rw [Rep.eq_7]
    exact ⟨a, kvs, rfl, .inl put_same, h2, RepL.le (Wd.le_put hf) _ _ h3, .inl rfl⟩
theorem fresh_of {H1 : Hp} (e : Ext W H g W1 H1 g1) (h : H1 a = none) : H a = none := by
  cases q : H a with
  | none => rfl
  | some u => exact absurd h (e.there a (by rw [q]; exact fun z => nomatch z))
end

section
variable {M : Cf} {ini : Nat → Option Nat} {S : Sc}
theorem cell_some {C : Ct} {W : Wd} {H : Hp} {a : Addr} {u : HO} (h : H a = some u) : H a ≠ none := by rw [h]; exact fun z => nomatch z
theorem dI_rep {C : Ct} {W : Wd} {fr : Fr} {n : Nat} {a : Addr} (h : Rep C W fr.d0 (.ref a)) (i : IdAt W n a) : Rep C W (fr.dI n) (.ref a) := by
  cases fr with
  | l xs => exact h
  | d ks vs =>
    have h : Rep C W (.dct 0 ks vs) (.ref a) := h
    show Rep C W (.dct n ks vs) (.ref a)
    rw [Rep.eq_7] at h ⊢
    obtain ⟨b, kvs, e, h1, h2, h3, _⟩ := h
    cases e
    exact ⟨a, kvs, rfl, h1, h2, h3, i⟩
theorem snd_fz {e : Expr} {f : F} (h : SndF M ini S e f) : SndE M ini S e (.fz f) := by
  intro X Wx G W g H σ ρ Q r rs o
  have o : M.Ok W g H ((evF M.Gam M.call f σ g).bind fun r g => .ok (r.dI g.next) (r.gI g)) (WE Wx ρ) (fun d _ W' H' => ∀ v, Rep M.C W' d v → Q v H') := o
  cases q : evF M.Gam M.call f σ g with
  | no => rw [q] at o; exact o.elim
  | ex => rw [q] at o; exact h X Wx G W g H σ ρ Q r rs (by rw [q]; exact o)
  | ok fr g1 =>
    rw [q] at o
    refine h X Wx G W g H σ ρ Q r rs ?_
    rw [q]
    intro W1 H1 e1 r1 a ha hf hl hc
    obtain ⟨u, hu, hr⟩ := fr_rep hc
    obtain ⟨e2, r2⟩ := frozen r e1 r1 ha hf hl hu
    cases fr with
    | l xs => exact o _ _ e2 r2 _ (hr hf)
    | d ks vs =>
      obtain ⟨e3, r3⟩ := named e2 r2 ha (cell_some (C := M.C) (W := W1) hu)
      exact o _ _ e3 r3 _ (dI_rep (fr := .d ks vs) (Rep.le (r2.le_nam (Nat.le_refl _)) _ _ (hr hf)) nam_at)
theorem snd_ng {e : Expr} {f : F} (h : SndF M ini S e f) : SndE M ini S e (.ng f) := by
  intro X Wx G W g H σ ρ Q r rs o
  have o : M.Ok W g H ((evF M.Gam M.call f σ g).bind fun r g => .ok (.glo g.next) (g.new r.cell)) (WE Wx ρ) (fun d _ W' H' => ∀ v, Rep M.C W' d v → Q v H') := o
  cases q : evF M.Gam M.call f σ g with
  | no => rw [q] at o; exact o.elim
  | ex => rw [q] at o; exact h X Wx G W g H σ ρ Q r rs (by rw [q]; exact o)
  | ok fr g1 =>
    rw [q] at o
    refine h X Wx G W g H σ ρ Q r rs ?_
    rw [q]
    intro W1 H1 e1 r1 a ha hf hl hc
    obtain ⟨e2, r2⟩ := stored r e1 r1 ha hf hl hc
    exact o _ _ e2 r2 _ (by rw [Rep.eq_9]; exact ⟨a, if_pos rfl, rfl⟩)

/-! ### arguments -/
def notStar : Expr → Bool
  | .Starred .. => false
  | _ => true
theorem star_cons {e : Expr} {es : List Expr} {env : Env} (h : notStar e = true) : starEach (e :: es) env = (false, eval e env) :: starEach es env := by
  cases e <;> first
    | rfl
    | cases h
theorem snd_nil : SndEs M ini S [] .nil := fun X Wx G W g H σ ρ Q r rs o => mxA_of pa_nil (Ok.now r o [] .nil)
theorem snd_cons {e : Expr} {es : List Expr} {x : E} {xs : Es} (h : SndE M ini S e x) (hr : SndEs M ini S es xs) (hs : notStar e = true) : SndEs M ini S (e :: es) (.cons x xs) := by
  intro X Wx G W g H σ ρ Q r rs o
  refine mxA_of (pa_cons pe_mx pa_mx (star_cons hs)) (h X Wx G W g H σ ρ _ r rs ((Ok.bind r o).imp fun d g1 W1 H1 _ e1 r1 o v hv => ?_))
  refine hr X Wx G W1 g1 H1 σ ρ _ r1 (rs.ext r e1) ((Ok.bind r1 o).imp fun ds g2 W2 H2 _ e2 r2 o vs hvs => ?_)
  exact Ok.now r2 o _ (.cons (Rep.le e2.le _ _ hv) hvs)
def Es.len : Es → Nat
  | .nil => 0
  | .cons _ es => es.len + 1
theorem evEs_len {Gam : Prog} {call : CallT} : ∀ {xs : Es} {σ : Sg} {g g' : Gs} {ds : List D}, evEs Gam call xs σ g = .ok ds g' → ds.length = xs.len
  | .nil, _, _, _, _, h => by cases h; rfl
  | .cons x xs, σ, g, g', ds, h => by
    have h : ((evE Gam call x σ g).bind fun x g => (evEs Gam call xs σ g).bind fun r g => .ok (x :: r) g) = .ok ds g' := h
    cases q : evE Gam call x σ g with
    | no => rw [q] at h; cases h
    | ex => rw [q] at h; cases h
    | ok d g1 =>
      rw [q] at h
      have h : ((evEs Gam call xs σ g1).bind fun r g => .ok (d :: r) g) = .ok ds g' := h
      cases q2 : evEs Gam call xs σ g1 with
      | no => rw [q2] at h; cases h
      | ex => rw [q2] at h; cases h
      | ok r g2 =>
        rw [q2] at h
        cases h
        show r.length + 1 = xs.len + 1
        rw [evEs_len q2]
/-- with the length known -/
theorem SndEs.len {es : List Expr} {xs : Es} (h : SndEs M ini S es xs) {X : Cx} {Wx : WX} (G : Good M ini S X Wx) {W : Wd} {g : Gs} {H : Hp} {σ : Sg} {ρ : L2.St} {Q : List V → Hp → Prop} (r : RelG M.C W g H) (rs : RelS M.C W g H σ ρ)
    (o : M.Ok W g H (evEs M.Gam M.call xs σ g) (WE Wx ρ) (fun ds _ W' H' => ∀ vs, ds.length = xs.len → RepL M.C W' ds vs → Q vs H')) : mxA X es ρ H Q := by
  refine h X Wx G W g H σ ρ Q r rs ?_
  cases q : evEs M.Gam M.call xs σ g with
  | no => rw [q] at o; exact o
  | ex => rw [q] at o; exact o
  | ok ds g1 =>
    rw [q] at o
    exact fun W1 H1 e1 r1 vs hvs => o W1 H1 e1 r1 vs (evEs_len q) hvs
theorem snd_tup {es : List Expr} {xs : Es} {k : Nat} {pos : Pos} (h : SndEs M ini S es xs) (hl : xs.len ≤ sizeM) : SndE M ini S (.Tuple es k pos) (.tup xs) := by
  intro X Wx G W g H σ ρ Q r rs o
  refine mxE_of (pe_tup pa_mx) (h.len G r rs ((Ok.bind r o).imp fun ds g1 W1 H1 _ e1 r1 o vs hn hvs => ⟨by rw [hvs.length, hn]; exact szM hl, fun p hp => ?_⟩))
  exact o _ _ (Ext.lay r1 hp) (r1.lay hp) _ (tup_rep (.inl (.inl put_same)) (RepL.le (Wd.le_put (r1.nf hp)) _ _ hvs))
theorem snd_lst {es : List Expr} {xs : Es} {pos : Pos} (h : SndEs M ini S es xs) (hl : xs.len ≤ sizeM) : SndF M ini S (.List es pos) (.lst xs) := by
  intro X Wx G W g H σ ρ Q r rs o
  refine mxE_of (pe_lst pa_mx) (h.len G r rs ((Ok.bind r o).imp fun ds g1 W1 H1 _ e1 r1 o vs hn hvs => ⟨by rw [hvs.length, hn]; exact szM hl, fun p hp => ?_⟩))
  exact o W1 _ (Ext.own r1 hp) (r1.own hp) p (fresh_of e1 hp) (r1.nf hp) (r1.notlive hp) ⟨vs, upd_same, hvs⟩
end
end VM

namespace VM
open PySem L2 SeqAt PyProof.Rows
section
variable {M : Cf} {ini : Nat → Option Nat} {S : Sc}

/-! ### a[lo:hi] -/
def mxO (X : Cx) (e : Option Expr) : TO := fun σ H Q => ∀ pins s, Inv X pins σ H s → wpAny (model X.prog X.w) X.A (evalPart e X.env) (fun u s' => ∃ o H', Inv X pins σ H' s' ∧ IsPart u o ∧ Q o H') X.xe s
theorem po_mx {X : Cx} {e : Option Expr} : PO X e (mxO X e) := ⟨fun pins s σ H Q I h => h pins s I⟩
theorem mxO_of {X : Cx} {e : Option Expr} {t : TO} {σ : L2.St} {H : Hp} {Q : Option Int → Hp → Prop} (h : PO X e t) (q : t σ H Q) : mxO X e σ H Q := fun pins s I => h.run pins s σ H Q I q
def SndO (M : Cf) (ini : Nat → Option Nat) (S : Sc) (e : Option Expr) (x : Oe) : Prop := ∀ X Wx, Good M ini S X Wx → ∀ W g H σ ρ (Q : Option Int → Hp → Prop), RelG M.C W g H → RelS M.C W g H σ ρ →
  M.Ok W g H (evOe M.Gam M.call x σ g) (WE Wx ρ) (fun d _ W' H' => Q d H') → mxO X e ρ H Q
theorem snd_onone : SndO M ini S none .none := fun X Wx G W g H σ ρ Q r rs o => mxO_of po_none (Ok.now r o)
theorem snd_osome {e : Expr} {x : E} (h : SndE M ini S e x) : SndO M ini S (some e) (.some x) := by
  intro X Wx G W g H σ ρ Q r rs o
  refine mxO_of (po_some pe_mx) (h X Wx G W g H σ ρ _ r rs ((Ok.bind r o).imp fun d g1 W1 H1 _ e1 r1 o v hv => ?_))
  cases d with
  | int j =>
    rw [rep_int hv]
    exact ⟨j, rfl, Ok.now r1 o⟩
  | _ => exact o.elim
theorem snd_sl {a : Expr} {lo hi : Option Expr} {x : P} {l h : Oe} {p2 pos : Pos} (ha : SndP M ini S a x) (hl : SndO M ini S lo l) (hh : SndO M ini S hi h) : SndE M ini S (.Subscript a (.Slice lo hi none p2) pos) (.sl x l h) := by
  intro X Wx G W g H σ ρ Q r rs o
  have o : M.Ok W g H ((evP M.Gam M.call x σ g).bind fun x g => (evOe M.Gam M.call l σ g).bind fun l g => (evOe M.Gam M.call h σ g).bind fun h g => Out.opt (slD g x l h) g) (WE Wx ρ) (fun d _ W' H' => ∀ v, Rep M.C W' d v → Q v H') := o
  have F0 : SlR X fun _ _ _ _ _ => False := fun _ _ _ _ _ _ _ _ _ _ _ _ _ _ _ _ _ z => z.elim
  have fin : ∀ {R}, SlR X R → tSl R (mxE X a) (mxO X lo) (mxO X hi) ρ H Q → mxE X (.Subscript a (.Slice lo hi none p2) pos) ρ H Q := fun h1 q => mxE_of (pe_slice h1 pe_mx po_mx po_mx) q
  cases qa : evP M.Gam M.call x σ g with
  | no => rw [qa] at o; exact o.elim
  | ex cc ds g' => rw [qa] at o; exact fin F0 (ha X Wx G W g H σ ρ _ r rs (by rw [qa]; exact o))
  | ok u g1 =>
    rw [qa] at o
    have o : M.Ok W g H ((evOe M.Gam M.call l σ g1).bind fun l g => (evOe M.Gam M.call h σ g).bind fun h g => Out.opt (slD g u l h) g) (WE Wx ρ) (fun d _ W' H' => ∀ v, Rep M.C W' d v → Q v H') := o
    cases qb : evOe M.Gam M.call l σ g1 with
    | no => rw [qb] at o; exact o.elim
    | ex cc ds g' =>
      rw [qb] at o
      refine fin F0 (ha X Wx G W g H σ ρ _ r rs ?_)
      rw [qa]
      intro W1 H1 e1 r1 v1 hv1
      refine hl X Wx G W1 g1 H1 σ ρ _ r1 (rs.ext r e1) ?_
      rw [qb]
      exact Ok.shift (o := .ex cc ds g') e1 r o
    | ok v g2 =>
      rw [qb] at o
      have o : M.Ok W g H ((evOe M.Gam M.call h σ g2).bind fun h g => Out.opt (slD g u v h) g) (WE Wx ρ) (fun d _ W' H' => ∀ v, Rep M.C W' d v → Q v H') := o
      cases qc : evOe M.Gam M.call h σ g2 with
      | no => rw [qc] at o; exact o.elim
      | ex cc ds g' =>
        rw [qc] at o
        refine fin F0 (ha X Wx G W g H σ ρ _ r rs ?_)
        rw [qa]
        intro W1 H1 e1 r1 v1 hv1
        refine hl X Wx G W1 g1 H1 σ ρ _ r1 (rs.ext r e1) ?_
        rw [qb]
        intro W2 H2 e2 r2
        have e3 := e1.trans r e2
        refine hh X Wx G W2 g2 H2 σ ρ _ r2 (rs.ext r e3) ?_
        rw [qc]
        exact Ok.shift (o := .ex cc ds g') e3 r o
      | ok w g3 =>
        rw [qc] at o
        obtain ⟨d, hd, o⟩ := Ok.opt o
        obtain ⟨R, hJ, hR⟩ := sl_ok G.K hd
        refine fin hJ (ha X Wx G W g H σ ρ _ r rs ?_)
        rw [qa]
        intro W1 H1 e1 r1 v1 hv1
        refine hl X Wx G W1 g1 H1 σ ρ _ r1 (rs.ext r e1) ?_
        rw [qb]
        intro W2 H2 e2 r2
        have e3 := e1.trans r e2
        refine hh X Wx G W2 g2 H2 σ ρ _ r2 (rs.ext r e3) ?_
        rw [qc]
        intro W3 H3 e4 r3
        have e5 := e3.trans r e4
        exact hR r3 ((hv1.ext r1 e2).ext r2 e4).opd fun W' H' w' e6 r6 hw => o W' H' (e5.trans r e6) r6 w' hw
end
end VM

namespace VM
open PySem L2 SeqAt PyProof.Rows
section
variable {M : Cf} {ini : Nat → Option Nat} {S : Sc}

/-! ### built-in functions of one or two arguments -/
def biN : Bi → Str
  | .int => "int"
  | .tuple => "tuple"
  | .all => "all"
  | .any => "any"
  | .sum => "sum"
  | .min => "min"
  | .max => "max"
  | .abs => "abs"
  | .str => "str"
  | .ord => "ord"
  | .repr => "repr"
def biV : Bi → Value
  | .int => .type "int"
  | .tuple => .type "tuple"
  | .all => .builtin "all"
  | .any => .builtin "any"
  | .sum => .builtin "sum"
  | .min => .builtin "min"
  | .max => .builtin "max"
  | .abs => .builtin "abs"
  | .str => .type "str"
  | .ord => .builtin "ord"
  | .repr => .builtin "repr"
theorem bi_call {X : Cx} {n : Bi} {e : Expr} {es : List Expr} {t : TA} {r : List V → Hp → VK → Prop} {p pos : Pos} (hc : CallR X (biV n) r) (hg : Gl X (biN n)) (hm : X.mg (biN n) = none) (ha : PA X (e :: es) t)
    (he : starEach (e :: es) X.env = (false, eval e X.env) :: starEach es X.env) (hpl : (backTo pos (starEach es X.env)).any (·.1) = false) : PE X (.Call (.Name (biN n) p) (e :: es) [] pos) (tCB r t) := by
  cases n <;> first
    | exact pe_callTy hc hg hm rfl ha (by decide) (by decide) he hpl
    | exact pe_callB hc hg hm rfl ha (by decide) (by decide) he hpl
theorem len_call {X : Cx} {e : Expr} {es : List Expr} {t : TA} {r : List V → Hp → VK → Prop} {p pos : Pos} (hc : CallR X (.builtin "len") r) (hg : Gl X "len") (hm : X.mg "len" = none) (ha : PA X (e :: es) t)
    (he : starEach (e :: es) X.env = (false, eval e X.env) :: starEach es X.env) (hpl : (backTo pos (starEach es X.env)).any (·.1) = false) : PE X (.Call (.Name "len" p) (e :: es) [] pos) (tCB r t) :=
  pe_callB hc hg hm rfl ha (by decide) (by decide) he hpl
theorem boolsL_rep {C : Ct} {W : Wd} : ∀ {xs : List D} {l : List Bool} {vs : List V}, boolsL xs = some l → RepL C W xs vs → vs = l.map V.bl
  | [], l, vs, e, h => by cases e; exact h.nil_eq
  | x :: xs, l, vs, e, h => by
    obtain ⟨v, r, rfl, h1, h2⟩ := h.uncons
    cases x with
    | bl b =>
      obtain ⟨l', e1, rfl⟩ := map_some (show (boolsL xs).map (b :: ·) = some l from e)
      rw [boolsL_rep e1 h2, rep_bl h1]
      rfl
    | _ => cases e
theorem intsL_rep {C : Ct} {W : Wd} : ∀ {xs : List D} {l : List Int} {vs : List V}, intsL xs = some l → RepL C W xs vs → vs = l.map V.int
  | [], l, vs, e, h => by cases e; exact h.nil_eq
  | x :: xs, l, vs, e, h => by
    obtain ⟨v, r, rfl, h1, h2⟩ := h.uncons
    cases x with
    | int b =>
      obtain ⟨l', e1, rfl⟩ := map_some (show (intsL xs).map (b :: ·) = some l from e)
      rw [intsL_rep e1 h2, rep_int h1]
      rfl
    | _ => cases e
theorem bind_some {α β : Type} {o : Option α} {f : α → Option β} {b : β} (e : o.bind f = some b) : ∃ a, o = some a ∧ f a = some b := by
  cases o with
  | none => cases e
  | some a => exact ⟨a, rfl, e⟩
theorem digs_ok : ∀ n, n < 100 → Str.ofString (toString ((n : Nat) : Int)) = strOf (digs n) := by decide +kernel
theorem bi1_ok {X : Cx} {C : Ct} {Gam : Prog} {g : Gs} (hK : X.K = C.K) (hc : X.calm = true) {n : Bi} {x d : D} (e : biD Gam g n [x] = some d) : Call1S C X g (biV n) x d := by
  cases n with
  | int => cases x with
    | int i =>
      cases e
      exact ⟨_, call_int1, fun {W H u Q} r hx f => .inl ⟨i, by rw [opd_int hx], f.now r rfl⟩⟩
    | bl b =>
      cases e
      exact ⟨_, call_int1, fun {W H u Q} r hx f => .inr ⟨b, by rw [opd_bl hx], f.now r rfl⟩⟩
    | _ => cases e
  | tuple =>
    obtain ⟨xs, h, rfl⟩ := map_some (show (seqA g x).map D.tup = some d from e)
    refine ⟨_, call_tuple_of, fun {W H u Q} r hx f => ?_⟩
    cases x with
    | tup ys =>
      cases h
      obtain ⟨a, vs, rfl, h1, h2⟩ := rep_tup hx.tup
      exact ⟨a, vs, rfl, .inr ⟨by rw [hK]; exact r.sqT h1, f.now r hx.tup⟩⟩
    | kst ys =>
      cases h
      obtain ⟨a, vs, rfl, h1, h2⟩ := rep_kst hx.kst
      exact ⟨a, vs, rfl, .inl ⟨by rw [hK]; exact r.sqL h1, fun l hl => f.tup r h2 hl⟩⟩
    | lst ys =>
      obtain ⟨a, vs, rfl, h1, h2⟩ := seqL_ok (d := .lst ys) r h hx
      exact ⟨a, vs, rfl, .inl ⟨.inl h1, fun l hl => f.tup r h2 hl⟩⟩
    | glo m =>
      obtain ⟨a, vs, rfl, h1, h2⟩ := seqL_ok (d := .glo m) r h hx
      exact ⟨a, vs, rfl, .inl ⟨.inl h1, fun l hl => f.tup r h2 hl⟩⟩
    | _ => cases h
  | all =>
    obtain ⟨l, h, rfl⟩ := map_some (show ((seqL g x).bind boolsL).map (fun l => D.bl (l.all id)) = some d from e)
    obtain ⟨xs, h1, h2⟩ := bind_some h
    refine ⟨_, cr_all hc, fun {W H u Q} r hx f => ?_⟩
    obtain ⟨a, vs, rfl, h3, h4⟩ := seqL_ok r h1 hx
    exact ⟨a, l, rfl, by rw [← boolsL_rep h2 h4]; exact .inl h3, f.now r rfl⟩
  | any =>
    obtain ⟨l, h, rfl⟩ := map_some (show ((seqL g x).bind boolsL).map (fun l => D.bl (l.any id)) = some d from e)
    obtain ⟨xs, h1, h2⟩ := bind_some h
    refine ⟨_, cr_any hc, fun {W H u Q} r hx f => ?_⟩
    obtain ⟨a, vs, rfl, h3, h4⟩ := seqL_ok r h1 hx
    exact ⟨a, l, rfl, by rw [← boolsL_rep h2 h4]; exact .inl h3, f.now r rfl⟩
  | sum =>
    obtain ⟨l, h, rfl⟩ := map_some (show ((seqL g x).bind intsL).map (fun l => D.int l.sum) = some d from e)
    obtain ⟨xs, h1, h2⟩ := bind_some h
    refine ⟨_, cr_sum hc, fun {W H u Q} r hx f => ?_⟩
    obtain ⟨a, vs, rfl, h3, h4⟩ := seqL_ok r h1 hx
    exact ⟨a, l, rfl, by rw [← intsL_rep h2 h4]; exact .inl h3, f.now r rfl⟩
  | abs => cases x with
    | int i =>
      cases e
      exact ⟨_, call_abs, fun {W H u Q} r hx f => ⟨i, by rw [opd_int hx], f.now r rfl⟩⟩
    | _ => cases e
  | str => cases x with
    | int i =>
      have e : (if 0 ≤ i ∧ i < 100 then some (D.str (strOf (digs i.toNat))) else none) = some d := e
      split at e
      · rename_i hi
        cases e
        refine ⟨_, call_str_int, fun {W H u Q} r hx f => ⟨i, by rw [opd_int hx], ?_, ?_⟩⟩
        · have h1 : i.natAbs < 100 := by omega
          have h2 : ∀ n, n < 100 → n.log2 < 1920 := by decide +kernel
          exact h2 _ h1
        · have h1 := digs_ok i.toNat (by omega)
          rw [Int.toNat_of_nonneg hi.1] at h1
          rw [h1]
          exact f.now r rfl
      · cases e
    | str z =>
      cases e
      exact ⟨_, SkE.call_str_str, fun {W H u Q} r hx f => ⟨z, by rw [opd_str hx], f.now r rfl⟩⟩
    | _ => cases e
  | ord => cases x with
    | str z =>
      have e : (match z.cps.toList with
        | [c] => some (D.int (c : Nat))
        | _ => none) = some d := e
      refine ⟨_, call_ord, fun {W H u Q} r hx f => ?_⟩
      split at e
      · rename_i c hc
        cases e
        have e1 : z.cps = #[c] := by rw [← Array.toArray_toList (xs := z.cps), hc]
        refine ⟨z, by rw [opd_str hx], by show z.cps.size = 1; rw [e1]; rfl, ?_⟩
        rw [e1]
        exact f.now r rfl
      · cases e
    | _ => cases e
  | _ => cases x <;> cases e
theorem bi2_ok {X : Cx} {C : Ct} {Gam : Prog} {g : Gs} (hK : X.K = C.K) (hc : X.calm = true) {n : Bi} {x y d : D} (e : biD Gam g n [x, y] = some d) : ∃ R, CallR X (biV n) R ∧
    ∀ {W : Wd} {H : Hp} {u v : V} {Q : VK}, RelG C W g H → Opd C W H x u → Opd C W H y v → Fin C W g H d Q → R [u, v] H Q := by
  cases n with
  | min => cases x with
    | int i => cases y with
      | int j =>
        cases e
        exact ⟨_, call_min2 hc, fun {W H u v Q} r hx hy f => ⟨i, j, by rw [opd_int hx, opd_int hy], f.now r rfl⟩⟩
      | _ => cases e
    | _ => cases e
  | max => cases x with
    | int i => cases y with
      | int j =>
        cases e
        exact ⟨_, call_max2 hc, fun {W H u v Q} r hx hy f => ⟨i, j, by rw [opd_int hx, opd_int hy], f.now r rfl⟩⟩
      | _ => cases e
    | _ => cases e
  | _ => cases x <;> cases e
theorem bt_of {X : Cx} {Wx : WX} (G : Good M ini S X Wx) {b : Str} (h : b ∈ bNms) : X.mg b = none := by rw [G.mg]; exact G.bt b h
theorem biN_mem (n : Bi) : biN n ∈ bNms := by cases n <;> decide
theorem snd_bi1 {a : Expr} {x : P} {n : Bi} {p pos : Pos} (ha : SndP M ini S a x) (hg : globB S (biN n) = true) (hs : notStar a = true) (hc : S.cm = true) : SndE M ini S (.Call (.Name (biN n) p) [a] [] pos) (.bi n (.cons x .nil)) := by
  intro X Wx G W g H σ ρ Q r rs o
  have o : M.Ok W g H (((evP M.Gam M.call x σ g).bind fun x g => .ok [x] g).bind fun ds g => Out.opt (biD M.Gam g n ds) g) (WE Wx ρ) (fun d _ W' H' => ∀ v, Rep M.C W' d v → Q v H') := o
  obtain ⟨R, ⟨R', h1, h2⟩, hR⟩ := one_op G ha (f := fun g u => biD M.Gam g n [u]) (J := fun R => ∃ R', CallR X (biV n) R' ∧ ∀ u H Q, R u H Q → R' [u] H Q)
    ⟨fun _ _ _ => False, fun _ _ _ _ _ _ _ _ _ z => z.elim, fun _ _ _ z => z⟩
    (fun g x d e => by
      obtain ⟨R', k1, k2⟩ := bi1_ok (C := M.C) G.K (G.calm hc) e
      exact ⟨fun u H Q => R' [u] H Q, ⟨R', k1, fun _ _ _ z => z⟩, k2⟩) r rs (by
      cases q : evP M.Gam M.call x σ g with
      | no => rw [q] at o; exact o
      | ex => rw [q] at o; exact o
      | ok u g1 => rw [q] at o; exact o)
  refine mxE_of (bi_call h1 (globB_of G hg).1 (bt_of G (biN_mem n)) (pa_cons pe_mx pa_nil (star_cons hs)) (star_cons hs) rfl) ?_
  exact fun pins s I => thn (hR pins s I) fun u s1 ⟨v, H1, I1, r1, q1⟩ => ⟨v, H1, I1, r1, h2 _ _ _ q1⟩
theorem snd_len {a : Expr} {x : P} {p pos : Pos} (ha : SndP M ini S a x) (hg : globB S "len" = true) (hs : notStar a = true) : SndE M ini S (.Call (.Name "len" p) [a] [] pos) (.len x) := by
  intro X Wx G W g H σ ρ Q r rs o
  have o : M.Ok W g H ((evP M.Gam M.call x σ g).bind fun u g => Out.opt ((lenD g u).map fun n : Nat => D.int n) g) (WE Wx ρ) (fun d _ W' H' => ∀ v, Rep M.C W' d v → Q v H') := o
  obtain ⟨R, ⟨R', h1, h2⟩, hR⟩ := one_op G ha (f := fun g u => (lenD g u).map fun n : Nat => D.int n) (J := fun R => ∃ R', CallR X (.builtin "len") R' ∧ ∀ u H Q, R u H Q → R' [u] H Q)
    ⟨fun _ _ _ => False, fun _ _ _ _ _ _ _ _ _ z => z.elim, fun _ _ _ z => z⟩
    (fun g x d e => by
      obtain ⟨R', k1, k2⟩ := len_ok (C := M.C) G.K e
      exact ⟨fun u H Q => R' [u] H Q, ⟨R', k1, fun _ _ _ z => z⟩, k2⟩) r rs o
  refine mxE_of (len_call h1 (globB_of G hg).1 (bt_of G (by decide)) (pa_cons pe_mx pa_nil (star_cons hs)) (star_cons hs) rfl) ?_
  exact fun pins s I => thn (hR pins s I) fun u s1 ⟨v, H1, I1, r1, q1⟩ => ⟨v, H1, I1, r1, h2 _ _ _ q1⟩
theorem snd_bi2 {a b : Expr} {x y : P} {n : Bi} {p pos : Pos} (ha : SndP M ini S a x) (hb : SndP M ini S b y) (hg : globB S (biN n) = true) (hs : notStar a = true) (hs2 : notStar b = true) (hc : S.cm = true) :
    SndE M ini S (.Call (.Name (biN n) p) [a, b] [] pos) (.bi n (.cons x (.cons y .nil))) := by
  intro X Wx G W g H σ ρ Q r rs o
  have o : M.Ok W g H (((evP M.Gam M.call x σ g).bind fun x g => (((evP M.Gam M.call y σ g).bind fun y g => .ok [y] g).bind fun r g => .ok (x :: r) g)).bind fun ds g => Out.opt (biD M.Gam g n ds) g) (WE Wx ρ) (fun d _ W' H' => ∀ v, Rep M.C W' d v → Q v H') := o
  obtain ⟨R, ⟨R', h1, h2⟩, hR⟩ := two_op G ha hb (f := fun g u v => biD M.Gam g n [u, v]) (J := fun R => ∃ R', CallR X (biV n) R' ∧ ∀ u v H Q, R u v H Q → R' [u, v] H Q)
    ⟨fun _ _ _ => False, fun _ _ _ _ _ _ _ _ _ z => z.elim, fun _ _ _ _ z => z⟩
    (fun g x y d e => by
      obtain ⟨R', k1, k2⟩ := bi2_ok (C := M.C) G.K (G.calm hc) e
      exact ⟨fun u v H Q => R' [u, v] H Q, ⟨R', k1, fun _ _ _ _ z => z⟩, k2⟩) r rs (by
      cases q : evP M.Gam M.call x σ g with
      | no => rw [q] at o; exact o
      | ex => rw [q] at o; exact o
      | ok u g1 =>
        rw [q] at o
        have o : M.Ok W g H ((((evP M.Gam M.call y σ g1).bind fun y g => .ok [y] g).bind fun r g => .ok (u :: r) g).bind fun ds g => Out.opt (biD M.Gam g n ds) g) (WE Wx ρ) (fun d _ W' H' => ∀ v, Rep M.C W' d v → Q v H') := o
        show M.Ok W g H ((evP M.Gam M.call y σ g1).bind fun v g => Out.opt (biD M.Gam g n [u, v]) g) _ _
        cases q2 : evP M.Gam M.call y σ g1 with
        | no => rw [q2] at o; exact o
        | ex => rw [q2] at o; exact o
        | ok v g2 => rw [q2] at o; exact o)
  refine mxE_of (bi_call h1 (globB_of G hg).1 (bt_of G (biN_mem n)) (pa_cons pe_mx (pa_cons pe_mx pa_nil (star_cons hs2)) (star_cons hs)) (star_cons hs) (by rw [star_cons hs2]; rfl)) ?_
  exact fun pins s I => thn (hR pins s I) fun u s1 ⟨v, H1, I1, r1, q1⟩ => ⟨v, H1, I1, r1, fun pins s I => thn (q1 pins s I) fun u s1 ⟨v, H1, I1, r1, q1⟩ => ⟨v, H1, I1, r1, h2 _ _ _ _ q1⟩⟩

/-! ### join -/
theorem joinS_ex {sep : List Nat} : ∀ {xs : List D} {t : List Nat}, joinS sep xs = some t → ∃ ys : List Str, xs = ys.map D.str ∧ t = TL.joinL sep (ys.map TL.tl)
  | [], t, e => by cases e; exact ⟨[], rfl, rfl⟩
  | [.str s], t, e => by cases e; exact ⟨[s], rfl, rfl⟩
  | .str s :: x :: r, t, e => by
    obtain ⟨u, h, rfl⟩ := map_some (show (joinS sep (x :: r)).map (fun t => s.cps.toList ++ sep ++ t) = some t from e)
    obtain ⟨ys, h1, rfl⟩ := joinS_ex h
    cases ys with
    | nil => cases h1
    | cons y ys =>
      refine ⟨s :: y :: ys, by rw [h1]; rfl, ?_⟩
      show TL.tl s ++ sep ++ TL.joinL sep ((y :: ys).map TL.tl) = TL.tl s ++ (sep ++ TL.joinL sep ((y :: ys).map TL.tl))
      rw [List.append_assoc]
  | .non :: _, _, e => by cases e
  | .bl _ :: _, _, e => by cases e
  | .int _ :: _, _, e => by cases e
  | .tup _ :: _, _, e => by cases e
  | .lst _ :: _, _, e => by cases e
  | .kst _ :: _, _, e => by cases e
  | .kdc _ _ :: _, _, e => by cases e
  | .dct _ _ _ :: _, _, e => by cases e
  | .ins _ _ _ _ :: _, _, e => by cases e
  | .glo _ :: _, _, e => by cases e
  | .fn _ :: _, _, e => by cases e
theorem strs_repL {C : Ct} {W : Wd} : ∀ {ys : List Str} {vs : List V}, RepL C W (ys.map D.str) vs → vs = ys.map V.str
  | [], vs, h => h.nil_eq
  | y :: ys, vs, h => by
    obtain ⟨v, r, rfl, h1, h2⟩ := h.uncons
    rw [rep_str h1, strs_repL h2]
    rfl
theorem joinL_len {S : List Nat} : ∀ {ps : List (List Nat)}, (ps.map List.length).sum + ps.length * S.length ≤ (TL.joinL S ps).length + S.length
  | [] => by simp [TL.joinL]
  | [p] => by simp [TL.joinL]
  | p :: q :: r => by
    have := joinL_len (S := S) (ps := q :: r)
    show (p.length + ((q :: r).map List.length).sum) + ((q :: r).length + 1) * S.length ≤ (p ++ (S ++ TL.joinL S (q :: r))).length + S.length
    rw [List.length_append, List.length_append, Nat.add_mul, Nat.one_mul]
    omega
theorem join_ok {X : Cx} {C : Ct} {g : Gs} {s : Str} {x d : D} (hK : X.K = C.K) (e : bmD g (.str s) .join [x] = some d) : ∀ {W : Wd} {H : Hp} {u : V} {Q : VK}, RelG C W g H → Opd C W H x u → Fin C W g H d Q →
    ∃ a p, ∃ ys : List Str, V.str s = V.str a ∧ [u] = [V.ref p] ∧ (SqL X.K H p (ys.map V.str) ∨ SqT X.K H p (ys.map V.str)) ∧ (ys.map (·.length)).sum + ys.length * a.length ≤ 16777216 ∧ Q (.str (Txt.join a ys)) H := by
  intro W H u Q r hx f
  obtain ⟨t, h1, h2⟩ := bind_some (show ((seqL g x).bind (joinS s.cps.toList)).bind (fun t => if t.length ≤ sizeM ∧ s.cps.size ≤ sizeM then some (.str (strOf t)) else none) = some d from e)
  obtain ⟨xs, h3, h4⟩ := bind_some h1
  obtain ⟨ys, rfl, rfl⟩ := joinS_ex h4
  split at h2
  · rename_i hz
    cases h2
    obtain ⟨p, vs, rfl, k1, k2⟩ := seqL_ok r h3 hx
    have := strs_repL k2
    subst this
    have ej : Txt.join s ys = strOf (TL.joinL s.cps.toList (ys.map TL.tl)) := by
      have e1 : Txt.join s ys = Str.join s ys := StrLaws.glued_eq_join s ys
      have e2 : (Str.join s ys).cps.toList = TL.joinL s.cps.toList (ys.map TL.tl) := TL.tl_join s ys
      rw [e1, ← e2]
      show Str.join s ys = ⟨(Str.join s ys).cps.toList.toArray⟩
      rw [Array.toArray_toList]
    refine ⟨s, p, ys, rfl, rfl, .inl (.inl k1), ?_, by rw [ej]; exact f.now r rfl⟩
    have hl := joinL_len (S := s.cps.toList) (ps := ys.map TL.tl)
    have e1 : ((ys.map TL.tl).map List.length) = ys.map (·.length) := by
      rw [List.map_map]
      refine List.map_congr_left fun y _ => ?_
      show y.cps.toList.length = y.cps.size
      rw [Array.length_toList]
    rw [e1, List.length_map] at hl
    have e2 : s.cps.toList.length = s.length := Array.length_toList
    have z1 : (TL.joinL s.cps.toList (ys.map TL.tl)).length ≤ 100000 := hz.1
    have z2 : s.cps.size ≤ 100000 := hz.2
    have e3 : s.length = s.cps.size := rfl
    rw [e2] at hl
    omega
  · cases h2
theorem snd_join {s : Str} {o a : Expr} {y : P} {sk : Nat} {sp apos pos : Pos} (ho : o = .Constant (.str s) sk sp) (ha : SndP M ini S a y) (hs : notStar a = true) (hline : (apos.endLine == pos.line) = true) : SndE M ini S (.Call (.Attribute o "join" apos) [a] [] pos) (.bm (.e (.cst (.str s))) .join (.cons y .nil)) := by
  intro X Wx G W g H σ ρ Q r rs o'
  subst ho
  have o : M.Ok W g H ((evP M.Gam M.call y σ g).bind fun l g => Out.opt (bmD g (.str s) .join [l]) g) (WE Wx ρ) (fun d _ W' H' => ∀ v, Rep M.C W' d v → Q v H') := by
    have o' : M.Ok W g H (((evP M.Gam M.call y σ g).bind fun x g => .ok [x] g).bind fun ds g => Out.opt (bmD g (.str s) .join ds) g) (WE Wx ρ) (fun d _ W' H' => ∀ v, Rep M.C W' d v → Q v H') := o'
    cases q : evP M.Gam M.call y σ g with
    | no => rw [q] at o'; exact o'
    | ex => rw [q] at o'; exact o'
    | ok u g1 => rw [q] at o'; exact o'
  obtain ⟨R, hJ, hR⟩ := one_op G ha (f := fun g u => bmD g (.str s) .join [u]) (J := fun R => ∀ u H Q, R u H Q → ∃ a p, ∃ ys : List Str, V.str s = V.str a ∧ [u] = [V.ref p] ∧ (SqL X.K H p (ys.map V.str) ∨ SqT X.K H p (ys.map V.str)) ∧ (ys.map (·.length)).sum + ys.length * a.length ≤ 16777216 ∧ Q (.str (Txt.join a ys)) H)
    (fun _ _ _ z => z.elim)
    (fun g x d e => ⟨fun u H Q => ∃ a p, ∃ ys : List Str, V.str s = V.str a ∧ [u] = [V.ref p] ∧ (SqL X.K H p (ys.map V.str) ∨ SqT X.K H p (ys.map V.str)) ∧ (ys.map (·.length)).sum + ys.length * a.length ≤ 16777216 ∧ Q (.str (Txt.join a ys)) H, (fun _ _ _ z => z), join_ok G.K e⟩) r rs o
  refine mxE_of (pe_join pe_str pe_mx (star_cons hs) rfl hline) ⟨⟨s, rfl⟩, ?_⟩
  exact fun pins s I => thn (hR pins s I) fun u s1 ⟨v, H1, I1, r1, q1⟩ => ⟨v, H1, I1, r1, hJ _ _ _ q1⟩
/-! ### attributes -/
def plainBase : Expr → Bool
  | .Call .. => false
  | _ => true
theorem base_of {e : Expr} {f : Str} {env : Env} (h : plainBase e = true) : attributeBase e f env (eval e env) = eval e env := by
  cases e <;> first
    | rfl
    | cases h
/-! ### upper, rfind, get -/
theorem upper_up {z : Str} (h : (z.cps.toList.all fun c => decide (c < 128)) = true) : Txt.upper z = strOf (z.cps.toList.map up1) := by
  rw [PyProof.Rows.upper_ascii fun c hc => by have := List.all_eq_true.mp h c hc; exact of_decide_eq_true this]
  show (⟨z.cps.map up1⟩ : Str) = ⟨(z.cps.toList.map up1).toArray⟩
  rw [← Array.toList_map, Array.toArray_toList]
theorem snd_upper {o : Expr} {x : P} {apos pos : Pos} (ho : SndP M ini S o x) (hb : plainBase o = true) (hline : (apos.endLine == pos.line) = true) : SndE M ini S (.Call (.Attribute o "upper" apos) [] [] pos) (.bm x .upper .nil) := by
  intro X Wx G W g H σ ρ Q r rs o'
  have o : M.Ok W g H ((evP M.Gam M.call x σ g).bind fun l g => Out.opt (bmD g l .upper []) g) (WE Wx ρ) (fun d _ W' H' => ∀ v, Rep M.C W' d v → Q v H') := o'
  obtain ⟨R, hJ, hR⟩ := one_op G ho (f := fun g u => bmD g u .upper []) (J := fun R => ∀ u H Q, R u H Q → ∃ a, u = V.str a ∧ a.length ≤ 5592405 ∧ Q (.str (Txt.upper a)) H)
    (fun _ _ _ z => z.elim)
    (fun g x d e => ⟨fun u H Q => ∃ a, u = V.str a ∧ a.length ≤ 5592405 ∧ Q (.str (Txt.upper a)) H, fun _ _ _ z => z, fun {W H u Q} r hx f => by
      cases x with
      | str z =>
        have e : (if z.cps.size ≤ sizeM ∧ (z.cps.toList.all fun c => decide (c < 128)) = true then some (D.str (strOf (z.cps.toList.map up1))) else none) = some d := e
        split at e
        · rename_i hz
          cases e
          refine ⟨z, opd_str hx, Nat.le_trans hz.1 (by decide), ?_⟩
          rw [upper_up hz.2]
          exact f.now r rfl
        · cases e
      | _ => cases e⟩) r rs o
  refine mxE_of (pe_upper pe_mx (base_of hb) hline) ?_
  exact fun pins s I => thn (hR pins s I) fun u s1 ⟨v, H1, I1, r1, q1⟩ => by
    obtain ⟨a, rfl, k1, k2⟩ := hJ _ _ _ q1
    exact ⟨.str a, H1, I1, r1, ⟨a, rfl⟩, a, rfl, rfl, k1, k2⟩
theorem snd_rfind {o : Expr} {x : P} {t : Str} {sk : Nat} {sp apos pos : Pos} (ho : SndP M ini S o x) (hb : plainBase o = true) (hline : (apos.endLine == pos.line) = true) : SndE M ini S (.Call (.Attribute o "rfind" apos) [.Constant (.str t) sk sp] [] pos) (.bm x .rfind (.cons (.e (.cst (.str t))) .nil)) := by
  intro X Wx G W g H σ ρ Q r rs o'
  have o : M.Ok W g H ((evP M.Gam M.call x σ g).bind fun u g => Out.opt (bmD g u .rfind [.str t]) g) (WE Wx ρ) (fun d _ W' H' => ∀ v, Rep M.C W' d v → Q v H') := o'
  obtain ⟨R, hJ, hR⟩ := one_op G ho (f := fun g u => bmD g u .rfind [.str t]) (J := fun R => ∀ u H Q, R u H Q → ∃ a, u = V.str a ∧ Q (.int (Txt.rfind a t)) H)
    (fun _ _ _ z => z.elim)
    (fun g x d e => ⟨fun u H Q => ∃ a, u = V.str a ∧ Q (.int (Txt.rfind a t)) H, fun _ _ _ z => z, fun {W H u Q} r hx f => by
      cases x with
      | str z =>
        cases e
        exact ⟨z, opd_str hx, f.now r rfl⟩
      | _ => cases e⟩) r rs o
  refine mxE_of (pe_m1 PySem.F.slot_str_rfind rfl mt_rfind pe_mx pe_str rfl (base_of hb) hline) ?_
  exact fun pins s I => thn (hR pins s I) fun u s1 ⟨v, H1, I1, r1, q1⟩ => by
    obtain ⟨a, rfl, k2⟩ := hJ _ _ _ q1
    exact ⟨.str a, H1, I1, r1, ⟨a, rfl⟩, a, t, rfl, rfl, k2⟩
theorem getV_of {σ : Sg} {i : Nat} {d : D} (h : getV σ i = some d) : σ[i]? = some (some (.val d)) := by
  unfold getV at h
  split at h
  · rename_i q
    cases h
    exact q
  · cases h
theorem snd_get {i j k : Nat} {x y z : Str} {p1 p2 p3 apos pos : Pos} (hi : visB S i x = true) (hj : visB S j y = true) (hk : visB S k z = true) (hline : (apos.endLine == pos.line) = true) :
    SndE M ini S (.Call (.Attribute (.Name x p1) "get" apos) [.Name y p2, .Name z p3] [] pos) (.bm (.e (.v i)) .get (.cons (.e (.v j)) (.cons (.e (.v k)) .nil))) := by
  intro X Wx G W g H σ ρ Q r rs o
  obtain ⟨i1, i2, i3, i4⟩ := visB_of G hi
  obtain ⟨j1, j2, j3, j4⟩ := visB_of G hj
  obtain ⟨k1, k2, k3, k4⟩ := visB_of G hk
  have o : M.Ok W g H ((Out.opt (getV σ i) g).bind fun u g => ((Out.opt (getV σ j) g).bind fun v g => ((Out.opt (getV σ k) g).bind fun w g => .ok [w] g).bind fun r g => .ok (v :: r) g).bind fun ds g => Out.opt (bmD g u .get ds) g) (WE Wx ρ) (fun d _ W' H' => ∀ v, Rep M.C W' d v → Q v H') := o
  cases qi : getV σ i with
  | none => rw [qi] at o; exact o.elim
  | some u => cases qj : getV σ j with
    | none => rw [qi, qj] at o; exact o.elim
    | some v => cases qk : getV σ k with
      | none => rw [qi, qj, qk] at o; exact o.elim
      | some w =>
        rw [qi, qj, qk] at o
        have o : M.Ok W g H (Out.opt (bmD g u .get [v, w]) g) (WE Wx ρ) (fun d _ W' H' => ∀ v, Rep M.C W' d v → Q v H') := o
        obtain ⟨d, hd, o⟩ := Ok.opt o
        obtain ⟨q, h1, h2⟩ := bind_some (show (dctA g u).bind (fun d => (keyAt v d.1 d.2).map fun o => o.getD w) = some d from hd)
        obtain ⟨o', h3, rfl⟩ := map_some h2
        obtain ⟨κ, rfl, rfl⟩ := keyAt_ok h3
        obtain ⟨u', e1, r1⟩ := rs.at_ i _ (getV_of qi)
        obtain ⟨v', e2, r2⟩ := rs.at_ j _ (getV_of qj)
        obtain ⟨w', e3, r3⟩ := rs.at_ k _ (getV_of qk)
        obtain ⟨a, oo, rfl, h4, h5⟩ := dget_of r h1 (.inl r1) κ
        refine mxE_of (pe_dget2 (bigU G.big) (pe_var i1 i2 i3 i4) (pe_var j1 j2 j3 j4) (pe_var k1 k2 k3 k4) ⟨rfl, rfl, hline, rfl⟩) ?_
        have hk' : v' = kV κ := key_rep r2
        refine ⟨.ref a, e1, a, rfl, ?_, v', e2, w', e3, oo, by rw [hk']; exact h4, ?_⟩
        · rcases h4 with ⟨kvs, k, h, _⟩ | ⟨kvs, k, b, h, _⟩
          · exact .inl ⟨kvs, h⟩
          · exact .inr ⟨kvs, h⟩
        · refine Ok.now r o _ ?_
          cases qf : keyFind (kD κ) q.1 q.2 with
          | none =>
            rw [qf] at h5
            rw [h5]
            exact r3
          | some d =>
            rw [qf] at h5
            obtain ⟨vv, e5, h6⟩ := h5
            rw [e5]
            exact h6
theorem lookup_zip {C : Ct} {W : Wd} {f : Nat} : ∀ {fs : List Nat} {ds : List D} {vs : List V} {d : D}, lookF f fs ds = some d → RepL C W ds vs → ∃ v, ((fs.map C.fld).zip vs).lookup (C.fld f) = some v ∧ Rep C W d v
  | [], _, _, _, e, _ => by cases e
  | x :: xs, [], _, _, e, _ => by cases e
  | x :: xs, y :: ys, _, d, e, h => by
    obtain ⟨v, r, rfl, h1, h2⟩ := h.uncons
    have e : (if x = f then some y else lookF f xs ys) = some d := e
    rw [List.map_cons, List.zip_cons_cons, List.lookup_cons]
    by_cases q : x = f
    · rw [if_pos q] at e
      cases e
      subst q
      rw [beq_self_eq_true]
      exact ⟨v, rfl, h1⟩
    · rw [if_neg q] at e
      have : (C.fld f == C.fld x) = false := beq_eq_false_iff_ne.mpr fun z => q (C.inj _ _ z.symm)
      rw [this]
      exact lookup_zip e h2
theorem att_at {X : Cx} {Wx : WX} (G : Good M ini S X Wx) {W : Wd} {g : Gs} {H : Hp} {x d : D} {f : Nat} {u : V} {Q : VK} (hf : f ∈ M.flds) (r : RelG M.C W g H) (e : attD g x f = some d) (hx : Rep M.C W x u) (q : ∀ v, Rep M.C W d v → Q v H) :
    ∃ a C dx fs v, u = .ref a ∧ H a = some (.ins C dx fs) ∧ L2.Cls X.K C ∧ NoAttr X.K C (M.C.fld f) ∧ fs.lookup (M.C.fld f) = some v ∧ Q v H := by
  cases x with
  | ins c i fs ds =>
    obtain ⟨a, A, dx, ws, rfl, h1, h2, h3, h4⟩ := rep_ins hx
    have h5 : H a = some (.ins A dx ((fs.map M.C.fld).zip ws)) := by
      rcases r.le _ _ h2 with h | ⟨z, _⟩
      · exact h
      · exact z.elim
    obtain ⟨v, h6, h7⟩ := lookup_zip (show lookF f fs ds = some d from e) h4
    exact ⟨a, A, dx, _, v, rfl, h5, by rw [G.K]; exact G.cl c A h1 h5, by rw [G.K]; exact G.na c A h1 h5 f hf, h6, q v h7⟩
  | glo n =>
    simp only [attD] at e
    cases z : g.cell n with
    | none => rw [z] at e; cases e
    | some c =>
      rw [z] at e
      cases c with
      | lst => cases e
      | dct => cases e
      | ins c fs ds =>
        obtain ⟨a, rfl, _, _, A, dx, ws, h1, h5, h3, h4⟩ := glo_cell r (.inl hx) z
        obtain ⟨v, h6, h7⟩ := lookup_zip (show lookF f fs ds = some d from e) h4
        exact ⟨a, A, dx, _, v, rfl, h5, by rw [G.K]; exact G.cl c A h1 h5, by rw [G.K]; exact G.na c A h1 h5 f hf, h6, q v h7⟩
  | _ => cases e
theorem snd_att {a : Expr} {x : E} {f : Nat} {n : Str} {pos : Pos} (ha : SndE M ini S a x) (hn : n = M.C.fld f) (hf : f ∈ M.flds) (hb : plainBase a = true) : SndE M ini S (.Attribute a n pos) (.att x f) := by
  intro X Wx G W g H σ ρ Q r rs o
  subst hn
  refine mxE_of (pe_fld pe_mx (base_of hb)) (ha X Wx G W g H σ ρ _ r rs ((Ok.bind r o).imp fun d g1 W1 H1 _ e1 r1 o v hv => ?_))
  obtain ⟨d', hd, o⟩ := Ok.opt o
  exact att_at G hf r1 hd hv fun w hw => Ok.now r1 o w hw
theorem snd_atm {i f : Nat} {x n : Str} {p pos : Pos} (h : visB S i x = true) (hn : n = M.C.fld f) (hf : f ∈ M.flds) : SndE M ini S (.Attribute (.Name x p) n pos) (.atm i f) := by
  intro X Wx G W g H σ ρ Q r rs o
  subst hn
  obtain ⟨h1, h2, h3, h4⟩ := visB_of G h
  obtain ⟨d, hd, o⟩ := Ok.opt (o := getA σ i f) (g1 := g) o
  have : ∃ c fs ds, σ[i]? = some (some (.mi c fs ds)) ∧ lookF f fs ds = some d := by
    unfold getA at hd
    split at hd
    · rename_i c fs ds hq
      exact ⟨c, fs, ds, hq, hd⟩
    · cases hd
  obtain ⟨c, fs, ds, hs, hl⟩ := this
  obtain ⟨v, e1, a, rfl, e3, A, dx, ws, k1, k2, k3, k4⟩ := rs.at_ i _ hs
  obtain ⟨w, h6, h7⟩ := lookup_zip hl k4
  exact mxE_of (pe_fld (pe_var h1 h2 h3 h4) (base_of rfl)) ⟨.ref a, e1, a, A, dx, _, w, rfl, k2, by rw [G.K]; exact G.cl c A k1 k2, by rw [G.K]; exact G.na c A k1 k2 f hf, h6, Ok.now r o w h7⟩
end
end VM

namespace VM
open PySem L2 SeqAt PyProof.Rows
section
variable {M : Cf} {ini : Nat → Option Nat} {S : Sc}

/-! ### isinstance -/
def tyS : Ty → Str
  | .int => "int"
  | .bool => "bool"
  | .str => "str"
  | .list => "list"
  | .tuple => "tuple"
  | .dict => "dict"
  | .cls _ => ""
def tyB (M : Cf) (S : Sc) (t : Ty) (e : Expr) : Bool := match e with
  | .Name y _ => globB S y && (match t with
    | .cls c => decide (y = M.nm.cls c) && M.clss.contains c
    | t => decide (y = tyS t))
  | _ => false
theorem tyB_of {X : Cx} {Wx : WX} (G : Good M ini S X Wx) {t : Ty} {e : Expr} (h : tyB M S t e = true) : notStar e = true ∧ ∃ v u, TyV M.C t v u ∧ PE X e (tC v) := by
  unfold tyB at h
  split at h
  · rename_i y p
    rw [Bool.and_eq_true] at h
    obtain ⟨h1, h2⟩ := globB_of G h.1
    refine ⟨rfl, ?_⟩
    have h3 := h.2
    cases t with
    | cls c =>
      simp only [Bool.and_eq_true, decide_eq_true_eq] at h3
      obtain ⟨hy, hc⟩ := h3
      obtain ⟨A, hA⟩ := G.cx c (by simpa using hc)
      subst hy
      exact ⟨.ref A, .ref A, ⟨A, hA, rfl, rfl⟩, pe_glob (v := .ref A) h1 (by rw [G.mg]; exact G.clm c A hA) rfl h2⟩
    | int => cases of_decide_eq_true h3; exact ⟨_, _, ⟨rfl, rfl⟩, pe_bltn (v := .ty "int") h1 (bt_of G (by decide)) rfl rfl (by decide) h2⟩
    | bool => cases of_decide_eq_true h3; exact ⟨_, _, ⟨rfl, rfl⟩, pe_bltn (v := .ty "bool") h1 (bt_of G (by decide)) rfl rfl (by decide) h2⟩
    | str => cases of_decide_eq_true h3; exact ⟨_, _, ⟨rfl, rfl⟩, pe_bltn (v := .ty "str") h1 (bt_of G (by decide)) rfl rfl (by decide) h2⟩
    | list => cases of_decide_eq_true h3; exact ⟨_, _, ⟨rfl, rfl⟩, pe_bltn (v := .ty "list") h1 (bt_of G (by decide)) rfl rfl (by decide) h2⟩
    | tuple => cases of_decide_eq_true h3; exact ⟨_, _, ⟨rfl, rfl⟩, pe_bltn (v := .ty "tuple") h1 (bt_of G (by decide)) rfl rfl (by decide) h2⟩
    | dict => cases of_decide_eq_true h3; exact ⟨_, _, ⟨rfl, rfl⟩, pe_bltn (v := .ty "dict") h1 (bt_of G (by decide)) rfl rfl (by decide) h2⟩
  · cases h
def tysB (M : Cf) (S : Sc) : List Ty → List Expr → Bool
  | [], [] => true
  | t :: ts, e :: es => tyB M S t e && tysB M S ts es
  | _, _ => false
inductive TyVs (C : Ct) : List Ty → List V → List Value → Prop
  | nil : TyVs C [] [] []
  | cons {t : Ty} {v : V} {u : Value} {ts : List Ty} {vs : List V} {us : List Value} : TyV C t v u → TyVs C ts vs us → TyVs C (t :: ts) (v :: vs) (u :: us)
theorem TyVs.cls {C : Ct} : ∀ {ts : List Ty} {vs : List V} {us : List Value}, TyVs C ts vs us → Paired ClsV vs us
  | _, _, _, .nil => .nil
  | _, _, _, .cons h t => .cons h.cls t.cls
theorem TyVs.len {C : Ct} : ∀ {ts : List Ty} {vs : List V} {us : List Value}, TyVs C ts vs us → vs.length = ts.length
  | _, _, _, .nil => rfl
  | _, _, _, .cons h t => by rw [List.length_cons, List.length_cons, t.len]
def tCs : List V → TA := fun vs _ H Q => Q vs H
theorem tysB_of {X : Cx} {Wx : WX} (G : Good M ini S X Wx) : ∀ {ts : List Ty} {es : List Expr}, tysB M S ts es = true → ∃ vs us, TyVs M.C ts vs us ∧ PA X es (tCs vs)
  | [], [], _ => ⟨[], [], .nil, ⟨fun pos pins s σ H Q I h => pa_nil.run pos pins s σ H Q I h⟩⟩
  | t :: ts, e :: es, h => by
    unfold tysB at h
    rw [Bool.and_eq_true] at h
    obtain ⟨n, v, u, h1, h2⟩ := tyB_of G h.1
    obtain ⟨vs, us, h3, h4⟩ := tysB_of G h.2
    exact ⟨v :: vs, u :: us, .cons h1 h3, ⟨fun pos pins s σ H Q I h => (pa_cons h2 h4 (star_cons n)).run pos pins s σ H Q I h⟩⟩
  | [], _ :: _, h => by cases h
  | _ :: _, [], h => by cases h
theorem Opd.lay {C : Ct} {W : Wd} {g : Gs} {H : Hp} {d : D} {v : V} {p : Addr} {o : HO} (r : RelG C W g H) (hp : H p = none) (h : Opd C W H d v) : Opd C (W.put p o) (upd H p o) d v := by
  rcases h with h | ⟨a, c, h1, h2, h3, h4⟩
  · exact .inl (Rep.le (Wd.le_put (r.nf hp)) d v h)
  · exact .inr ⟨a, c, h1, h2.le (Wd.le_put (r.nf hp)) (upd_ne fun z => h2.some (by rw [z]; exact hp)), h3, h4⟩
theorem isTs_one {Gam : Prog} {g : Gs} {x : D} {t : Ty} {b : Bool} (e : isTs Gam g x [t] = some b) : isT Gam g x t = some b := by
  unfold isTs at e
  cases q : isT Gam g x t with
  | none => rw [q] at e; cases e
  | some c =>
    rw [q] at e
    cases c with
    | true => exact e
    | false => exact e
theorem kit_any {Gam : Prog} {C : Ct} {g : Gs} {x : D} {t : Value} (k : ∀ ty b v cu, isT Gam g x ty = some b → TyV C ty v cu → PySem.W.kitOne C.K t cu = some b) : ∀ {ts : List Ty} {vs : List V} {us : List Value} {b : Bool},
    isTs Gam g x ts = some b → TyVs C ts vs us → PySem.W.kitAny C.K t us = some b
  | _, _, _, _, e, .nil => by cases e; exact kitAny_nil
  | ty :: ts, _, _, b, e, .cons h hs => by
    unfold isTs at e
    cases q : isT Gam g x ty with
    | none => rw [q] at e; cases e
    | some c =>
      rw [q] at e
      cases c with
      | true => exact kitAny_cons (k ty true _ _ q h) (fun z => nomatch z) (fun _ => (Option.some.inj e).symm)
      | false => exact kitAny_cons (k ty false _ _ q h) (fun _ => kit_any k e hs) (fun z => nomatch z)
theorem snd_isi1 {a c : Expr} {x : P} {t : Ty} {p pos : Pos} (ha : SndP M ini S a x) (hg : globB S "isinstance" = true) (hs : notStar a = true) (ht : tyB M S t c = true) : SndE M ini S (.Call (.Name "isinstance" p) [a, c] [] pos) (.isi x [t]) := by
  intro X Wx G W g H σ ρ Q r rs o
  have o : M.Ok W g H ((evP M.Gam M.call x σ g).bind fun u g => Out.opt ((isTs M.Gam g u [t]).map D.bl) g) (WE Wx ρ) (fun d _ W' H' => ∀ v, Rep M.C W' d v → Q v H') := o
  obtain ⟨n, cv, cu, h1, h2⟩ := tyB_of G ht
  obtain ⟨R, h3, hR⟩ := one_op G ha (f := fun g u => (isTs M.Gam g u [t]).map D.bl) (J := fun R => ∀ u H Q, R u H Q → rIsi X.K [u, cv] H Q)
    (fun _ _ _ z => z.elim) (fun g x d e => by
      obtain ⟨b, hb, rfl⟩ := map_some e
      have hb := isTs_one hb
      exact ⟨fun u H Q => rIsi X.K [u, cv] H Q, fun _ _ _ z => z, fun {W H u Q} r hx f => by
        obtain ⟨tv, k1, k2⟩ := ty_of G.ci r hx ⟨t, b, hb⟩
        exact ⟨u, cv, tv, cu, b, rfl, h1.cls, by rw [G.K]; exact k1, by rw [G.K]; exact k2 t b cv cu hb h1, f.now r rfl⟩⟩) r rs o
  refine mxE_of (pe_callB call_isi (globB_of G hg).1 (bt_of G (by decide)) rfl (pa_cons pe_mx (pa_cons h2 pa_nil (star_cons n)) (star_cons hs)) (by decide) (by decide) (star_cons hs) (by rw [star_cons n]; rfl)) ?_
  exact fun pins s I => thn (hR pins s I) fun u s1 ⟨v, H1, I1, r1, q1⟩ => ⟨v, H1, I1, r1, h3 _ _ _ q1⟩
theorem snd_isi {a : Expr} {cs : List Expr} {x : P} {ts : List Ty} {k : Nat} {p p2 pos : Pos} (ha : SndP M ini S a x) (hg : globB S "isinstance" = true) (hs : notStar a = true) (ht : tysB M S ts cs = true) (hl : ts.length ≤ sizeM) (hne : ts ≠ []) :
    SndE M ini S (.Call (.Name "isinstance" p) [a, .Tuple cs k p2] [] pos) (.isi x ts) := by
  intro X Wx G W g H σ ρ Q r rs o
  have o : M.Ok W g H ((evP M.Gam M.call x σ g).bind fun u g => Out.opt ((isTs M.Gam g u ts).map D.bl) g) (WE Wx ρ) (fun d _ W' H' => ∀ v, Rep M.C W' d v → Q v H') := o
  obtain ⟨cv, cu, h1, h2⟩ := tysB_of G ht
  obtain ⟨R, h3, hR⟩ := one_op G ha (f := fun g u => (isTs M.Gam g u ts).map D.bl) (J := fun R => ∀ u H Q, R u H Q → ∀ p, H p = none → rIsiT X.K [u, .ref p] (upd H p (.tup cv)) Q)
    (fun _ _ _ z => z.elim) (fun g x d e => by
      obtain ⟨b, hb, rfl⟩ := map_some e
      refine ⟨fun u H Q => ∀ p, H p = none → rIsiT X.K [u, .ref p] (upd H p (.tup cv)) Q, fun _ _ _ z => z, fun {W H u Q} r hx f p hp => ?_⟩
      cases ts with
      | nil => exact absurd rfl hne
      | cons t0 ts0 =>
        have hb0 : ∃ b, isT M.Gam g x t0 = some b := by
          unfold isTs at hb
          cases q : isT M.Gam g x t0 with
          | none => rw [q] at hb; cases hb
          | some c => exact ⟨c, rfl⟩
        obtain ⟨b0, hb0⟩ := hb0
        obtain ⟨tv, k1, k2⟩ := ty_of G.ci (r.lay (o := .tup cv) hp) (hx.lay r hp) ⟨t0, b0, hb0⟩
        exact ⟨u, p, cv, tv, cu, b, rfl, upd_same, h1.cls, by rw [G.K]; exact k1, by rw [G.K]; exact kit_any k2 hb h1, f _ _ _ (Ext.lay r hp) (r.lay hp) rfl⟩) r rs o
  refine mxE_of (pe_callB call_isiT (globB_of G hg).1 (bt_of G (by decide)) rfl (pa_cons pe_mx (pa_cons (pe_tup h2) pa_nil (star_cons rfl)) (star_cons hs)) (by decide) (by decide) (star_cons hs) rfl) ?_
  exact fun pins s I => thn (hR pins s I) fun u s1 ⟨v, H1, I1, r1, q1⟩ => ⟨v, H1, I1, r1, by rw [h1.len]; exact szM hl, fun p hp => h3 _ _ _ q1 p hp⟩

/-! ### tests -/
def SndW (M : Cf) (ini : Nat → Option Nat) (S : Sc) (e : Expr) (x : T) : Prop := ∀ X Wx, Good M ini S X Wx → ∀ W g H σ ρ (Q : Bool → Hp → Prop), RelG M.C W g H → RelS M.C W g H σ ρ →
  M.Ok W g H (evT M.Gam M.call x σ g) (WE Wx ρ) (fun b _ _ H' => Q b H') → mxW X e ρ H Q
theorem SndW.t {e : Expr} {x : T} (h : SndW M ini S e x) : SndT M ini S e x := fun X Wx G W g H σ ρ Q r rs o => mxT_ofW (h X Wx G W g H σ ρ Q r rs o)
theorem tru_op {X : Cx} {Wx : WX} (G : Good M ini S X Wx) {a : Expr} {x : P} (ha : SndP M ini S a x) {W : Wd} {g : Gs} {H : Hp} {σ : Sg} {ρ : L2.St} {Q : Bool → Hp → Prop} (r : RelG M.C W g H) (rs : RelS M.C W g H σ ρ)
    (h : M.Ok W g H ((evP M.Gam M.call x σ g).bind fun u g => Out.opt (truthD g u) g) (WE Wx ρ) (fun b _ W' H' => Q b H')) : ∃ R, TruR X R ∧ mxE X a ρ H (fun u H1 => R u H1 Q) := by
  cases qa : evP M.Gam M.call x σ g with
  | no => rw [qa] at h; exact h.elim
  | ex c ds g' =>
    rw [qa] at h
    exact ⟨fun _ _ _ => False, fun _ _ _ _ _ _ _ _ _ z => z.elim, ha X Wx G W g H σ ρ _ r rs (by rw [qa]; exact h)⟩
  | ok u g1 =>
    rw [qa] at h
    obtain ⟨b, hb, h⟩ := Ok.opt h
    obtain ⟨R, hJ, hR⟩ := tru_D G.K hb
    refine ⟨R, hJ, ha X Wx G W g H σ ρ _ r rs ?_⟩
    rw [qa]
    exact fun W1 H1 e1 r1 v1 hv1 => hR r1 hv1.opd (h W1 H1 e1 r1)
def plainT : Expr → Bool
  | .UnaryOp .Not _ _ => false
  | .BoolOp .. => false
  | .IfExp .. => false
  | .Compare .. => false
  | _ => true
theorem plainT_of {e : Expr} {env : Env} (h : plainT e = true) (whole : Sem Value) : isTrue e env whole = (do let v ← whole; standAt e.pos; holding [v] (truthy v)) := by
  cases e with
  | UnaryOp o x p => cases o <;> first
    | rfl
    | cases h
  | _ => first
    | rfl
    | cases h
theorem mxT_plain {X : Cx} {e : Expr} {ρ : L2.St} {H : Hp} {Q : Bool → Hp → Prop} {R : V → Hp → (Bool → Hp → Prop) → Prop} (hR : TruR X R) (he : plainT e = true) (h : mxE X e ρ H (fun v H1 => R v H1 Q)) : mxW X e ρ H Q ∨ mxT X e ρ H Q :=
  .inr fun pins s I => isTrue_plain (thn (h pins s I) fun v s1 ⟨x, H1, I1, r1, q1⟩ => hR pins s1 ρ H1 x v Q I1 r1 q1) (plainT_of he _)
theorem snd_te {e : Expr} {x : E} (h : SndE M ini S e x) (he : plainT e = true) : SndT M ini S e (.e x) := by
  intro X Wx G W g H σ ρ Q r rs o
  obtain ⟨R, h1, h2⟩ := tru_op G h.p r rs (Q := Q) o
  exact fun pins s I => isTrue_plain (thn (h2 pins s I) fun v s1 ⟨x, H1, I1, r1, q1⟩ => h1 pins s1 ρ H1 x v Q I1 r1 q1) (plainT_of he _)
theorem snd_tm {e : Expr} {i : Nat} (h : SndP M ini S e (.m i)) (he : plainT e = true) : SndT M ini S e (.m i) := by
  intro X Wx G W g H σ ρ Q r rs o
  have o : M.Ok W g H (Out.opt ((getM σ i).bind (truthD g)) g) (WE Wx ρ) (fun b _ _ H' => Q b H') := o
  obtain ⟨R, h1, h2⟩ := tru_op G h r rs (Q := Q) (by
    show M.Ok W g H ((Out.opt (getM σ i) g).bind fun u g => Out.opt (truthD g u) g) _ _
    cases q : getM σ i with
    | none => rw [q] at o; exact o
    | some u => rw [q] at o; exact o)
  exact fun pins s I => isTrue_plain (thn (h2 pins s I) fun v s1 ⟨x, H1, I1, r1, q1⟩ => h1 pins s1 ρ H1 x v Q I1 r1 q1) (plainT_of he _)
theorem snd_tnot {a : Expr} {x : T} {pos : Pos} (h : SndT M ini S a x) : SndT M ini S (.UnaryOp .Not a pos) (.not_ x) := by
  intro X Wx G W g H σ ρ Q r rs o
  exact mxT_of (pt_not pt_mx) (h X Wx G W g H σ ρ _ r rs ((Ok.bind r o).imp fun b g1 W1 H1 _ e1 r1 o => Ok.now r1 o))
theorem snd_tand1 {a : Expr} {x : T} {pos : Pos} (h : SndT M ini S a x) : SndW M ini S (.BoolOp .And [a] pos) x := fun X Wx G W g H σ ρ Q r rs o => mxW_of (pw_and1 pt_mx) (h X Wx G W g H σ ρ Q r rs o)
theorem snd_tor1 {a : Expr} {x : T} {pos : Pos} (h : SndT M ini S a x) : SndW M ini S (.BoolOp .Or [a] pos) x := fun X Wx G W g H σ ρ Q r rs o => mxW_of (pw_or1 pt_mx) (h X Wx G W g H σ ρ Q r rs o)
theorem snd_tand {a b : Expr} {bs : List Expr} {x y : T} {pos : Pos} (ha : SndT M ini S a x) (hb : SndW M ini S (.BoolOp .And (b :: bs) pos) y) : SndW M ini S (.BoolOp .And (a :: b :: bs) pos) (.and_ x y) := by
  intro X Wx G W g H σ ρ Q r rs o
  refine mxW_of (pw_and pt_mx pw_mx) (ha X Wx G W g H σ ρ _ r rs ((Ok.bind r o).imp fun c g1 W1 H1 _ e1 r1 o => ?_))
  cases c with
  | true => exact hb X Wx G W1 g1 H1 σ ρ Q r1 (rs.ext r e1) o
  | false => exact Ok.now r1 o
theorem snd_tor {a b : Expr} {bs : List Expr} {x y : T} {pos : Pos} (ha : SndT M ini S a x) (hb : SndW M ini S (.BoolOp .Or (b :: bs) pos) y) : SndW M ini S (.BoolOp .Or (a :: b :: bs) pos) (.or_ x y) := by
  intro X Wx G W g H σ ρ Q r rs o
  refine mxW_of (pw_or pt_mx pw_mx) (ha X Wx G W g H σ ρ _ r rs ((Ok.bind r o).imp fun c g1 W1 H1 _ e1 r1 o => ?_))
  cases c with
  | true => exact Ok.now r1 o
  | false => exact hb X Wx G W1 g1 H1 σ ρ Q r1 (rs.ext r e1) o
theorem cmpD_bl {g : Gs} {o : Cop} {x y d : D} (e : cmpD g o x y = some d) : ∃ b, d = .bl b := by
  cases o <;> first
    | exact let ⟨b, _, h⟩ := map_some (show Option.map _ _ = some d from e); ⟨_, h.symm⟩
theorem snd_tcmp {a b : Expr} {x y : P} {o : Cop} {pos : Pos} (ha : SndP M ini S a x) (hb : SndP M ini S b y) (hs : notSet b = true) (hq : inC S o = true) : SndT M ini S (.Compare a [coOf o] [b] pos) (.e (.cmp o x y)) := by
  intro X Wx G W g H σ ρ Q r rs h
  obtain ⟨R, hJ, hR⟩ := two_op G ha hb (f := fun g u v => cmpD g o u v) (J := fun R => OpR X (compareOp (coOf o)) R) (fun _ _ _ _ _ _ _ _ _ _ _ _ z => z.elim) (fun g x y d e => cmp_ok G.K G.big (inC_of G hq) e) r rs
    (Q := fun v H' => ∃ k, v = .bl k ∧ Q k H') (by
      have h : M.Ok W g H (((evP M.Gam M.call x σ g).bind fun u g => (evP M.Gam M.call y σ g).bind fun v g => Out.opt (cmpD g o u v) g).bind fun d g => Out.opt (truthD g d) g) (WE Wx ρ) (fun b _ _ H' => Q b H') := h
      refine (Ok.bind r h).imp fun d g1 W1 H1 ed e1 r1 q v hv => ?_
      obtain ⟨b, hb, q⟩ := Ok.opt q
      have : ∃ c, d = .bl c := by
        cases qa : evP M.Gam M.call x σ g with
        | no => rw [qa] at ed; cases ed
        | ex => rw [qa] at ed; cases ed
        | ok u g2 =>
          rw [qa] at ed
          have ed : ((evP M.Gam M.call y σ g2).bind fun v g => Out.opt (cmpD g o u v) g) = .ok d g1 := ed
          cases qb : evP M.Gam M.call y σ g2 with
          | no => rw [qb] at ed; cases ed
          | ex => rw [qb] at ed; cases ed
          | ok w g3 =>
            rw [qb] at ed
            have ed : Out.opt (cmpD g3 o u w) g3 = .ok d g1 := ed
            cases qc : cmpD g3 o u w with
            | none => rw [qc] at ed; cases ed
            | some d' =>
              rw [qc] at ed
              cases ed
              exact cmpD_bl qc
      obtain ⟨c, rfl⟩ := this
      cases hb
      exact ⟨_, rep_bl hv, Ok.now r1 q⟩)
  exact mxT_of (pt_cmpR hJ pe_mx pe_mx (notSet_of _ hs)) hR
theorem ok_truth {o : Out D} {W : Wd} {g : Gs} {H : Hp} {E : XK} {Q : Bool → Hp → Prop} (r : RelG M.C W g H) (hb : ∀ d g1, o = .ok d g1 → ∃ b, d = .bl b) (h : M.Ok W g H (o.bind fun d g => Out.opt (truthD g d) g) E (fun b _ _ H' => Q b H')) :
    M.Ok W g H o E (fun d _ W' H' => ∀ v, Rep M.C W' d v → ∃ k, v = .bl k ∧ Q k H') := by
  refine (Ok.bind r h).imp fun d g1 W1 H1 ed e1 r1 q v hv => ?_
  obtain ⟨c, rfl⟩ := hb d g1 ed
  obtain ⟨b, hb, q⟩ := Ok.opt q
  cases hb
  exact ⟨_, rep_bl hv, Ok.now r1 q⟩
theorem snd_tchn {a b c : Expr} {x y z : E} {o o' : Cop} {pos : Pos} (ha : SndE M ini S a x) (hb : SndE M ini S b y) (hc : SndE M ini S c z) (hs : notSet c = true) (hq : inC S o = true) (hq' : inC S o' = true) :
    SndT M ini S (.Compare a [coOf o, coOf o'] [b, c] pos) (.e (.chn o o' x y z)) := by
  intro X Wx G W g H σ ρ Q r rs h
  obtain ⟨R, R', h1, h2, q⟩ := chn_op ha hb hc G hq hq' r rs (Q := fun v H' => ∃ k, v = .bl k ∧ Q k H') (ok_truth r (fun d g1 e => by
    have e : ((evE M.Gam M.call x σ g).bind fun x g => (evE M.Gam M.call y σ g).bind fun y g => match cmpD g o x y with
      | some (.bl true) => (evE M.Gam M.call z σ g).bind fun z g => Out.opt (cmpD g o' y z) g
      | some (.bl false) => .ok (.bl false) g
      | _ => .no) = .ok d g1 := e
    cases qa : evE M.Gam M.call x σ g with
    | no => rw [qa] at e; cases e
    | ex => rw [qa] at e; cases e
    | ok u g2 =>
      rw [qa] at e
      have e : ((evE M.Gam M.call y σ g2).bind fun y g => match cmpD g o u y with
        | some (.bl true) => (evE M.Gam M.call z σ g).bind fun z g => Out.opt (cmpD g o' y z) g
        | some (.bl false) => .ok (.bl false) g
        | _ => .no) = .ok d g1 := e
      cases qb : evE M.Gam M.call y σ g2 with
      | no => rw [qb] at e; cases e
      | ex => rw [qb] at e; cases e
      | ok v g3 =>
        rw [qb] at e
        have e : (match cmpD g3 o u v with
          | some (.bl true) => (evE M.Gam M.call z σ g3).bind fun z g => Out.opt (cmpD g o' v z) g
          | some (.bl false) => .ok (.bl false) g3
          | _ => .no) = .ok d g1 := e
        split at e
        · cases qz : evE M.Gam M.call z σ g3 with
          | no => rw [qz] at e; cases e
          | ex => rw [qz] at e; cases e
          | ok t g4 =>
            rw [qz] at e
            have e : Out.opt (cmpD g4 o' v t) g4 = .ok d g1 := e
            cases qd : cmpD g4 o' v t with
            | none => rw [qd] at e; cases e
            | some d' => rw [qd] at e; cases e; exact cmpD_bl qd
        · cases e
          exact ⟨false, rfl⟩
        · cases e) h)
  exact mxT_of (pt_chain h1 h2 pe_mx pe_mx pe_mx (notSet_of _ hs)) q
end
end VM

namespace VM
open PySem L2 SeqAt PyProof.Rows

/-! ### calls at the slots as they are -/
section
variable {X : Cx} {CX : CXT} {k : Nat} {f C : Addr} {fd : FuncData} {ps : List Str} {sp : Sp} {E : L2.St → XK} {x m : Str} {p pos apos : Pos} {e o : Expr} {es : List Expr} {ta : TE} {t : TA}
theorem stars_ok : ∀ {es : List Expr} {env : Env} {pos : Pos}, es.all notStar = true → (backTo pos (starEach es env)).any (·.1) = false ∧ (backTo pos (starEach es env)).all (fun x => !x.1) = true
  | [], _, _, _ => ⟨rfl, rfl⟩
  | e :: es, env, pos, h => by
    rw [List.all_cons, Bool.and_eq_true] at h
    rw [star_cons h.1]
    obtain ⟨h1, h2⟩ := stars_ok (env := env) (pos := pos) h.2
    refine ⟨?_, ?_⟩
    · show (false || (backTo pos (starEach es env)).any (·.1)) = false
      rw [h1]
      rfl
    · show (true && (backTo pos (starEach es env)).all (fun x => !x.1)) = true
      rw [h2]
      rfl
theorem call_with {pins : List (Addr × Obj)} {σ : L2.St} {H : Hp} {s : Shared} {f : Value} {first : List Value} {Q : Value → Shared → Prop} (I : Inv X pins σ H s) (hk : PySem.W.keepIn X.K f = true) (hs : es.all notStar = true)
    (h : wpAny (model X.prog X.w) X.A (spliced (backTo pos (starEach es X.env))) (fun vs s₁ => X.K.In s₁.heap ∧ wpAny (model X.prog X.w) X.A (call f (first ++ vs)) Q X.xe s₁) X.xe s) :
    wpAny (model X.prog X.w) X.A (callWith pos f first (backTo pos (starEach es X.env)) (backToKw pos (keywordEach [] X.env))) Q X.xe s := by
  cases es with
  | nil =>
    refine PySem.W.callWith_of rfl (PySem.W.keeps_K hk) ?_
    show wpAny _ _ (evalArgs f true [] []) _ _ _
    unfold evalArgs
    show wpAny _ _ (spliced [] >>= _) _ _ s
    refine wpAny_bind (wpAny_mono h (fun vs s1 hv => ?_) fun _ _ x => x)
    refine wpAny_bind (wpAny_pure ?_)
    refine wpAny_holding ?_
    exact wpAny_bind (wpAny_pure (wpAny_bind (wpAny_pure (wpAny_pure hv))))
  | cons e es =>
    rw [List.all_cons, Bool.and_eq_true] at hs
    exact PySem.W.callWith_K (h₀ := X.base) I.ok.mod.kin hk h (star_cons hs.1) (stars_ok hs.2).1
/-- f(..) of the value of any name -/
theorem pe_callF {tf : TE} (hf : PE X (.Name x p) tf) (hs : es.all notStar = true) (ha : PA X es t) :
    PE X (.Call (.Name x p) es [] pos) (fun σ H Q => tf σ H fun v H1 => ∃ f fd ps k sp, v = .ref f ∧ FnOk X.prog X.w X.K X.mg X.base CX k f fd ps sp ∧ Room k X.A ∧ PySem.W.keepIn X.K (.ref f) = true ∧ Binds X.K fd ps [] ∧ PassesAt CX X σ (E σ) ∧ t σ H1 fun vs H2 => sp vs H2 Q (E σ)) := by
  refine ⟨fun pins s σ H Q I h => ?_⟩
  refine wpAny_Call_Name_kw (thn (hf.run pins s σ H _ I h) fun u s1 ⟨v, H1, I1, ru, f, fd, ps, k, sp, ev, F, hr, hk, hb, hx, q⟩ => ?_)
  subst ev
  obtain rfl : u = Value.ref f := ru
  exact call_with (first := []) I1 hk hs (thn (ha.run pos pins s1 σ H1 _ I1 q) fun us s2 ⟨vs, H2, I2, r, q2⟩ => ⟨I2.kIn, run_fnS F hr hb hx I2 r q2⟩)
theorem meth_eq {env : Env} (hb : attributeBase o m env (eval o env) = eval o env) (hs : es.all notStar = true) (hn : es.length < 30) (hline : (apos.endLine == pos.line) = true) :
    eval (.Call (.Attribute o m apos) es [] pos) env = (do
      let ov ← eval o env
      standAt apos.atName
      let (f, first) ← holding [ov] (getMethod ov m (do return (← importBound o env).getD true))
      callWith pos f first (backTo pos (starEach es env)) (backToKw pos (keywordEach [] env))) := by
  refine mcall_of hb fun ov => ?_
  have hform : methodCallForm (es.length + ([] : List Keyword).length) (backTo pos (starEach es env)) (backToKw pos (keywordEach [] env)) = true := by
    unfold methodCallForm
    rw [(stars_ok hs).2]
    show decide (es.length + 0 + 0 < 30) = true
    exact decide_eq_true (by omega)
  have hpos : methodCallPos true o env apos pos = pure pos := by unfold methodCallPos; simp [hline]
  unfold methodCall calleeOf
  rw [hform, hpos]
  rfl
theorem pe_methA (he : PE X o ta) (hb : attributeBase o m X.env (eval o X.env) = eval o X.env) (hs : es.all notStar = true) (hn : es.length < 30) (hline : (apos.endLine == pos.line) = true) (ha : PA X es t) :
    PE X (.Call (.Attribute o m apos) es [] pos) (fun σ H Q => ta σ H fun x H1 => ∃ a C dx fs f fd ps k sp, x = .ref a ∧ H1 a = some (.ins C dx fs) ∧ L2.Cls X.K C ∧ Meth X.K C m f ∧ fs.lookup m = none ∧
      FnOk X.prog X.w X.K X.mg X.base CX k f fd ps sp ∧ Room k X.A ∧ Binds X.K fd ps [] ∧ PassesAt CX X σ (E σ) ∧ t σ H1 fun vs H2 => sp (x :: vs) H2 Q (E σ)) := by
  refine ⟨fun pins s σ H Q I h => ?_⟩
  refine PySem.W.methodCall_KW (thn (he.run pins s σ H _ I h) fun u s1 ⟨x, H1, I1, rx, a, C, dx, fs, f, fd, ps, k, sp, ex, ea, c, hm, l, F, hr, hbd, hx, q⟩ => ?_) (meth_eq hb hs hn hline)
  subst ex
  obtain rfl : u = Value.ref a := rx
  refine getmeth_ok I1 ea c hm l ?_
  refine call_with (first := [.ref a]) I1 hm.kp hs (thn (ha.run pos pins s1 σ H1 _ I1 q) fun us s2 ⟨vs, H2, I2, r, q2⟩ => ⟨I2.kIn, ?_⟩)
  exact run_fnS (us := .ref a :: us) (vs := .ref a :: vs) F hr hbd hx I2 (.cons rfl r) q2
theorem run_makeA {pins : List (Addr × Obj)} {σ : L2.St} {H : Hp} {s : Shared} {Q : VK} {us : List Value} {vs : List V} (M : Mk X.K C f) (F : FnOk X.prog X.w X.K X.mg X.base CX k f fd ps sp) (hr : Room (k + 1) X.A) (hb : Binds X.K fd ps [])
    (hx : PassesAt CX X σ (E σ)) (I : Inv X pins σ H s) (r : Vals vs us)
    (h : ∀ x dx, H x = none → H dx = none → dx ≠ x → sp (.ref x :: vs) (upd (upd H dx (.own x)) x (.ins C dx [])) (fun v H2 => v = .non ∧ Q (.ref x) H2) (E σ)) :
    wpAny (model X.prog X.w) X.A (call (.ref C) us) (EP X pins σ Q) X.xe s := by
  have hq := h (s.heap.objs.size + 1) s.heap.objs.size (I.hok.fresh (Nat.le_succ _)) (I.hok.fresh (Nat.le_refl _)) (Nat.ne_of_lt (Nat.lt_succ_self _))
  have I2 := Inv.made (C := C) I
  have r2 : Vals (V.ref (s.heap.objs.size + 1) :: vs) (Value.ref (s.heap.objs.size + 1) :: us) := .cons rfl r
  have hl : (Value.ref (s.heap.objs.size + 1) :: us).length = ps.length := by
    have e := r2.length
    rw [F.len _ _ _ _ hq] at e
    exact e.symm
  have b := hb _ (Value.ref (s.heap.objs.size + 1) :: us) I2.kIn (by rw [List.append_nil]; exact hl)
  rw [List.append_nil] at b
  refine wpAny_call (make_map (f := f) I.kIn M.makes M.init (beq_iff_eq.mp M.fn) (codeAny_mono (F.run _ X.stack _ _ ⟨Value.ref (s.heap.objs.size + 1) :: us, []⟩ (Value.ref (s.heap.objs.size + 1) :: us) _ _ (E σ) (hr.make C us [])
    (I2.env0.make C us []) b r2 hq) fun r s' hq' => ?_))
  cases r with
  | error e => exact hx pins _ _ e s' I2 hq'
  | ok fl =>
    cases fl with
    | ret u =>
      obtain ⟨v, H', I3, rv, ev, q3⟩ := I2.after hq'
      subst ev
      exact ⟨rv, ⟨V.ref (s.heap.objs.size + 1), H', I3, rfl, q3⟩⟩
    | next => exact False.elim hq'
    | brk => exact False.elim hq'
    | cont => exact False.elim hq'
theorem pe_makeA (M : Mk X.K C f) (F : FnOk X.prog X.w X.K X.mg X.base CX k f fd ps sp) (hr : Room (k + 1) X.A) (hg : Gl X x) (hm : X.mg x = some (.ref C)) (hdb : (x == ("__debug__" : Str)) = false) (hb : Binds X.K fd ps []) (hx : ∀ σ, PassesAt CX X σ (E σ))
    (hs : es.all notStar = true) (ha : PA X es t) :
    PE X (.Call (.Name x p) es [] pos) (fun σ H Q => t σ H fun vs H1 => ∀ x dx, H1 x = none → H1 dx = none → dx ≠ x → sp (.ref x :: vs) (upd (upd H1 dx (.own x)) x (.ins C dx [])) (fun v H2 => v = .non ∧ Q (.ref x) H2) (E σ)) := by
  refine ⟨fun pins s σ H Q I h => ?_⟩
  refine wpAny_Call_Name_kw (ld_glob I hg hm ?_ hdb)
  exact call_with (first := []) I M.kp hs (thn (ha.run pos pins s σ H _ I h) fun us s1 ⟨vs, H1, I1, r, q⟩ => ⟨I1.kIn, run_makeA M F hr hb (hx σ) I1 r q⟩)
end

section
variable {M : Cf} {ini : Nat → Option Nat} {S : Sc}
/-- what a call hands back, frozen if it is new -/
theorem ret_val {W W1 : Wd} {g g1 : Gs} {H H0 H1 : Hp} {r : RV} {v : V} {Q : VK} (rg : RelG M.C W g H0) (e : Ext W H0 g W1 H1 g1) (r1 : RelG M.C W1 g1 H1) (hH : ∀ a, H a = none → H0 a = none) (hv : RetAt M.C W1 g1 H H1 r v)
    (q : ∀ W' , Ext W H0 g W' H1 g1 → RelG M.C W' g1 H1 → ∀ v, Rep M.C W' r.d0 v → Q v H1) : Q v H1 := by
  cases r with
  | v d => exact q W1 e r1 v hv
  | f fr =>
    obtain ⟨a, rfl, ha, hf, hl, hc⟩ := hv
    obtain ⟨u, hu, hr⟩ := fr_rep hc
    obtain ⟨e2, r2⟩ := frozen rg e r1 (hH a ha) hf hl hu
    exact q _ e2 r2 _ (hr hf)
theorem snd_call {es : List Expr} {xs : Es} {f : Nat} {x : Str} {p pos : Pos} (ha : SndEs M ini S es xs) (hx : x = M.nm.fn f) (hg : globB S x = true) (hf : f ∈ M.fns) (hs : es.all notStar = true) (hc : S.cm = true) :
    SndE M ini S (.Call (.Name x p) es [] pos) (.call f xs) := by
  intro X Wx G W g H σ ρ Q r rs o
  subst hx
  have o : M.Ok W g H ((evEs M.Gam M.call xs σ g).bind fun ds g => (M.call f ds g).bind fun r g => .ok r.d0 g) (WE Wx ρ) (fun d _ W' H' => ∀ v, Rep M.C W' d v → Q v H') := o
  obtain ⟨a, hA⟩ := G.fx f hf
  obtain ⟨fd, ps, k, F, hr, hb⟩ := G.gl f a hA hc
  obtain ⟨h1, h2⟩ := globB_of G hg
  obtain ⟨m1, m2⟩ := G.fnm f a hA
  refine mxE_of (pe_callF (CX := L2.CX X.prog X.w) (E := WE Wx) (pe_glob (v := .ref a) h1 (by rw [G.mg]; exact m1) rfl h2) hs pa_mx) ⟨a, fd, ps, k, _, rfl, F, hr, by rw [G.K]; exact m2, hb, passAt G.tk ρ, ?_⟩
  cases qa : evEs M.Gam M.call xs σ g with
  | no => rw [qa] at o; exact o.elim
  | ex => rw [qa] at o; exact ha X Wx G W g H σ ρ _ r rs (by rw [qa]; exact o)
  | ok ds g1 =>
    rw [qa] at o
    have o : M.Ok W g H ((M.call f ds g1).bind fun r g => .ok r.d0 g) (WE Wx ρ) (fun d _ W' H' => ∀ v, Rep M.C W' d v → Q v H') := o
    refine ha X Wx G W g H σ ρ _ r rs ?_
    rw [qa]
    intro W1 H1 e1 r1 vs hvs
    refine ⟨W1, g1, ds, r1, hvs, ?_⟩
    cases qc : M.call f ds g1 with
    | no => rw [qc] at o; exact o.elim
    | ex cc dd g' => rw [qc] at o; exact Ok.shift (o := .ex cc dd g') e1 r o
    | ok rv g2 =>
      rw [qc] at o
      intro W2 H2 e2 r2 v hv
      refine ret_val (H := H1) (H0 := H) r (e1.trans r e2) r2 (fun a h => fresh_of e1 h) hv fun W' e' r' w hw => o W' H2 e' r' w hw
theorem snd_calv {es : List Expr} {xs : Es} {i : Nat} {x : Str} {p pos : Pos} (ha : SndEs M ini S es xs) (hv : visB S i x = true) (hs : es.all notStar = true) (hc : S.cm = true) :
    SndE M ini S (.Call (.Name x p) es [] pos) (.calv i xs) := by
  intro X Wx G W g H σ ρ Q r rs o
  have o : M.Ok W g H (match getV σ i with
    | some (.fn f) => (evEs M.Gam M.call xs σ g).bind fun ds g => (M.call f ds g).bind fun r g => .ok r.d0 g
    | _ => .no) (WE Wx ρ) (fun d _ W' H' => ∀ v, Rep M.C W' d v → Q v H') := o
  obtain ⟨h1, h2, h3, h4⟩ := visB_of G hv
  cases qi : getV σ i with
  | none => rw [qi] at o; exact o.elim
  | some d =>
    rw [qi] at o
    cases d with
    | fn f =>
      obtain ⟨v0, e1, e2⟩ := rs.at_ i _ (getV_some qi)
      have e2 : Rep M.C W (.fn f) v0 := e2
      rw [Rep.eq_10] at e2
      obtain ⟨a, hA, rfl⟩ := e2
      obtain ⟨fd, ps, k, F, hr, hb⟩ := G.gl f a hA hc
      obtain ⟨m1, m2⟩ := G.fnm f a hA
      refine mxE_of (pe_callF (CX := L2.CX X.prog X.w) (E := WE Wx) (pe_var h1 h2 h3 h4) hs pa_mx) ⟨.ref a, e1, a, fd, ps, k, _, rfl, F, hr, by rw [G.K]; exact m2, hb, passAt G.tk ρ, ?_⟩
      have o : M.Ok W g H ((evEs M.Gam M.call xs σ g).bind fun ds g => (M.call f ds g).bind fun r g => .ok r.d0 g) (WE Wx ρ) (fun d _ W' H' => ∀ v, Rep M.C W' d v → Q v H') := o
      cases qa : evEs M.Gam M.call xs σ g with
      | no => rw [qa] at o; exact o.elim
      | ex => rw [qa] at o; exact ha X Wx G W g H σ ρ _ r rs (by rw [qa]; exact o)
      | ok ds g1 =>
        rw [qa] at o
        have o : M.Ok W g H ((M.call f ds g1).bind fun r g => .ok r.d0 g) (WE Wx ρ) (fun d _ W' H' => ∀ v, Rep M.C W' d v → Q v H') := o
        refine ha X Wx G W g H σ ρ _ r rs ?_
        rw [qa]
        intro W1 H1 e1 r1 vs hvs
        refine ⟨W1, g1, ds, r1, hvs, ?_⟩
        cases qc : M.call f ds g1 with
        | no => rw [qc] at o; exact o.elim
        | ex cc dd g' => rw [qc] at o; exact Ok.shift (o := .ex cc dd g') e1 r o
        | ok rv g2 =>
          rw [qc] at o
          intro W2 H2 e2 r2 v hv
          refine ret_val (H := H1) (H0 := H) r (e1.trans r e2) r2 (fun a h => fresh_of e1 h) hv fun W' e' r' w hw => o W' H2 e' r' w hw
    | _ => exact o.elim
theorem snd_meth {a : Expr} {es : List Expr} {x : E} {xs : Es} {m : Nat} {n : Str} {apos pos : Pos} (hx : SndE M ini S a x) (ha : SndEs M ini S es xs) (hn : n = M.nm.mth m) (hm : m ∈ M.mths) (hb : plainBase a = true) (hs : es.all notStar = true) (hl : es.length < 30)
    (hline : (apos.endLine == pos.line) = true) (hc : S.cm = true) : SndE M ini S (.Call (.Attribute a n apos) es [] pos) (.meth x m xs) := by
  intro X Wx G W g H σ ρ Q r rs o
  subst hn
  have o : M.Ok W g H ((evE M.Gam M.call x σ g).bind fun x g => match (clsD g x).bind fun c => M.Gam.meth c m with
    | some f => (evEs M.Gam M.call xs σ g).bind fun ds g => (M.call f (x :: ds) g).bind fun r g => .ok r.d0 g
    | none => .no) (WE Wx ρ) (fun d _ W' H' => ∀ v, Rep M.C W' d v → Q v H') := o
  refine mxE_of (pe_methA (CX := L2.CX X.prog X.w) (E := WE Wx) pe_mx (base_of hb) hs hl hline pa_mx) ?_
  cases qa : evE M.Gam M.call x σ g with
  | no => rw [qa] at o; exact o.elim
  | ex => rw [qa] at o; exact hx X Wx G W g H σ ρ _ r rs (by rw [qa]; exact o)
  | ok u g1 =>
    rw [qa] at o
    have o : M.Ok W g H (match (clsD g1 u).bind fun c => M.Gam.meth c m with
      | some f => (evEs M.Gam M.call xs σ g1).bind fun ds g => (M.call f (u :: ds) g).bind fun r g => .ok r.d0 g
      | none => .no) (WE Wx ρ) (fun d _ W' H' => ∀ v, Rep M.C W' d v → Q v H') := o
    cases qm : (clsD g1 u).bind fun c => M.Gam.meth c m with
    | none => rw [qm] at o; exact o.elim
    | some f =>
      rw [qm] at o
      obtain ⟨c, qc, qf⟩ := bind_some qm
      have o : M.Ok W g H ((evEs M.Gam M.call xs σ g1).bind fun ds g => (M.call f (u :: ds) g).bind fun r g => .ok r.d0 g) (WE Wx ρ) (fun d _ W' H' => ∀ v, Rep M.C W' d v → Q v H') := o
      refine hx X Wx G W g H σ ρ _ r rs ?_
      rw [qa]
      intro W1 H1 e1 r1 v hv
      have ins : ∃ (a A dx : Addr) (fs : List Nat) (vs : List V), v = .ref a ∧ M.C.cA c = some A ∧ H1 a = some (.ins A dx ((fs.map M.C.fld).zip vs)) := by
        cases u with
        | ins c' i fs ds =>
          cases qc
          obtain ⟨a, A, dx, ws, rfl, k1, k2, _⟩ := rep_ins hv
          refine ⟨a, A, dx, fs, ws, rfl, k1, ?_⟩
          rcases r1.le _ _ k2 with h | ⟨z, _⟩
          · exact h
          · exact z.elim
        | glo n =>
          simp only [clsD] at qc
          cases z : g1.cell n with
          | none => rw [z] at qc; cases qc
          | some cc =>
            rw [z] at qc
            cases cc with
            | lst => cases qc
            | dct => cases qc
            | ins c' fs ds =>
              cases qc
              obtain ⟨a, rfl, _, _, A, dx, ws, k1, k2, _⟩ := glo_cell r1 (.inl hv) z
              exact ⟨a, A, dx, fs, ws, rfl, k1, k2⟩
        | _ => cases qc
      obtain ⟨a', A, dx, fs, vs, rfl, hA, hi⟩ := ins
      obtain ⟨fa, k1, k2, fd, ps, k, F, hr, hbd⟩ := G.me c m f A qf hA hc
      refine ⟨a', A, dx, _, fa, fd, ps, k, _, rfl, hi, by rw [G.K]; exact k1, by rw [G.K]; exact k2, ?_, F, hr, hbd, passAt G.tk ρ, ?_⟩
      · have nl : ∀ (fs : List Nat) (vs : List V), ((fs.map M.C.fld).zip vs).lookup (M.nm.mth m) = none := fun fs => by
          induction fs with
          | nil => intro vs; rfl
          | cons f0 fs ih =>
            intro vs
            cases vs with
            | nil => rfl
            | cons v0 vs =>
              rw [List.map_cons, List.zip_cons_cons, List.lookup_cons]
              have : (M.nm.mth m == M.C.fld f0) = false := beq_eq_false_iff_ne.mpr fun z => G.mf m hm f0 z.symm
              rw [this]
              exact ih vs
        exact nl fs vs
      cases qb : evEs M.Gam M.call xs σ g1 with
      | no => rw [qb] at o; exact o.elim
      | ex cc ds g' =>
        rw [qb] at o
        refine ha X Wx G W1 g1 H1 σ ρ _ r1 (rs.ext r e1) ?_
        rw [qb]
        exact Ok.shift (o := .ex cc ds g') e1 r o
      | ok ds g2 =>
        rw [qb] at o
        have o : M.Ok W g H ((M.call f (u :: ds) g2).bind fun r g => .ok r.d0 g) (WE Wx ρ) (fun d _ W' H' => ∀ v, Rep M.C W' d v → Q v H') := o
        refine ha X Wx G W1 g1 H1 σ ρ _ r1 (rs.ext r e1) ?_
        rw [qb]
        intro W2 H2 e2 r2 vs2 hvs
        refine ⟨W2, g2, u :: ds, r2, .cons (Rep.le e2.le _ _ hv) hvs, ?_⟩
        have e3 := e1.trans r e2
        cases qd : M.call f (u :: ds) g2 with
        | no => rw [qd] at o; exact o.elim
        | ex cc dd g' => rw [qd] at o; exact Ok.shift (o := .ex cc dd g') e3 r o
        | ok rv g3 =>
          rw [qd] at o
          intro W3 H3 e4 r3 w hw
          refine ret_val (H := H2) (H0 := H) r (e3.trans r e4) r3 (fun a h => fresh_of e3 h) hw fun W' e' r' w hw => o W' H3 e' r' w hw
theorem snd_new {es : List Expr} {xs : Es} {c : Nat} {x : Str} {p pos : Pos} (ha : SndEs M ini S es xs) (hx : x = M.nm.cls c) (hg : globB S x = true) (hcl : c ∈ M.clss) (hs : es.all notStar = true) (hc : S.cm = true) (hk : (match M.Gam.cls c with
    | some k => decide (k.kind ≠ .exc) && k.init.isSome
    | none => false) = true) :
    SndE M ini S (.Call (.Name x p) es [] pos) (.new c xs) := by
  intro X Wx G W g H σ ρ Q r rs o
  subst hx
  have o : M.Ok W g H ((evEs M.Gam M.call xs σ g).bind fun ds g => newD M.Gam M.call c ds g) (WE Wx ρ) (fun d _ W' H' => ∀ v, Rep M.C W' d v → Q v H') := o
  obtain ⟨A, hA⟩ := G.cx c hcl
  obtain ⟨h1, h2⟩ := globB_of G hg
  have m1 : X.mg (M.nm.cls c) = some (.ref A) := by rw [G.mg]; exact G.clm c A hA
  cases qk : M.Gam.cls c with
  | none => rw [qk] at hk; cases hk
  | some k =>
    rw [qk] at hk
    simp only [Bool.and_eq_true, decide_eq_true_eq] at hk
    obtain ⟨f, hf⟩ := Option.isSome_iff_exists.mp hk.2
    obtain ⟨fa, mk, n1, n2⟩ := G.nw c k f A qk hf hA hc
    have mk : Mk X.K A fa := by rw [G.K]; exact mk
    cases kk : k.kind with
    | exc => exact absurd kk hk.1
    | froz =>
      obtain ⟨fd, ps, j, F, hr, hb⟩ := n1 kk
      have nd : ∀ ds g, newD M.Gam M.call c ds g = (M.call f ds g).bind fun r g' => match r with
          | .v d => .ok d g'
          | .f _ => .no := fun ds g => by
        unfold newD
        simp only [qk, kk, hf]
        all_goals rfl
      refine mxE_of (pe_makeA (CX := L2.CX X.prog X.w) (E := WE Wx) mk F hr h1 m1 h2 hb (passAt G.tk) hs pa_mx) ?_
      cases qa : evEs M.Gam M.call xs σ g with
      | no => rw [qa] at o; exact o.elim
      | ex => rw [qa] at o; exact ha X Wx G W g H σ ρ _ r rs (by rw [qa]; exact o)
      | ok ds g1 =>
        rw [qa] at o
        have o : M.Ok W g H (newD M.Gam M.call c ds g1) (WE Wx ρ) (fun d _ W' H' => ∀ v, Rep M.C W' d v → Q v H') := o
        rw [nd] at o
        refine ha X Wx G W g H σ ρ _ r rs ?_
        rw [qa]
        intro W1 H1 e1 r1 vs hvs x dx hx hdx hne
        refine ⟨W1, g1, ds, x, dx, A, H1, vs, rfl, hA, r1, hvs, hx, hdx, hne, rfl, ?_⟩
        cases qc : M.call f ds g1 with
        | no => rw [qc] at o; exact o.elim
        | ex cc dd g' => rw [qc] at o; exact Ok.shift (o := .ex cc dd g') e1 r o
        | ok rv g2 =>
          rw [qc] at o
          intro W2 H2 e2 r2 d hd hv
          subst hd
          exact ⟨rfl, o W2 H2 (e1.trans r e2) r2 _ hv⟩
    | «mut» =>
      obtain ⟨fd, ps, j, F, hr, hb⟩ := n2 kk
      have nd : ∀ ds g, newD M.Gam M.call c ds g = (M.call f (.glo g.next :: ds) (g.new (.ins c [] []))).bind fun r g' => match r with
          | .v .non => .ok (.glo g.next) g'
          | _ => .no := fun ds g => by
        unfold newD
        simp only [qk, kk, hf]
        all_goals rfl
      refine mxE_of (pe_makeA (CX := L2.CX X.prog X.w) (E := WE Wx) mk F hr h1 m1 h2 hb (passAt G.tk) hs pa_mx) ?_
      cases qa : evEs M.Gam M.call xs σ g with
      | no => rw [qa] at o; exact o.elim
      | ex => rw [qa] at o; exact ha X Wx G W g H σ ρ _ r rs (by rw [qa]; exact o)
      | ok ds g1 =>
        rw [qa] at o
        have o : M.Ok W g H (newD M.Gam M.call c ds g1) (WE Wx ρ) (fun d _ W' H' => ∀ v, Rep M.C W' d v → Q v H') := o
        rw [nd] at o
        refine ha X Wx G W g H σ ρ _ r rs ?_
        rw [qa]
        intro W1 H1 e1 r1 vs hvs x dx hx hdx hne
        have hx2 : upd H1 dx (.own x) x = none := by rw [upd_ne (Ne.symm hne)]; exact hx
        have ea := Ext.own (o := .own x) r1 hdx
        have ra := r1.own (o := .own x) hdx
        have eb := Ext.own (o := .ins A dx []) ra hx2
        have rb := ra.own (o := .ins A dx []) hx2
        have e2 := ea.trans r1 eb
        obtain ⟨e3, r3⟩ := stored (c := .ins c [] []) r1 e2 rb hx (r1.nf hx) (fun z => r1.notlive hx z) ⟨A, dx, [], hA, upd_same, rfl, .nil⟩
        refine ⟨_, _, _, r3, .cons (by rw [Rep.eq_9]; exact ⟨x, if_pos rfl, rfl⟩) (RepL.le e3.le _ _ hvs), ?_⟩
        have e4 := e1.trans r e3
        cases qc : M.call f (.glo g1.next :: ds) (g1.new (.ins c [] [])) with
        | no => rw [qc] at o; exact o.elim
        | ex cc dd g' => rw [qc] at o; exact Ok.shift (o := .ex cc dd g') e4 r o
        | ok rv g2 =>
          rw [qc] at o
          intro W2 H2 e5 r5 v hv
          cases rv with
          | f fr => exact o.elim
          | v d =>
            cases d with
            | non =>
              have o : M.Ok W g H (.ok (.glo g1.next) g2) (WE Wx ρ) (fun d _ W' H' => ∀ v, Rep M.C W' d v → Q v H') := o
              exact ⟨hv, o W2 H2 (e4.trans r e5) r5 _ (by rw [Rep.eq_9]; exact ⟨x, e5.le.phi _ _ (if_pos rfl), rfl⟩)⟩
            | _ => exact o.elim
end
end VM

namespace VM
open PySem L2 SeqAt PyProof.Rows
section
variable {M : Cf} {ini : Nat → Option Nat} {S : Sc}

/-! ### targets -/
def locB (S : Sc) (i : Nat) (x : Str) : Bool := S.N[i]? == some x && (match S.sc.names.lookup x with
  | some .local => true
  | some .cell => S.df
  | _ => false)
theorem locB_of {i : Nat} {x : Str} {X : Cx} {Wx : WX} (G : Good M ini S X Wx) (h : locB S i x = true) : X.N[i]? = some x ∧ L2.Loc X.env.scope x ∧ (X.fn x = true ∨ X.env.scope.names.lookup x = some .local) := by
  unfold locB at h
  rw [Bool.and_eq_true] at h
  obtain ⟨h1, h2⟩ := h
  refine ⟨by rw [G.N]; exact beq_iff_eq.mp h1, ?_, ?_⟩
  · unfold L2.Loc
    rw [G.sc]
    split at h2
    · exact .inl (by assumption)
    · exact .inr (by assumption)
    · cases h2
  · rw [G.sc]
    split at h2
    · exact .inr (by assumption)
    · exact .inl (G.fn h2 x)
    · cases h2
/-- a slot gets a value -/
theorem RelS.put {C : Ct} {W : Wd} {g : Gs} {H : Hp} {σ : Sg} {ρ : L2.St} {i : Nat} {d : D} {v : V} (h : RelS C W g H σ ρ) (hv : Rep C W d v) : RelS C W g H (σ.set i (some (.val d))) (ρ.set i (some v)) where
  len := by rw [List.length_set, List.length_set]; exact h.len
  at_ := fun j s hs => by
    by_cases q : i = j
    · subst q
      by_cases hl : i < σ.length
      · rw [List.getElem?_set_self hl] at hs
        cases hs
        exact ⟨v, List.getElem?_set_self (by rw [← h.len]; exact hl), hv⟩
      · rw [List.getElem?_eq_none (by rw [List.length_set]; omega)] at hs
        cases hs
    · rw [List.getElem?_set_ne q] at hs ⊢
      exact h.at_ j s hs
  apart := fun j s a hs ho hr => by
    have key : ∀ k (t : SV), (σ.set i (some (.val d)))[k]? = some (some t) → t.own = true → σ[k]? = some (some t) ∧ (ρ.set i (some v))[k]? = ρ[k]? := fun k t hk hto => by
      by_cases q : i = k
      · subst q
        by_cases hl : i < σ.length
        · rw [List.getElem?_set_self hl] at hk
          cases hk
          cases hto
        · rw [List.getElem?_eq_none (by rw [List.length_set]; omega)] at hk
          cases hk
      · rw [List.getElem?_set_ne q] at hk
        exact ⟨hk, List.getElem?_set_ne q⟩
    obtain ⟨k1, k2⟩ := key j s hs ho
    rw [k2] at hr
    obtain ⟨n, u⟩ := h.apart j s a k1 ho hr
    refine ⟨n, fun k t hk hto hkr => ?_⟩
    obtain ⟨k3, k4⟩ := key k t hk hto
    rw [k4] at hkr
    exact u k t k3 hto hkr
theorem fullV_some {σ σ' : Sg} {i : Nat} {d : D} (h : fullV σ i d = some σ') : σ' = σ.set i (some (.val d)) := by
  unfold fullV at h
  split at h <;> first
    | (cases h; rfl)
    | cases h
def SndG (M : Cf) (ini : Nat → Option Nat) (S : Sc) (e : Expr) (t : Tg) : Prop := ∀ X Wx, Good M ini S X Wx → ∀ W g H σ σ' ρ d v (Q : L2.St → Hp → Prop), RelG M.C W g H → RelS M.C W g H σ ρ → Rep M.C W d v → bindT g σ d t = some σ' →
  (∀ ρ', RelS M.C W g H σ' ρ' → (∀ i, i ∉ t.own → ρ'[i]? = ρ[i]?) → Q ρ' H) → mxG X e v ρ H Q
def SndGs (M : Cf) (ini : Nat → Option Nat) (S : Sc) (es : List Expr) (ts : Tgs) : Prop := ∀ X Wx, Good M ini S X Wx → ∀ W g H σ σ' ρ ds vs (Q : L2.St → Hp → Prop), RelG M.C W g H → RelS M.C W g H σ ρ → RepL M.C W ds vs → bindTs g σ ds ts = some σ' →
  (∀ ρ', RelS M.C W g H σ' ρ' → (∀ i, i ∉ ts.own → ρ'[i]? = ρ[i]?) → Q ρ' H) → mxGs X es vs ρ H Q
theorem snd_gn {i : Nat} {x : Str} {pos : Pos} (h : locB S i x = true) : SndG M ini S (.Name x pos) (.n i) := by
  intro X Wx G W g H σ σ' ρ d v Q r rs hv hb q
  obtain ⟨h1, h2, h3⟩ := locB_of G h
  have hb : fullV σ i d = some σ' := hb
  refine mxG_of (pg_name (by rw [G.N]; exact G.nd) h1 h2 h3) ?_
  show Q (ρ.set i (some v)) H
  refine q _ ?_ fun j hj => List.getElem?_set_ne fun z => hj (by rw [z]; exact List.mem_singleton.mpr rfl)
  rw [fullV_some hb]
  exact rs.put hv
theorem snd_gsnil : SndGs M ini S [] .nil := by
  intro X Wx G W g H σ σ' ρ ds vs Q r rs hv hb q
  cases ds with
  | cons => cases hb
  | nil =>
    have hb : some σ = some σ' := hb
    cases hb
    exact mxGs_of pgs_nil ⟨hv.nil_eq, q ρ rs fun _ _ => rfl⟩
def plainTg : Expr → Bool
  | .Name .. => true
  | .Tuple .. => true
  | _ => false
theorem assign_cons {e : Expr} {es : List Expr} {env : Env} (h : plainTg e = true) : assignEach (e :: es) env = (false, assign e env) :: assignEach es env := by
  cases e <;> first
    | rfl
    | cases h
theorem snd_gscons {e : Expr} {es : List Expr} {t : Tg} {ts : Tgs} (h : SndG M ini S e t) (hs : SndGs M ini S es ts) (hp : plainTg e = true) : SndGs M ini S (e :: es) (.cons t ts) := by
  intro X Wx G W g H σ σ' ρ ds vs Q r rs hv hb q
  cases ds with
  | nil => cases hb
  | cons d ds =>
    obtain ⟨v, vr, rfl, hv1, hv2⟩ := hv.uncons
    have hb : (match bindT g σ d t with
      | some σ' => bindTs g σ' ds ts
      | none => none) = some σ' := hb
    cases q1 : bindT g σ d t with
    | none => rw [q1] at hb; cases hb
    | some σ1 =>
      rw [q1] at hb
      refine mxGs_of (pgs_cons pg_mx pgs_mx (by rw [assign_cons hp]; rfl)) ⟨v, vr, rfl, h X Wx G W g H σ σ1 ρ d v _ r rs hv1 q1 fun ρ1 rs1 k1 => ?_⟩
      refine hs X Wx G W g H σ1 σ' ρ1 ds vr Q r rs1 hv2 hb fun ρ' rs' k' => q ρ' rs' fun i hi => ?_
      have hi : i ∉ t.own ++ ts.own := hi
      rw [List.mem_append, not_or] at hi
      rw [k' i hi.2, k1 i hi.1]
theorem assign_len {env : Env} : ∀ {es : List Expr}, es.all plainTg = true → (assignEach es env).length = es.length ∧ (assignEach es env).findIdx? (·.1) = none
  | [], _ => ⟨rfl, rfl⟩
  | e :: es, h => by
    rw [List.all_cons, Bool.and_eq_true] at h
    rw [assign_cons h.1]
    obtain ⟨h1, h2⟩ := assign_len (env := env) h.2
    refine ⟨by rw [List.length_cons, List.length_cons, h1], ?_⟩
    rw [List.findIdx?_cons, h2]
    rfl
def Tgs.len : Tgs → Nat
  | .nil => 0
  | .cons _ ts => ts.len + 1
theorem bindTs_len {g : Gs} : ∀ {ts : Tgs} {σ σ' : Sg} {ds : List D}, bindTs g σ ds ts = some σ' → ds.length = ts.len
  | .nil, _, _, [], _ => rfl
  | .nil, _, _, _ :: _, h => by cases h
  | .cons t ts, _, _, [], h => by cases h
  | .cons t ts, σ, σ', d :: ds, h => by
    have hb : (match bindT g σ d t with
      | some σ' => bindTs g σ' ds ts
      | none => none) = some σ' := h
    cases q1 : bindT g σ d t with
    | none => rw [q1] at hb; cases hb
    | some σ1 =>
      rw [q1] at hb
      show ds.length + 1 = ts.len + 1
      rw [bindTs_len hb]
theorem snd_gt {es : List Expr} {ts : Tgs} {k : Nat} {pos : Pos} (h : SndGs M ini S es ts) (hp : es.all plainTg = true) (hl : es.length = ts.len) (hc : S.cm = true) : SndG M ini S (.Tuple es k pos) (.t ts) := by
  intro X Wx G W g H σ σ' ρ d v Q r rs hv hb q
  cases d with
  | tup xs =>
    obtain ⟨a, vs, rfl, h1, h2⟩ := rep_tup hv
    have hb : bindTs g σ xs ts = some σ' := hb
    obtain ⟨l1, l2⟩ := assign_len (env := X.env) hp
    refine mxG_of (pg_tup (G.calm hc) pgs_mx l1 l2) ⟨a, vs, rfl, by rw [G.K]; exact r.sqT h1, ?_, ?_⟩
    · rw [h2.length, bindTs_len hb, hl]
    · exact h X Wx G W g H σ σ' ρ xs vs Q r rs h2 hb q
  | _ => cases hb

/-! ### slots wiped -/
theorem wipeS_out {σ : Sg} {i : Nat} : ∀ {vs : List Nat}, i ∉ vs → (wipeS σ vs)[i]? = σ[i]?
  | [], _ => rfl
  | v :: vs, h => by
    rw [List.mem_cons, not_or] at h
    show ((wipeS σ vs).set v none)[i]? = σ[i]?
    rw [List.getElem?_set_ne (Ne.symm h.1), wipeS_out h.2]
theorem wipeS_len {σ : Sg} : ∀ {vs : List Nat}, (wipeS σ vs).length = σ.length
  | [] => rfl
  | v :: vs => by
    show ((wipeS σ vs).set v none).length = σ.length
    rw [List.length_set, wipeS_len]
theorem wipeS_some {σ : Sg} {i : Nat} {x : SV} : ∀ {vs : List Nat}, (wipeS σ vs)[i]? = some (some x) → σ[i]? = some (some x) ∧ i ∉ vs
  | [], h => ⟨h, by simp⟩
  | v :: vs, h => by
    have h : ((wipeS σ vs).set v none)[i]? = some (some x) := h
    by_cases hi : v = i
    · subst hi
      by_cases hv : v < (wipeS σ vs).length
      · rw [List.getElem?_set_self hv] at h; cases h
      · rw [List.getElem?_eq_none (by simpa using hv)] at h; cases h
    · rw [List.getElem?_set_ne hi] at h
      obtain ⟨h1, h2⟩ := wipeS_some h
      exact ⟨h1, by simp only [List.mem_cons, not_or]; exact ⟨fun e => hi e.symm, h2⟩⟩
/-- whatever stands in slots that the program doesn't know -/
theorem RelS.less {C : Ct} {W : Wd} {g : Gs} {H : Hp} {σ : Sg} {ρ ρ' : L2.St} {vs : List Nat} (h : RelS C W g H σ ρ) (hl : ρ'.length = ρ.length) (k : ∀ i, i ∉ vs → ρ'[i]? = ρ[i]?) : RelS C W g H (wipeS σ vs) ρ' where
  len := by rw [wipeS_len, hl]; exact h.len
  at_ := fun i s hs => by
    obtain ⟨h1, h2⟩ := wipeS_some hs
    rw [k i h2]
    exact h.at_ i s h1
  apart := fun i s a hs ho hr => by
    obtain ⟨h1, h2⟩ := wipeS_some hs
    rw [k i h2] at hr
    obtain ⟨n, u⟩ := h.apart i s a h1 ho hr
    refine ⟨n, fun j t ht hto hjr => ?_⟩
    obtain ⟨h3, h4⟩ := wipeS_some ht
    rw [k j h4] at hjr
    exact u j t h3 hto hjr
theorem wipe_eq {ρ ρ' : L2.St} {vs : List Nat} (hl : ρ'.length = ρ.length) (k : ∀ i, i ∉ vs → ρ'[i]? = ρ[i]?) : wipe ρ' vs = wipe ρ vs := by
  refine List.ext_getElem? fun i => ?_
  by_cases hi : i ∈ vs
  · have in_ : ∀ (ρ : L2.St), i < ρ.length → ∀ {vs : List Nat}, i ∈ vs → (wipe ρ vs)[i]? = some none := fun ρ hρ vs => by
      induction vs with
      | nil => intro h; cases h
      | cons v vs ih =>
        intro h
        show ((wipe ρ vs).set v none)[i]? = some none
        by_cases q : v = i
        · subst q
          exact List.getElem?_set_self (by rw [wipe_length]; exact hρ)
        · rw [List.getElem?_set_ne q]
          exact ih ((List.mem_cons.mp h).resolve_left fun z => q z.symm)
    by_cases hr : i < ρ.length
    · rw [in_ ρ hr hi, in_ ρ' (by rw [hl]; exact hr) hi]
    · rw [List.getElem?_eq_none (by rw [wipe_length]; omega), List.getElem?_eq_none (by rw [wipe_length]; omega)]
  · rw [wipe_out hi, wipe_out hi]
    exact k i hi
end
end VM

namespace VM
open PySem L2 SeqAt PyProof.Rows
section
variable {M : Cf} {ini : Nat → Option Nat} {S : Sc}
mutual
theorem bindT_len {g : Gs} : ∀ {t : Tg} {σ σ' : Sg} {d : D}, bindT g σ d t = some σ' → σ'.length = σ.length
  | .n i, σ, σ', d, h => by
    have h : fullV σ i d = some σ' := h
    rw [fullV_some h, List.length_set]
  | .t ts, σ, σ', d, h => by
    have h : (match seqT d with
      | some xs => bindTs g σ xs ts
      | none => none) = some σ' := h
    cases q : seqT d with
    | none => rw [q] at h; cases h
    | some xs => rw [q] at h; exact bindTs_len' h
theorem bindTs_len' {g : Gs} : ∀ {ts : Tgs} {σ σ' : Sg} {ds : List D}, bindTs g σ ds ts = some σ' → σ'.length = σ.length
  | .nil, σ, σ', [], h => by
    have h : some σ = some σ' := h
    cases h
    rfl
  | .nil, _, _, _ :: _, h => by cases h
  | .cons t ts, _, _, [], h => by cases h
  | .cons t ts, σ, σ', d :: ds, h => by
    have hb : (match bindT g σ d t with
      | some σ' => bindTs g σ' ds ts
      | none => none) = some σ' := h
    cases q1 : bindT g σ d t with
    | none => rw [q1] at hb; cases hb
    | some σ1 =>
      rw [q1] at hb
      rw [bindTs_len' hb, bindT_len q1]
end

/-! ### what is walked -/
/-- J walks the source s; ext: only where all that was there stays as it was -/
def ItS (C : Ct) (ext : Bool) (W : Wd) (g : Gs) (H : Hp) (J : L2.It) (s : Src) : Prop := ∀ W' g' H', W.Le W' → (ext = true → Ext W H g W' H' g') → RelG C W' g' H' → ∀ i, match s.at i g' with
  | some (some d) => J.go i H' ∧ ∀ x H2, J.yld i H' x H2 → ∃ W2, Ext W' H' g' W2 H2 g' ∧ RelG C W2 g' H2 ∧ Rep C W2 d x
  | some none => J.stop i H'
  | none => True
def SndI (M : Cf) (ini : Nat → Option Nat) (S : Sc) (ext : Bool) (tg : Expr) (e : Expr) (x : Iv) : Prop := ∀ X Wx, Good M ini S X Wx → ∀ W g H σ ρ (R : L2.It → Hp → Prop), RelG M.C W g H → RelS M.C W g H σ ρ →
  M.Ok W g H (evIt M.Gam M.call x σ g) (WE Wx ρ) (fun s g' W' H' => ∀ J, ItS M.C ext W' g' H' J s → R J H') → mxI X tg e ρ H R
theorem itl_at {C : Ct} {W : Wd} {g : Gs} {H : Hp} {a : Addr} {xs : List D} {vs : List V} (r : RelG C W g H) (hs : SqL C.K H a vs) (h : RepL C W xs vs) (i : Nat) : match xs[i]? with
    | some d => (Itl C.K a).go i H ∧ ∀ x H2, (Itl C.K a).yld i H x H2 → ∃ W2, Ext W H g W2 H2 g ∧ RelG C W2 g H2 ∧ Rep C W2 d x
    | none => (Itl C.K a).stop i H := by
  cases q : xs[i]? with
  | none =>
    refine ⟨vs, hs, ?_⟩
    rw [h.length]
    exact List.getElem?_eq_none_iff.mp q
  | some d =>
    obtain ⟨v, e, rv⟩ := h.get q
    refine ⟨⟨vs, v, hs, e⟩, fun x H2 ⟨eH, k⟩ => ?_⟩
    subst eH
    have := k vs hs
    rw [e] at this
    cases this
    exact ⟨W, .refl, r, rv⟩
theorem itt_at {C : Ct} {W : Wd} {g : Gs} {H : Hp} {a : Addr} {xs : List D} {vs : List V} (r : RelG C W g H) (hs : SqT C.K H a vs) (h : RepL C W xs vs) (i : Nat) : match xs[i]? with
    | some d => (Itt C.K a).go i H ∧ ∀ x H2, (Itt C.K a).yld i H x H2 → ∃ W2, Ext W H g W2 H2 g ∧ RelG C W2 g H2 ∧ Rep C W2 d x
    | none => (Itt C.K a).stop i H := by
  cases q : xs[i]? with
  | none =>
    refine ⟨vs, hs, ?_⟩
    rw [h.length]
    exact List.getElem?_eq_none_iff.mp q
  | some d =>
    obtain ⟨v, e, rv⟩ := h.get q
    refine ⟨⟨vs, v, hs, e⟩, fun x H2 ⟨eH, k⟩ => ?_⟩
    subst eH
    have := k vs hs
    rw [e] at this
    cases this
    exact ⟨W, .refl, r, rv⟩
/-- an int -/
theorem itr_at {C : Ct} {W : Wd} {g : Gs} {H : Hp} {lo hi : Int} (r : RelG C W g H) (i : Nat) : match (rngL lo hi)[i]? with
    | some d => (Itr lo (hi - lo).toNat).go i H ∧ ∀ x H2, (Itr lo (hi - lo).toNat).yld i H x H2 → ∃ W2, Ext W H g W2 H2 g ∧ RelG C W2 g H2 ∧ Rep C W2 d x
    | none => (Itr lo (hi - lo).toNat).stop i H := by
  cases q : (rngL lo hi)[i]? with
  | none =>
    show (hi - lo).toNat ≤ i
    have := List.getElem?_eq_none_iff.mp q
    unfold rngL at this
    rw [List.length_map, List.length_range] at this
    exact this
  | some d =>
    obtain ⟨hl, e⟩ := List.getElem?_eq_some_iff.mp q
    unfold rngL at hl e
    rw [List.length_map, List.length_range] at hl
    refine ⟨hl, fun x H2 ⟨eH, ex⟩ => ?_⟩
    subst eH ex
    rw [List.getElem_map, List.getElem_range] at e
    subst e
    exact ⟨W, .refl, r, rfl⟩
theorem its_at {C : Ct} {W : Wd} {g : Gs} {H : Hp} {x : Str} (r : RelG C W g H) (i : Nat) : match (x.cps.toList.map ch)[i]? with
    | some d => (Its x).go i H ∧ ∀ v H2, (Its x).yld i H v H2 → ∃ W2, Ext W H g W2 H2 g ∧ RelG C W2 g H2 ∧ Rep C W2 d v
    | none => (Its x).stop i H := by
  cases q : (x.cps.toList.map ch)[i]? with
  | none =>
    show x.cps.size ≤ i
    have := List.getElem?_eq_none_iff.mp q
    rw [List.length_map, Array.length_toList] at this
    exact this
  | some d =>
    rw [List.getElem?_map, Option.map_eq_some_iff] at q
    obtain ⟨c, hc, rfl⟩ := q
    rw [Array.getElem?_toList] at hc
    obtain ⟨hl, _⟩ := Array.getElem?_eq_some_iff.mp hc
    refine ⟨hl, fun v H2 ⟨eH, c', hc', ev⟩ => ?_⟩
    subst eH ev
    rw [hc] at hc'
    cases hc'
    exact ⟨W, .refl, r, rfl⟩

/-! ### the kinds of sources -/
theorem snd_rng {ext : Bool} {tg a : Expr} {x : E} {p pos : Pos} (ha : SndE M ini S a x) (hg : globB S "range" = true) (hs : notStar a = true) : SndI M ini S ext tg (.Call (.Name "range" p) [a] [] pos) (.rng x) := by
  intro X Wx G W g H σ ρ R r rs o
  have hst : starEach [a] X.env = [(false, eval a X.env)] := star_cons hs
  refine mxI_of (pi_range1 (globB_of G hg).1 (bt_of G (by decide)) (pa_cons pe_mx pa_nil (star_cons hs)) hst) (ha X Wx G W g H σ ρ _ r rs ((Ok.bind r o).imp fun d g1 W1 H1 _ e1 r1 o v hv => ?_))
  cases d with
  | int n =>
    have o : M.Ok W1 g1 H1 (if n ≤ 1000000 ∧ -1000000 ≤ n then .ok (.fix (rngL 0 n)) g1 else .no) (WE Wx ρ) (fun s g' W' H' => ∀ J, ItS M.C ext W' g' H' J s → R J H') := o
    split at o
    · rename_i hn
      refine ⟨n, by rw [rep_int hv], by omega, by omega, Ok.now r1 o _ fun W' g' H' _ _ r' i => ?_⟩
      have := itr_at (lo := 0) (hi := n) r' i
      rw [Int.sub_zero] at this
      show match some (rngL 0 n)[i]? with
        | some (some d) => _
        | some none => _
        | none => True
      cases q : (rngL 0 n)[i]? with
      | none => rw [q] at this; exact this
      | some d => rw [q] at this; exact this
    · exact o.elim
  | _ => exact o.elim
theorem snd_rng2 {ext : Bool} {tg a b : Expr} {x y : E} {p pos : Pos} (ha : SndE M ini S a x) (hb : SndE M ini S b y) (hg : globB S "range" = true) (hs : notStar a = true) (hs2 : notStar b = true) : SndI M ini S ext tg (.Call (.Name "range" p) [a, b] [] pos) (.rng2 x y) := by
  intro X Wx G W g H σ ρ R r rs o
  have hst2 : starEach [b] X.env = [(false, eval b X.env)] := star_cons hs2
  have hst : starEach [a, b] X.env = [(false, eval a X.env), (false, eval b X.env)] := by rw [star_cons hs, hst2]
  refine mxI_of (pi_range2 (globB_of G hg).1 (bt_of G (by decide)) (pa_cons pe_mx (pa_cons pe_mx pa_nil (star_cons hs2)) (star_cons hs)) hst hst2) (ha X Wx G W g H σ ρ _ r rs ((Ok.bind r o).imp fun d g1 W1 H1 _ e1 r1 o v hv => ?_))
  refine hb X Wx G W1 g1 H1 σ ρ _ r1 (rs.ext r e1) ((Ok.bind r1 o).imp fun d' g2 W2 H2 _ e2 r2 o v2 hv2 => ?_)
  cases d with
  | int n => cases d' with
    | int m =>
      have o : M.Ok W2 g2 H2 (if -1000000 ≤ n ∧ n ≤ 1000000 ∧ -1000000 ≤ m ∧ m ≤ 1000000 then .ok (.fix (rngL n m)) g2 else .no) (WE Wx ρ) (fun s g' W' H' => ∀ J, ItS M.C ext W' g' H' J s → R J H') := o
      split at o
      · rename_i hn
        refine ⟨n, m, by rw [rep_int hv, rep_int hv2], by omega, Ok.now r2 o _ fun W' g' H' _ _ r' i => ?_⟩
        have := itr_at (lo := n) (hi := m) r' i
        show match some (rngL n m)[i]? with
          | some (some d) => _
          | some none => _
          | none => True
        cases q : (rngL n m)[i]? with
        | none => rw [q] at this; exact this
        | some d => rw [q] at this; exact this
      · exact o.elim
    | _ => exact o.elim
  | _ => exact o.elim
/-- a text, a tuple, a list, a list of the store -/
theorem pi_any {X : Cx} {tg e : Expr} {te : TE} (he : PE X e te) : PI X tg e (fun σ H R => te σ H fun v H1 => (∃ x, v = .str x ∧ R (Its x) H1) ∨ ∃ a, v = .ref a ∧ (((∃ xs, SqL X.K H1 a xs) ∧ R (Itl X.K a) H1) ∨ ((∃ xs, SqT X.K H1 a xs) ∧ R (Itt X.K a) H1))) := by
  refine ⟨fun pins s σ H R I h => ?_⟩
  refine thn (he.run pins s σ H _ I h) fun v s1 ⟨x, H1, I1, r1, q1⟩ => ?_
  rcases q1 with ⟨y, rfl, q⟩ | ⟨a, rfl, ⟨⟨xs, hq⟩, q⟩ | ⟨⟨xs, hq⟩, q⟩⟩
  · obtain ⟨t, rfl⟩ := r1
    cases ha : y.cps.all (· < 128)
    · exact wpAny_pyIter_wide ha (pi_one (tk := s1.toks) I1 _ (turn_str _ y t "str_iterator" (.inr rfl)) ⟨_, Heap.get?_push_size _ rfl, rfl, rfl⟩ q)
    · exact wpAny_pyIter_ascii ha (pi_one (tk := s1.toks) I1 _ (turn_str _ y t "str_ascii_iterator" (.inl rfl)) ⟨_, Heap.get?_push_size _ rfl, rfl, rfl⟩ q)
  · cases r1
    obtain ⟨its, rv, p, hz⟩ := I1.list hq
    refine wpAny_pyIter_list p.isList ?_
    refine ⟨s1.heap.objs.size, [s1.heap.objs.size], _, _, H1, rfl, I1.kept (t' := s1.toks) fun b o e => Heap.get?_push_of_some _ e, turn_list a _, ⟨_, Heap.get?_push_size _ rfl, rfl, rfl⟩, fun b hb => ?_, q⟩
    have e : b = s1.heap.objs.size := by simpa using hb
    subst e
    exact I1.fpOk (Nat.le_refl _) (I1.hok.fresh (Nat.le_refl _))
  · cases r1
    obtain ⟨its, rv, p, hz⟩ := I1.tuple hq
    refine wpAny_pyIter_tuple (show s1.heap.IsTuple a its.toArray from p) ?_
    refine ⟨s1.heap.objs.size, [s1.heap.objs.size], _, _, H1, rfl, I1.kept (t' := s1.toks) fun b o e => Heap.get?_push_of_some _ e, turn_tuple a _, ⟨_, Heap.get?_push_size _ rfl, rfl, rfl⟩, fun b hb => ?_, q⟩
    have e : b = s1.heap.objs.size := by simpa using hb
    subst e
    exact I1.fpOk (Nat.le_refl _) (I1.hok.fresh (Nat.le_refl _))
theorem src_fix {C : Ct} {ext : Bool} {W : Wd} {g : Gs} {H : Hp} {J : L2.It} {xs : List D} (h : ∀ W' g' H', W.Le W' → (ext = true → Ext W H g W' H' g') → RelG C W' g' H' → ∀ i, match xs[i]? with
    | some d => J.go i H' ∧ ∀ x H2, J.yld i H' x H2 → ∃ W2, Ext W' H' g' W2 H2 g' ∧ RelG C W2 g' H2 ∧ Rep C W2 d x
    | none => J.stop i H') : ItS C ext W g H J (.fix xs) := by
  intro W' g' H' le ex r' i
  have := h W' g' H' le ex r' i
  show match some xs[i]? with
    | some (some d) => _
    | some none => _
    | none => True
  cases q : xs[i]? with
  | none => rw [q] at this; exact this
  | some d => rw [q] at this; exact this
def RAny (K : PySem.W.Frag) (R : L2.It → Hp → Prop) (v : V) (H1 : Hp) : Prop := (∃ x, v = .str x ∧ R (Its x) H1) ∨ ∃ a, v = .ref a ∧ (((∃ xs, SqL K H1 a xs) ∧ R (Itl K a) H1) ∨ ((∃ xs, SqT K H1 a xs) ∧ R (Itt K a) H1))
theorem it_core {ext : Bool} {W : Wd} {g : Gs} {H : Hp} {d : D} {v : V} {E : XK} {R : L2.It → Hp → Prop} (r : RelG M.C W g H) (hv : OpdS M.C W g H d v) (hx : ext = true ∨ Rep M.C W d v)
    (o : M.Ok W g H (srcOf d g) E (fun s g' W' H' => ∀ J, ItS M.C ext W' g' H' J s → R J H')) : RAny M.C.K R v H := by
  cases d with
  | str s =>
    rw [opd_str hv.opd]
    exact .inl ⟨s, rfl, Ok.now r o _ (src_fix fun W' g' H' _ _ r' i => its_at r' i)⟩
  | tup xs =>
    obtain ⟨a, vs, rfl, h1, h2⟩ := rep_tup hv.opd.tup
    exact .inr ⟨a, rfl, .inr ⟨⟨vs, r.sqT h1⟩, Ok.now r o _ (src_fix fun W' g' H' le _ r' i => itt_at r' (r'.sqT (SqT.le le.F h1)) (RepL.le le _ _ h2) i)⟩⟩
  | kst xs =>
    obtain ⟨a, vs, rfl, h1, h2⟩ := rep_kst hv.opd.kst
    exact .inr ⟨a, rfl, .inl ⟨⟨vs, r.sqL h1⟩, Ok.now r o _ (src_fix fun W' g' H' le _ r' i => itl_at r' (r'.sqL (SqL.le le.F h1)) (RepL.le le _ _ h2) i)⟩⟩
  | lst xs =>
    have frz : Rep M.C W (.lst xs) v → RAny M.C.K R v H := fun h => by
      obtain ⟨a, vs, rfl, h1, h2⟩ := rep_lst h
      exact .inr ⟨a, rfl, .inl ⟨⟨vs, .inl (r.rd h1)⟩, Ok.now r o _ (src_fix fun W' g' H' le _ r' i => itl_at r' (.inl (r'.rd (Rd.le le.F h1))) (RepL.le le _ _ h2) i)⟩⟩
    rcases hv with hv | ⟨a, c, rfl, h0, hl, h2, h3, _⟩
    · exact frz hv
    · rcases hx with hx | hx
      · cases c with
        | lst ys =>
          cases h3
          obtain ⟨vs, k1, k2⟩ := id h2
          refine .inr ⟨a, rfl, .inl ⟨⟨vs, .inl (.inl k1)⟩, Ok.now r o _ (src_fix fun W' g' H' le ex r' i => ?_)⟩⟩
          have e := ex hx
          have h2' : CellAt M.C W H a (.lst xs) := ⟨vs, k1, k2⟩
          obtain ⟨vs', k3, k4⟩ := h2'.leE e hl
          exact itl_at r' (.inl (.inl k3)) k4 i
        | dct => cases h3
        | ins => cases h3
      · exact frz hx
  | glo n =>
    have o : M.Ok W g H (match g.cell n with
      | some (.lst _) => .ok (.liv n) g
      | _ => .no) E (fun s g' W' H' => ∀ J, ItS M.C ext W' g' H' J s → R J H') := o
    cases z : g.cell n with
    | none => rw [z] at o; exact o.elim
    | some c =>
      rw [z] at o
      cases c with
      | lst ys =>
        obtain ⟨a, rfl, hphi, _, vs, k1, _⟩ := glo_cell r hv.opd z
        refine .inr ⟨a, rfl, .inl ⟨⟨vs, .inl (.inl k1)⟩, Ok.now r o _ fun W' g' H' le _ r' i => ?_⟩⟩
        show match (match g'.cell n with
          | some (.lst ys) => some ys[i]?
          | _ => none) with
          | some (some d) => _
          | some none => _
          | none => True
        cases z' : g'.cell n with
        | none => trivial
        | some c' =>
          cases c' with
          | lst ys' =>
            obtain ⟨b, e1, _, vs', k3, k4⟩ := r'.cell n _ z'
            rw [le.phi _ _ hphi] at e1
            cases e1
            have := itl_at r' (.inl (.inl k3)) k4 i
            show match some ys'[i]? with
              | some (some d) => _
              | some none => _
              | none => True
            cases q : ys'[i]? with
            | none => rw [q] at this; exact this
            | some d => rw [q] at this; exact this
          | dct => trivial
          | ins => trivial
      | dct => exact o.elim
      | ins => exact o.elim
  | _ => exact o.elim
theorem evIt_e {x : P} {σ : Sg} {g : Gs} : evIt M.Gam M.call (.e x) σ g = (evP M.Gam M.call x σ g).bind srcOf := rfl
theorem snd_itP {tg e : Expr} {x : P} (ha : SndP M ini S e x) : SndI M ini S true tg e (.e x) := by
  intro X Wx G W g H σ ρ R r rs o
  rw [evIt_e] at o
  refine mxI_of (pi_any pe_mx) (ha X Wx G W g H σ ρ _ r rs ((Ok.bind r o).imp fun d g1 W1 H1 _ e1 r1 o v hv => ?_))
  rw [G.K]
  exact it_core r1 hv (.inl rfl) o
theorem snd_itE {ext : Bool} {tg e : Expr} {x : E} (ha : SndE M ini S e x) : SndI M ini S ext tg e (.e (.e x)) := by
  intro X Wx G W g H σ ρ R r rs o
  rw [evIt_e] at o
  refine mxI_of (pi_any pe_mx) (ha X Wx G W g H σ ρ _ r rs ((Ok.bind r (show M.Ok W g H ((evE M.Gam M.call x σ g).bind srcOf) _ _ from o)).imp fun d g1 W1 H1 _ e1 r1 o v hv => ?_))
  rw [G.K]
  exact it_core r1 (.inl hv) (.inr hv) o
end
end VM

namespace VM
open PySem L2 SeqAt PyProof.Rows
section
variable {C : Ct} {W W' : Wd} {g g' : Gs} {H H' : Hp} {a : Addr}
/-- somebody's own list or dict -/
def OwnAt (C : Ct) (W : Wd) (g : Gs) (H : Hp) (a : Addr) (c : Cell) : Prop := W.F a = none ∧ ¬ Live W g a ∧ CellAt C W H a c
theorem OwnAt.ext {c : Cell} (r : RelG C W g H) (e : Ext W H g W' H' g') (h : OwnAt C W g H a c) : OwnAt C W' g' H' a c :=
  ⟨(e.Ff a h.2.2.some h.2.1).trans h.1, fun z => h.2.1 (e.live r h.2.2.some z), h.2.2.leE e h.2.1⟩
theorem OwnAt.new {o : HO} {c : Cell} (r : RelG C W g H) (h : H a = none) (hc : CellAt C W (upd H a o) a c) : OwnAt C W g (upd H a o) a c := ⟨r.nf h, r.notlive h, hc⟩
/-- one's own is changed -/
theorem RelG.mut {o : HO} (r : RelG C W g H) (h1 : W.F a = none) (h2 : ¬ Live W g a) : RelG C W g (upd H a o) where
  le := fun b u e => by
    have q : b ≠ a := fun z => by rw [z, h1] at e; cases e
    rw [upd_ne q]
    exact r.le b u e
  cell := fun n c e => by
    obtain ⟨b, k1, k2, k3⟩ := r.cell n c e
    have q : b ≠ a := live_ne (c := c) h2 (by rw [e]; exact fun z => nomatch z) k1
    exact ⟨b, k1, k2, k3.le .refl (upd_ne q)⟩
  inj := r.inj
  fresh := r.fresh
  there := fun n b e => by
    by_cases q : b = a
    · rw [q, upd_same]; exact fun z => nomatch z
    · rw [upd_ne q]; exact r.there n b e
theorem Ext.mut {W0 : Wd} {H0 : Hp} {g0 : Gs} {o : HO} (e : Ext W0 H0 g0 W H g) (h : H0 a = none) : Ext W0 H0 g0 W (upd H a o) g where
  le := e.le
  Ff := e.Ff
  phif := e.phif
  keep := fun b hb hn => by rw [upd_ne fun z => hb (by rw [z]; exact h)]; exact e.keep b hb hn
  there := fun b hb => by rw [upd_ne fun z => hb (by rw [z]; exact h)]; exact e.there b hb
  nx := e.nx
  dead := e.dead
end
section
variable {M : Cf} {ini : Nat → Option Nat} {S : Sc}
/-- the block of a comprehension -/
def Sc.blk (S : Sc) (scope : Scope) : Sc := ⟨S.cm, false, S.N, relS scope S.sc⟩
theorem Good.blk {X : Cx} {Wx : WX} (G : Good M ini S X Wx) (scope : Scope) (s : Shared) (H : Hp) (C : Addr) (cl : List (Str × Addr)) (fp : List Addr) :
    Good M ini (S.blk scope) (X.blk s H scope (compEnvC scope cl C X.env) fp) (fun _ _ _ _ => False) where
  K := G.K
  wd := G.wd
  mg := G.mg
  N := G.N
  nd := G.nd
  sc := by
    show relS scope X.env.scope = relS scope S.sc
    rw [G.sc]
  calm := G.calm
  fn := fun z => nomatch z
  big := G.big
  tk := takes0
  ci := G.ci
  gl := G.gl
  fx := G.fx
  me := G.me
  mf := G.mf
  nw := G.nw
  con := G.con
  fnm := G.fnm
  clm := G.clm
  cl := G.cl
  na := G.na
  bt := G.bt
  cx := G.cx
  xc := G.xc
  ex := G.ex
  eqs := G.eqs
def mxTs (X : Cx) (ifs : List Expr) : TT := fun σ H Q => ∀ pins s, Inv X pins σ H s →
  wpAny (model X.prog X.w) X.A (forIn ifs true fun c r => if r = true then do let ok ← isTrue c X.env (eval c X.env); pure (ForInStep.yield ok) else pure (ForInStep.yield r)) (TP X pins σ Q) X.xe s
theorem pts_mx {X : Cx} {ifs : List Expr} : PTs X ifs (mxTs X ifs) := ⟨fun pins s σ H Q I h => h pins s I⟩
theorem mxTs_of {X : Cx} {ifs : List Expr} {t : TT} {σ : L2.St} {H : Hp} {Q : Bool → Hp → Prop} (h : PTs X ifs t) (q : t σ H Q) : mxTs X ifs σ H Q := fun pins s I => h.run pins s σ H Q I q
def SndOt (M : Cf) (ini : Nat → Option Nat) (S : Sc) (ifs : List Expr) (x : Ot) : Prop := ∀ X Wx, Good M ini S X Wx → ∀ W g H σ ρ (Q : Bool → Hp → Prop), RelG M.C W g H → RelS M.C W g H σ ρ →
  M.Ok W g H (evOt M.Gam M.call x σ g) (WE Wx ρ) (fun b _ _ H' => Q b H') → mxTs X ifs ρ H Q
theorem snd_otnone : SndOt M ini S [] .none := fun X Wx G W g H σ ρ Q r rs o => mxTs_of pts_nil (Ok.now r o)
theorem snd_otsome {c : Expr} {t : T} (h : SndT M ini S c t) : SndOt M ini S [c] (.some t) := fun X Wx G W g H σ ρ Q r rs o => mxTs_of (pts_one pt_mx) (h X Wx G W g H σ ρ Q r rs o)
def noSet : Expr → Bool
  | .Set .. => false
  | _ => true
theorem noSet_of {e : Expr} {env : Env} (h : noSet e = true) (x : Value) : foldedSetIterable e env x = pure x := by
  cases e <;> first
    | rfl
    | cases h
theorem calm_ok {α : Type} {o : Out α} {a : α} {g : Gs} (h : o.calm = .ok a g) : o = .ok a g := by
  cases o with
  | ok => exact h
  | ex => cases h
  | no => cases h
/-- what is wanted of a new list or dict -/
def EndF (M : Cf) (H : Hp) (Q : VK) : Fr → Gs → Wd → Hp → Prop := fun fr g' W' H' => ∀ a, H a = none → W'.F a = none → ¬ Live W' g' a → CellAt M.C W' H' a fr.cell → Q (.ref a) H'
/-- the turn of a list comprehension -/
def stepL (Gam : Prog) (call : CallT) (elt : E) (tg : Tg) (own : List Nat) (c : Ot) (σ : Sg) (acc : List D) (x : D) (g : Gs) : Out (List D) := (match bindT g (wipeS σ own) x tg with
  | some σ' => (evOt Gam call c σ' g).bind fun t g => if t then (evE Gam call elt σ' g).bind fun y g => if acc.length < sizeM then .ok (acc ++ [y]) g else .no else .ok acc g
  | none => .no).calm
abbrev gBlk (X : Cx) (scope : Scope) (tg : Expr) : TG := fun v σ H Q => ∀ s H0 C cl fp, mxG (X.blk s H0 scope (compEnvC scope cl C X.env) fp) tg v σ H Q
abbrev ttBlk (X : Cx) (scope : Scope) (ifs : List Expr) : TT := fun σ H Q => ∀ s H0 C cl fp, mxTs (X.blk s H0 scope (compEnvC scope cl C X.env) fp) ifs σ H Q
abbrev teBlk (X : Cx) (scope : Scope) (elt : Expr) : TE := fun σ H Q => ∀ s H0 C cl fp, mxE (X.blk s H0 scope (compEnvC scope cl C X.env) fp) elt σ H Q
theorem comp_tlc {elt tg iter : Expr} {ifs : List Expr} {scope : Scope} {x : E} {t : Tg} {it : Iv} {own : List Nat} {c : Ot} {nms : List Str} (hc : S.cm = true) (hb : blkC S.N S.sc scope (nms.zip own) = true) (hn : nms.length = own.length)
    (hi : SndI M ini S true tg iter it) (ht : SndG M ini (S.blk scope) tg t) (ho : SndOt M ini (S.blk scope) ifs c) (he : SndE M ini (S.blk scope) elt x) (hs : noSet iter = true) (hw : ∀ i ∈ t.own, i ∈ own) {X : Cx} {Wx : WX} (G : Good M ini S X Wx) {W : Wd} {g : Gs} {H : Hp} {σ : Sg} {ρ : L2.St} {Q : VK} (r : RelG M.C W g H) (rs : RelS M.C W g H σ ρ)
    (o : M.Ok W g H (evF M.Gam M.call (.comp x t it own c) σ g) (WE Wx ρ) (EndF M H Q)) : tLc (mxI X tg iter) (gBlk X scope tg) (ttBlk X scope ifs) (teBlk X scope elt) own ρ H Q := by
  have o : M.Ok W g H ((evIt M.Gam M.call it σ g).bind fun s g => (foldI (stepL M.Gam M.call x t own c σ) s s.fuel 0 [] g).bind fun ys g => Out.ok (Fr.l ys) g) (WE Wx ρ) (EndF M H Q) := o
  refine hi X Wx G W g H σ ρ _ r rs ((Ok.bind r o).imp fun s g1 W1 H1 _ e1 r1 o1 J hJ => ?_)
  intro D hD
  refine ⟨fun i m H' => ∃ W' g' acc, Ext W1 H1 g1 W' H' g' ∧ RelG M.C W' g' H' ∧ OwnAt M.C W' g' H' D (.lst acc) ∧
    M.Ok W1 g1 H1 ((foldI (stepL M.Gam M.call x t own c σ) s m i acc g').bind fun ys g => Out.ok (Fr.l ys) g) (WE Wx ρ) (EndF M H Q),
    ⟨s.fuel, W1, g1, [], Ext.own r1 hD, r1.own hD, OwnAt.new r1 hD ⟨[], upd_same, .nil⟩, o1⟩, ?_⟩
  rintro i m H' ⟨W', g', acc, e', r', own', o'⟩
  cases m with
  | zero => exact o'.elim
  | succ m =>
    have hj := hJ W' g' H' e'.le (fun _ => e') r' i
    have o' : M.Ok W1 g1 H1 ((match s.at i g' with
      | none => Out.no
      | some none => Out.ok acc g'
      | some (some d) => (stepL M.Gam M.call x t own c σ acc d g').bind fun a' g' => foldI (stepL M.Gam M.call x t own c σ) s m (i + 1) a' g').bind fun ys g => Out.ok (Fr.l ys) g) (WE Wx ρ) (EndF M H Q) := o'
    cases qs : s.at i g' with
    | none => rw [qs] at o'; exact o'.elim
    | some od =>
      rw [qs] at o' hj
      cases od with
      | none =>
        refine .inl ⟨hj, ?_⟩
        exact o' W' H' e' r' D (fresh_of e1 hD) own'.1 own'.2.1 own'.2.2
      | some d =>
        obtain ⟨hgo, hy⟩ := hj
        refine .inr ⟨hgo, fun H2 => ∃ W' g' acc, Ext W1 H1 g1 W' H2 g' ∧ RelG M.C W' g' H2 ∧ OwnAt M.C W' g' H2 D (.lst acc) ∧
          M.Ok W1 g1 H1 ((foldI (stepL M.Gam M.call x t own c σ) s m (i + 1) acc g').bind fun ys g => Out.ok (Fr.l ys) g) (WE Wx ρ) (EndF M H Q),
          fun H2 h => ⟨m, Nat.lt_succ_self m, h⟩, fun x0 H2 y2 => ?_⟩
        obtain ⟨W2, e2, r2, hv⟩ := hy x0 H2 y2
        have own2 := own'.ext r' e2
        have e12 := e'.trans r1 e2
        have o' : M.Ok W1 g1 H1 (((stepL M.Gam M.call x t own c σ acc d g').bind fun a' g' => foldI (stepL M.Gam M.call x t own c σ) s m (i + 1) a' g').bind fun ys g => Out.ok (Fr.l ys) g) (WE Wx ρ) (EndF M H Q) := o'
        cases qst : stepL M.Gam M.call x t own c σ acc d g' with
        | no => rw [qst] at o'; exact o'.elim
        | ex => exact absurd qst (by unfold stepL; intro z; generalize (match bindT g' (wipeS σ own) d t with
            | some σ' => (evOt M.Gam M.call c σ' g').bind fun t g => if t then (evE M.Gam M.call x σ' g).bind fun y g => if acc.length < sizeM then Out.ok (acc ++ [y]) g else .no else .ok acc g
            | none => .no) = oo at z; cases oo <;> cases z)
        | ok acc2 g3 =>
          rw [qst] at o'
          have o' : M.Ok W1 g1 H1 ((foldI (stepL M.Gam M.call x t own c σ) s m (i + 1) acc2 g3).bind fun ys g => Out.ok (Fr.l ys) g) (WE Wx ρ) (EndF M H Q) := o'
          have qst := calm_ok qst
          cases qb : bindT g' (wipeS σ own) d t with
          | none => rw [qb] at qst; cases qst
          | some σ1 =>
            rw [qb] at qst
            have qst : ((evOt M.Gam M.call c σ1 g').bind fun t g => if t then (evE M.Gam M.call x σ1 g).bind fun y g => if acc.length < sizeM then Out.ok (acc ++ [y]) g else .no else .ok acc g) = .ok acc2 g3 := qst
            intro s0 H0 C0 cl0 fp0
            have rs2 : RelS M.C W2 g' H2 (wipeS σ own) (wipe ρ own) := ((rs.ext r e1).ext r1 e12).less (wipe_length _ _) fun j hj => wipe_out hj
            refine ht _ _ (G.blk scope s0 H0 C0 cl0 fp0) W2 g' H2 _ σ1 _ d x0 _ r2 rs2 hv qb fun ρ' rs' k' => ?_
            refine ⟨wipe_eq ?_ fun j hj => ?_, ?_⟩
            · rw [← rs'.len, bindT_len qb, rs2.len, wipe_length]
            · rw [k' j fun z => hj (hw j z), wipe_out hj]
            intro s0 H0 C0 cl0 fp0
            refine ho _ _ (G.blk scope s0 H0 C0 cl0 fp0) W2 g' H2 σ1 ρ' _ r2 rs' ?_
            cases qt : evOt M.Gam M.call c σ1 g' with
            | no => rw [qt] at qst; cases qst
            | ex => rw [qt] at qst; cases qst
            | ok tb g4 =>
              rw [qt] at qst
              intro W4 H4 e4 r4
              have own4 := own2.ext r2 e4
              have e14 := e12.trans r1 e4
              cases tb with
              | false =>
                have qst : Out.ok acc g4 = .ok acc2 g3 := qst
                cases qst
                rw [if_neg Bool.false_ne_true]
                exact ⟨W4, _, _, e14, r4, own4, o'⟩
              | true =>
                have qst : ((evE M.Gam M.call x σ1 g4).bind fun y g => if acc.length < sizeM then Out.ok (acc ++ [y]) g else .no) = .ok acc2 g3 := qst
                rw [if_pos rfl]
                intro s0 H0 C0 cl0 fp0
                refine he _ _ (G.blk scope s0 H0 C0 cl0 fp0) W4 g4 H4 σ1 ρ' _ r4 (rs'.ext r2 e4) ?_
                cases qe : evE M.Gam M.call x σ1 g4 with
                | no => rw [qe] at qst; cases qst
                | ex => rw [qe] at qst; cases qst
                | ok y g5 =>
                  rw [qe] at qst
                  have qst : (if acc.length < sizeM then Out.ok (acc ++ [y]) g5 else .no) = .ok acc2 g3 := qst
                  split at qst
                  · rename_i hlen
                    cases qst
                    intro W5 H5 e5 r5 v hv5
                    obtain ⟨f1, f2, vs5, f3, f4⟩ := own4.ext r4 e5
                    have e15 := e14.trans r1 e5
                    refine ⟨vs5, f3, by rw [f4.length]; exact szM' hlen, W5, _, _, e15.mut hD, r5.mut f1 f2, ⟨f1, f2, vs5 ++ [v], upd_same, f4.append (.cons hv5 .nil)⟩, o'⟩
                  · cases qst
theorem own_of {nms : List Str} {own : List Nat} (hn : nms.length = own.length) : (nms.zip own).map (·.2) = own := by
  rw [List.map_snd_zip]
  omega
theorem blk_of {X : Cx} {Wx : WX} (G : Good M ini S X Wx) {scope : Scope} {nms : List Str} {own : List Nat} (hb : blkC S.N S.sc scope (nms.zip own) = true) : BlkOk X.N X.env.scope scope (nms.zip own) := by
  rw [G.N, G.sc]
  exact blkOk_by hb
theorem snd_comp {elt tg iter : Expr} {ifs : List Expr} {scope : Scope} {pos : Pos} {x : E} {t : Tg} {it : Iv} {own : List Nat} {c : Ot} {nms : List Str} (hc : S.cm = true) (hb : blkC S.N S.sc scope (nms.zip own) = true) (hn : nms.length = own.length)
    (hi : SndI M ini S true tg iter it) (ht : SndG M ini (S.blk scope) tg t) (ho : SndOt M ini (S.blk scope) ifs c) (he : SndE M ini (S.blk scope) elt x) (hs : noSet iter = true) (hw : ∀ i ∈ t.own, i ∈ own) :
    SndF M ini S (.ListComp elt [⟨tg, iter, ifs, 0⟩] scope pos) (.comp x t it own c) := by
  intro X Wx G W g H σ ρ Q r rs o
  have q := comp_tlc hc hb hn hi ht ho he hs hw G r rs o
  rw [← own_of hn] at q
  exact mxE_of (pe_lc (G.calm hc) (by rw [G.N]; exact G.nd) pi_mx (blk_of G hb)
    (fun s H0 C cl fp => ⟨fun pins s' σ H v u Q I r h => h s H0 C cl fp pins s' u I r⟩) (fun s H0 C cl fp => ⟨fun pins s' σ H Q I h => h s H0 C cl fp pins s' I⟩) (fun s H0 C cl fp => ⟨fun pins s' σ H Q I h => h s H0 C cl fp pins s' I⟩) (noSet_of hs)) q
end
end VM

namespace VM
open PySem L2 SeqAt PyProof.Rows
section
variable {M : Cf} {ini : Nat → Option Nat} {S : Sc}
/-- what follows a new list -/
abbrev NewL (C : Ct) (W : Wd) (H : Hp) (xs : List D) (Q : VK) : Prop := ∀ p vs, H p = none → RepL C W xs vs → Q (.ref p) (upd H p (.lst vs))
theorem endF_new {W W1 : Wd} {g g1 : Gs} {H H1 : Hp} {xs : List D} {Q : VK} (r : RelG M.C W g H) (e1 : Ext W H g W1 H1 g1) (r1 : RelG M.C W1 g1 H1) (h : ∀ W' H', Ext W H g W' H' g1 → RelG M.C W' g1 H' → EndF M H Q (.l xs) g1 W' H') : NewL M.C W1 H1 xs Q := fun p vs hp hv =>
  h W1 _ (e1.trans r (Ext.own r1 hp)) (r1.own hp) p (fresh_of e1 hp) (r1.nf hp) (r1.notlive hp) ⟨vs, upd_same, hv⟩
theorem optL_some {o : Option (List D)} {W : Wd} {g g1 : Gs} {H : Hp} {E : XK} {P : Fr → Gs → Wd → Hp → Prop} (h : M.Ok W g H (Out.optL o g1) E P) : ∃ xs, o = some xs ∧ ∀ W' H', Ext W H g W' H' g1 → RelG M.C W' g1 H' → P (.l xs) g1 W' H' := by
  cases o with
  | none => exact h.elim
  | some xs => exact ⟨xs, rfl, h⟩
theorem one_opF {X : Cx} {Wx : WX} (G : Good M ini S X Wx) {a : Expr} {x : P} (ha : SndP M ini S a x) {f : Gs → D → Option (List D)} {J : (V → Hp → VK → Prop) → Prop} (J0 : J fun _ _ _ => False)
    (hf : ∀ g x xs, f g x = some xs → ∃ R, J R ∧ ∀ {W : Wd} {H : Hp} {u : V} {Q : VK}, RelG M.C W g H → Opd M.C W H x u → NewL M.C W H xs Q → R u H Q)
    {W : Wd} {g : Gs} {H : Hp} {σ : Sg} {ρ : L2.St} {Q : VK} (r : RelG M.C W g H) (rs : RelS M.C W g H σ ρ)
    (h : M.Ok W g H ((evP M.Gam M.call x σ g).bind fun u g => Out.optL (f g u) g) (WE Wx ρ) (EndF M H Q)) : ∃ R, J R ∧ mxE X a ρ H (fun u H1 => R u H1 Q) := by
  cases qa : evP M.Gam M.call x σ g with
  | no => rw [qa] at h; exact h.elim
  | ex c ds g' => rw [qa] at h; exact ⟨_, J0, ha X Wx G W g H σ ρ _ r rs (by rw [qa]; exact h)⟩
  | ok u g1 =>
    rw [qa] at h
    obtain ⟨xs, hd, h⟩ := optL_some h
    obtain ⟨R, hJ, hR⟩ := hf g1 u xs hd
    refine ⟨R, hJ, ha X Wx G W g H σ ρ _ r rs ?_⟩
    rw [qa]
    exact fun W1 H1 e1 r1 v1 hv1 => hR r1 hv1.opd (endF_new r e1 r1 h)
theorem two_opF {X : Cx} {Wx : WX} (G : Good M ini S X Wx) {a b : Expr} {x y : P} (ha : SndP M ini S a x) (hb : SndP M ini S b y) {f : Gs → D → D → Option (List D)} {J : R2 → Prop} (J0 : J fun _ _ _ _ => False)
    (hf : ∀ g x y xs, f g x y = some xs → ∃ R, J R ∧ ∀ {W : Wd} {H : Hp} {u v : V} {Q : VK}, RelG M.C W g H → Opd M.C W H x u → Opd M.C W H y v → NewL M.C W H xs Q → R u v H Q)
    {W : Wd} {g : Gs} {H : Hp} {σ : Sg} {ρ : L2.St} {Q : VK} (r : RelG M.C W g H) (rs : RelS M.C W g H σ ρ)
    (h : M.Ok W g H ((evP M.Gam M.call x σ g).bind fun u g => (evP M.Gam M.call y σ g).bind fun v g => Out.optL (f g u v) g) (WE Wx ρ) (EndF M H Q)) : ∃ R, J R ∧ tOp R (mxE X a) (mxE X b) ρ H Q := by
  cases qa : evP M.Gam M.call x σ g with
  | no => rw [qa] at h; exact h.elim
  | ex c ds g' => rw [qa] at h; exact ⟨_, J0, ha X Wx G W g H σ ρ _ r rs (by rw [qa]; exact h)⟩
  | ok u g1 =>
    rw [qa] at h
    have h : M.Ok W g H ((evP M.Gam M.call y σ g1).bind fun v g => Out.optL (f g u v) g) (WE Wx ρ) (EndF M H Q) := h
    cases qb : evP M.Gam M.call y σ g1 with
    | no => rw [qb] at h; exact h.elim
    | ex c ds g' =>
      rw [qb] at h
      refine ⟨_, J0, ha X Wx G W g H σ ρ _ r rs ?_⟩
      rw [qa]
      intro W1 H1 e1 r1 v1 hv1
      refine hb X Wx G W1 g1 H1 σ ρ _ r1 (rs.ext r e1) ?_
      rw [qb]
      exact Ok.shift (o := .ex c ds g') e1 r h
    | ok v g2 =>
      rw [qb] at h
      obtain ⟨xs, hd, h⟩ := optL_some h
      obtain ⟨R, hJ, hR⟩ := hf g2 u v xs hd
      refine ⟨R, hJ, ha X Wx G W g H σ ρ _ r rs ?_⟩
      rw [qa]
      intro W1 H1 e1 r1 v1 hv1
      refine hb X Wx G W1 g1 H1 σ ρ _ r1 (rs.ext r e1) ?_
      rw [qb]
      exact fun W2 H2 e2 r2 v2 hv2 => hR r2 (hv1.ext r1 e2).opd hv2.opd (endF_new r (e1.trans r e2) r2 h)
theorem snd_flist {a : Expr} {x : P} {p pos : Pos} (ha : SndP M ini S a x) (hg : globB S "list" = true) (hs : notStar a = true) : SndF M ini S (.Call (.Name "list" p) [a] [] pos) (.list x) := by
  intro X Wx G W g H σ ρ Q r rs o
  have o : M.Ok W g H ((evP M.Gam M.call x σ g).bind fun u g => Out.optL (seqA g u) g) (WE Wx ρ) (EndF M H Q) := o
  obtain ⟨R, hJ, hR⟩ := one_opF G ha (f := fun g u => seqA g u) (J := fun R => ∀ u H Q, R u H Q → ∃ p ys, [u] = [V.ref p] ∧ (SqL X.K H p ys ∨ SqT X.K H p ys) ∧ ∀ l, H l = none → Q (.ref l) (upd H l (.lst ys)))
    (fun _ _ _ z => z.elim) (fun g x xs e => ⟨fun u H Q => ∃ p ys, [u] = [V.ref p] ∧ (SqL X.K H p ys ∨ SqT X.K H p ys) ∧ ∀ l, H l = none → Q (.ref l) (upd H l (.lst ys)), fun _ _ _ z => z, fun {W H u Q} r hx f => by
      obtain ⟨a, vs, rfl, h1, h2⟩ := seqA_ok r e hx
      exact ⟨a, vs, rfl, by rw [G.K]; exact h1, fun l hl => f l vs hl h2⟩⟩) r rs o
  refine mxE_of (pe_callTy call_list_of (globB_of G hg).1 (bt_of G (by decide)) rfl (pa_cons pe_mx pa_nil (star_cons hs)) (by decide) (by decide) (star_cons hs) rfl) ?_
  exact fun pins s I => thn (hR pins s I) fun u s1 ⟨v, H1, I1, r1, q1⟩ => ⟨v, H1, I1, r1, hJ _ _ _ q1⟩
theorem snd_fcat {a b : Expr} {x y : P} {pos : Pos} (ha : SndP M ini S a x) (hb : SndP M ini S b y) : SndF M ini S (.BinOp a .Add b pos) (.cat x y) := by
  intro X Wx G W g H σ ρ Q r rs o
  have o : M.Ok W g H ((evP M.Gam M.call x σ g).bind fun u g => (evP M.Gam M.call y σ g).bind fun v g => Out.optL (catL g u v) g) (WE Wx ρ) (EndF M H Q) := o
  obtain ⟨R, hJ, hR⟩ := two_opF G ha hb (f := fun g u v => catL g u v) (J := fun R => OpR X (binaryOp .Add) R) (fun _ _ _ _ _ _ _ _ _ _ _ _ z => z.elim) (fun g x y xs e => ⟨rCatR, op_catR, fun {W H u v Q} r hx hy f => by
    unfold catL at e
    cases q1 : seqL g x with
    | none => rw [q1] at e; cases e
    | some l1 =>
      rw [q1] at e
      cases q2 : seqL g y with
      | none => rw [q2] at e; cases e
      | some l2 =>
        rw [q2] at e
        have e : (if l1.length + l2.length ≤ sizeM then some (l1 ++ l2) else none) = some xs := e
        split at e
        · rename_i hz
          cases e
          obtain ⟨a, vs, rfl, h1, h2⟩ := seqL_ok r q1 hx
          obtain ⟨b, ws, rfl, h3, h4⟩ := seqL_ok r q2 hy
          exact ⟨a, b, vs, ws, rfl, rfl, h1, h3, by rw [h2.length, h4.length]; exact szM hz, fun p hp => f p _ hp (h2.append h4)⟩
        · cases e⟩) r rs o
  exact mxE_of (pe_op hJ pe_mx pe_mx) hR
theorem snd_frep {a b : Expr} {x : P} {y : E} {pos : Pos} (ha : SndP M ini S a x) (hb : SndE M ini S b y) : SndF M ini S (.BinOp a .Mult b pos) (.rep x y) := by
  intro X Wx G W g H σ ρ Q r rs o
  have o : M.Ok W g H ((evP M.Gam M.call x σ g).bind fun u g => (evP M.Gam M.call (.e y) σ g).bind fun v g => Out.optL (repL g u v) g) (WE Wx ρ) (EndF M H Q) := o
  obtain ⟨R, hJ, hR⟩ := two_opF G ha hb.p (f := fun g u v => repL g u v) (J := fun R => OpR X (binaryOp .Mult) R) (fun _ _ _ _ _ _ _ _ _ _ _ _ z => z.elim) (fun g x y xs e => ⟨rRepR, op_repR, fun {W H u v Q} r hx hy f => by
    unfold repL at e
    cases y with
    | int n =>
      cases q1 : seqL g x with
      | none => rw [q1] at e; cases e
      | some l1 =>
        rw [q1] at e
        have e : (if l1.length * n.toNat ≤ sizeM ∧ n < 1000000 ∧ -1000000 < n then some (List.replicate n.toNat l1).flatten else none) = some xs := e
        split at e
        · rename_i hz
          cases e
          rw [opd_int hy]
          obtain ⟨a, vs, rfl, h1, h2⟩ := seqL_ok r q1 hx
          exact ⟨a, n, vs, rfl, rfl, h1, by omega, by omega, by rw [h2.length]; exact szM hz.1, fun p hp => f p _ hp (h2.replicate _)⟩
        · cases e
    | _ => cases e⟩) r rs o
  exact mxE_of (pe_op hJ pe_mx pe_mx) hR

/-! ### dict displays -/
def trsOf (X : Cx) : List (Option Expr) → List Expr → List (TE × TE)
  | some k :: ks, v :: vs => (mxE X k, mxE X v) :: trsOf X ks vs
  | _, _ => []
def SndPr (M : Cf) (ini : Nat → Option Nat) (S : Sc) (keys : List (Option Expr)) (values : List Expr) (x : Prs) : Prop := (∀ X pos, PPs X pos keys values (trsOf X keys values)) ∧ ∀ X Wx, Good M ini S X Wx → ∀ W g H σ ρ (Q : List (V × V) → Hp → Prop), RelG M.C W g H → RelS M.C W g H σ ρ →
  M.Ok W g H (evPr M.Gam M.call x σ g) (WE Wx ρ) (fun q _ W' H' => ∀ ps : List (V × V), RepL M.C W' q.1 (ps.map (·.1)) → RepL M.C W' q.2 (ps.map (·.2)) → Q ps H') → tPairs (trsOf X keys values) ρ H Q
theorem snd_prnil : SndPr M ini S [] [] .nil := ⟨fun _ _ => pps_nil, fun X Wx G W g H σ ρ Q r rs o => Ok.now r o [] .nil .nil⟩
theorem snd_prcons {k v : Expr} {ks : List (Option Expr)} {vs : List Expr} {x y : E} {ps : Prs} (hk : SndE M ini S k x) (hv : SndE M ini S v y) (hr : SndPr M ini S ks vs ps) : SndPr M ini S (some k :: ks) (v :: vs) (.cons x y ps) := by
  refine ⟨fun X pos => pps_cons pe_mx pe_mx (hr.1 X pos), fun X Wx G W g H σ ρ Q r rs o => ?_⟩
  refine hk X Wx G W g H σ ρ _ r rs ((Ok.bind r o).imp fun d g1 W1 H1 _ e1 r1 o u hu => ?_)
  refine hv X Wx G W1 g1 H1 σ ρ _ r1 (rs.ext r e1) ((Ok.bind r1 o).imp fun d2 g2 W2 H2 _ e2 r2 o w hw => ?_)
  refine hr.2 X Wx G W2 g2 H2 σ ρ _ r2 ((rs.ext r e1).ext r1 e2) ((Ok.bind r2 o).imp fun q g3 W3 H3 _ e3 r3 o ps h1 h2 => ?_)
  exact Ok.now r3 o ((u, w) :: ps) (.cons (Rep.le (e2.le.trans e3.le) _ _ hu) h1) (.cons (Rep.le e3.le _ _ hw) h2)
theorem keys_of {C : Ct} {W : Wd} : ∀ {ks : List D} {us : List V}, keysOk ks = true → RepL C W ks us → ∃ κs : List Key, ks = κs.map kD ∧ us = κs.map kV ∧ κs.Nodup
  | [], us, _, h => ⟨[], rfl, h.nil_eq, List.nodup_nil⟩
  | k :: ks, us, hk, h => by
    obtain ⟨u, r, rfl, h1, h2⟩ := h.uncons
    unfold keysOk at hk
    simp only [Bool.and_eq_true, Bool.not_eq_true'] at hk
    obtain ⟨⟨a1, a2⟩, a3⟩ := hk
    obtain ⟨κ, _, rfl⟩ := keyK_of a1
    obtain ⟨κs, rfl, rfl, nd⟩ := keys_of a3 h2
    refine ⟨κ :: κs, rfl, by rw [key_rep h1]; rfl, List.nodup_cons.mpr ⟨fun hm => ?_, nd⟩⟩
    have : (κs.map kD).any (fun x => keyB x (kD κ)) = true := List.any_eq_true.mpr ⟨kD κ, List.mem_map.mpr ⟨κ, hm, rfl⟩, by rw [keyB_key]; exact decide_eq_true rfl⟩
    rw [this] at a2
    cases a2
theorem merge_nodup : ∀ (more kvs : List (Key × V)), ((kvs ++ more).map (·.1)).Nodup → mergeK kvs more = kvs ++ more
  | [], kvs, _ => by rw [List.append_nil]; rfl
  | p :: more, kvs, h => by
    have hp : putK kvs p.1 p.2 = kvs ++ [p] := by
      unfold putK
      rw [if_neg]
      intro z
      obtain ⟨q, hq, e⟩ := List.any_eq_true.mp z
      have e := of_decide_eq_true e
      rw [List.map_append, List.nodup_append] at h
      exact h.2.2 q.1 (List.mem_map.mpr ⟨q, hq, rfl⟩) p.1 (List.mem_map.mpr ⟨p, List.mem_cons_self, rfl⟩) e
    show mergeK (putK kvs p.1 p.2) more = kvs ++ p :: more
    rw [hp, merge_nodup more (kvs ++ [p]) (by rw [List.append_assoc]; exact h), List.append_assoc]
    rfl
theorem dlit_end {W W1 : Wd} {g g1 : Gs} {H H1 : Hp} {p : Addr} {q : List D × List D} {ps : List (V × V)} (own : OwnAt M.C W1 g1 H1 p (.dct [] [])) (hk : keysOk q.1 = true) (h1 : RepL M.C W1 q.1 (ps.map (·.1))) (h2 : RepL M.C W1 q.2 (ps.map (·.2))) :
    H1 p = some (.dK []) ∧ ∃ kvs : List (Key × V), ps = kvs.map (fun kv => (kV kv.1, kv.2)) ∧ kvs.length = q.1.length ∧ mergeK [] kvs = kvs ∧ CellAt M.C W1 (upd H1 p (.dK kvs)) p (.dct q.1 q.2) := by
  obtain ⟨_, _, kvs0, k1, k2, _⟩ := own
  have e0 : kvs0 = [] := by
    cases kvs0 with
    | nil => rfl
    | cons => cases k2
  subst e0
  obtain ⟨κs, e1, e2, nd⟩ := keys_of hk h1
  have hl : κs.length = ps.length := by
    have := congrArg List.length e2
    rw [List.length_map, List.length_map] at this
    exact this.symm
  have z1 : ps = (κs.zip (ps.map (·.2))).map (fun kv => (kV kv.1, kv.2)) := by
    clear h1 h2 nd e1
    induction ps generalizing κs with
    | nil => cases κs <;> rfl
    | cons a ps ih =>
      cases κs with
      | nil => cases hl
      | cons κ κs =>
        rw [List.map_cons, List.map_cons] at e2
        injection e2 with e3 e4
        rw [List.map_cons, List.zip_cons_cons, List.map_cons, ← ih κs e4 (by simpa using hl), ← e3]
  have zk : (κs.zip (ps.map (·.2))).map (·.1) = κs := List.map_fst_zip (by rw [List.length_map]; omega)
  have zv : (κs.zip (ps.map (·.2))).map (·.2) = ps.map (·.2) := List.map_snd_zip (by rw [List.length_map]; omega)
  refine ⟨k1, _, z1, ?_, ?_, ?_⟩
  · rw [List.length_zip, List.length_map, e1, List.length_map]
    omega
  · rw [merge_nodup _ _ (by rw [List.nil_append, zk]; exact nd), List.nil_append]
  · refine ⟨_, upd_same, ?_, by rw [zv]; exact h2⟩
    rw [e1]
    conv => lhs; rw [← zk]
    rw [List.map_map]
    rfl
theorem snd_dlit {keys : List (Option Expr)} {values : List Expr} {ps : Prs} {pos : Pos} (h : SndPr M ini S keys values ps) (hall : keys.all (·.isSome) = true) (hl : keys.length = values.length) (h0 : keys ≠ []) (h15 : keys.length ≤ 15) : SndF M ini S (.Dict keys values pos) (.dlit ps) := by
  intro X Wx G W g H σ ρ Q r rs o
  have o : M.Ok W g H ((evPr M.Gam M.call ps σ g).bind fun q g => if keysOk q.1 ∧ q.1.length ≤ 15 then .ok (.d q.1 q.2) g else .no) (WE Wx ρ) (EndF M H Q) := o
  refine mxE_of (pe_disp (h.1 X pos) hall hl h0 h15) fun p hp => ?_
  have eo := Ext.own (o := .dK []) r hp
  have ro := r.own (o := .dK []) hp
  have own0 : OwnAt M.C W g (upd H p (.dK [])) p (.dct [] []) := OwnAt.new r hp ⟨[], upd_same, rfl, .nil⟩
  cases qa : evPr M.Gam M.call ps σ g with
  | no => rw [qa] at o; exact o.elim
  | ex cc dd g' =>
    rw [qa] at o
    refine h.2 X Wx G W g _ σ ρ _ ro (rs.ext r eo) ?_
    rw [qa]
    exact Ok.shift (o := .ex cc dd g') eo r o
  | ok q g1 =>
    rw [qa] at o
    have o : M.Ok W g H (if keysOk q.1 ∧ q.1.length ≤ 15 then .ok (.d q.1 q.2) g1 else .no) (WE Wx ρ) (EndF M H Q) := o
    split at o
    · rename_i hk
      refine h.2 X Wx G W g _ σ ρ _ ro (rs.ext r eo) ?_
      rw [qa]
      intro W1 H1 e1 r1 ps h1 h2
      have own1 := own0.ext ro e1
      obtain ⟨k1, kvs, k2, k3, k4, k5⟩ := dlit_end (W := W) (g := g) (H := H) own1 hk.1 h1 h2
      refine ⟨k1, kvs, k2, by omega, ?_⟩
      rw [k4]
      exact o W1 _ ((eo.trans r e1).mut hp) (r1.mut own1.1 own1.2.1) p hp own1.1 own1.2.1 k5
    · exact o.elim
theorem snd_dlit0 {pos : Pos} : SndF M ini S (.Dict [] [] pos) (.dlit .nil) := by
  intro X Wx G W g H σ ρ Q r rs o
  have o : M.Ok W g H (.ok (.d [] []) g) (WE Wx ρ) (EndF M H Q) := o
  refine mxE_of pe_dnewK fun p hp => ?_
  exact o W _ (Ext.own r hp) (r.own hp) p hp (r.nf hp) (r.notlive hp) ⟨[], upd_same, rfl, .nil⟩
end
end VM

namespace VM
open PySem L2 SeqAt PyProof.Rows
section
variable {M : Cf} {ini : Nat → Option Nat} {S : Sc}
theorem enumL_get : ∀ {xs : List D} {k i : Nat}, (enumL k xs)[i]? = (xs[i]?).map fun x => D.tup [.int ((k + i : Nat) : Int), x]
  | [], k, i => by simp [enumL]
  | x :: xs, k, 0 => by simp [enumL]
  | x :: xs, k, i + 1 => by
    show (enumL (k + 1) xs)[i]? = _
    rw [enumL_get]
    have : k + 1 + i = k + (i + 1) := by omega
    rw [this]
    rfl
theorem zip2_get : ∀ {xs ys : List D} {i : Nat}, (zip2 xs ys)[i]? = match xs[i]?, ys[i]? with
    | some x, some y => some (D.tup [x, y])
    | _, _ => none
  | [], ys, i => by
    cases ys <;> simp [zip2]
  | x :: xs, [], i => by
    show ([] : List D)[i]? = _
    cases h : (x :: xs)[i]? <;> simp
  | x :: xs, y :: ys, 0 => rfl
  | x :: xs, y :: ys, i + 1 => by
    show (zip2 xs ys)[i]? = _
    rw [zip2_get]
    rfl
theorem pair_rep {C : Ct} {W : Wd} {g : Gs} {H : Hp} {T : Addr} {x y : D} {u v : V} (r : RelG C W g H) (hT : H T = none) (hx : Rep C W x u) (hy : Rep C W y v) :
    Ext W H g (W.put T (.tup [u, v])) (upd H T (.tup [u, v])) g ∧ RelG C (W.put T (.tup [u, v])) g (upd H T (.tup [u, v])) ∧ Rep C (W.put T (.tup [u, v])) (.tup [x, y]) (.ref T) :=
  ⟨Ext.lay r hT, r.lay hT, tup_rep (.inl (.inl put_same)) (RepL.le (Wd.le_put (r.nf hT)) _ _ (.cons hx (.cons hy .nil)))⟩
theorem ite_at {C : Ct} {W : Wd} {g : Gs} {H : Hp} {a : Addr} {xs : List D} {vs : List V} (r : RelG C W g H) (hs : SqL C.K H a vs) (h : RepL C W xs vs) (i : Nat) : match (enumL 0 xs)[i]? with
    | some d => (Ite C.K a).go i H ∧ ∀ x H2, (Ite C.K a).yld i H x H2 → ∃ W2, Ext W H g W2 H2 g ∧ RelG C W2 g H2 ∧ Rep C W2 d x
    | none => (Ite C.K a).stop i H := by
  rw [enumL_get]
  cases q : xs[i]? with
  | none =>
    refine ⟨vs, hs, ?_⟩
    rw [h.length]
    exact List.getElem?_eq_none_iff.mp q
  | some d =>
    obtain ⟨v, e, rv⟩ := h.get q
    refine ⟨⟨vs, v, hs, e⟩, fun x H2 ⟨T, y, ex, hT, eH, k⟩ => ?_⟩
    subst ex eH
    have := k vs hs
    rw [e] at this
    cases this
    rw [Nat.zero_add]
    exact ⟨_, pair_rep r hT rfl rv⟩
theorem itz_at {C : Ct} {W : Wd} {g : Gs} {H : Hp} {a b : Addr} {xs ys : List D} {vs ws : List V} (r : RelG C W g H) (hs : SqL C.K H a vs) (hs2 : SqL C.K H b ws) (h : RepL C W xs vs) (h2 : RepL C W ys ws) (i : Nat) : match (zip2 xs ys)[i]? with
    | some d => (Itz C.K a b).go i H ∧ ∀ x H2, (Itz C.K a b).yld i H x H2 → ∃ W2, Ext W H g W2 H2 g ∧ RelG C W2 g H2 ∧ Rep C W2 d x
    | none => (Itz C.K a b).stop i H := by
  rw [zip2_get]
  cases q : xs[i]? with
  | none =>
    refine ⟨vs, ws, hs, hs2, .inl ?_⟩
    rw [h.length]
    exact List.getElem?_eq_none_iff.mp q
  | some d =>
    cases q2 : ys[i]? with
    | none =>
      refine ⟨vs, ws, hs, hs2, .inr ?_⟩
      rw [h2.length]
      exact List.getElem?_eq_none_iff.mp q2
    | some d2 =>
      obtain ⟨v, e, rv⟩ := h.get q
      obtain ⟨w, e2, rw2⟩ := h2.get q2
      refine ⟨⟨vs, ws, v, w, hs, hs2, e, e2⟩, fun x H2 ⟨T, y, z, ex, hT, eH, k, k2⟩ => ?_⟩
      subst ex eH
      have := k vs hs
      rw [e] at this
      cases this
      have := k2 ws hs2
      rw [e2] at this
      cases this
      exact ⟨_, pair_rep r hT rv rw2⟩
theorem itzT_at {C : Ct} {W : Wd} {g : Gs} {H : Hp} {a b : Addr} {xs ys : List D} {vs ws : List V} (r : RelG C W g H) (hs : SqT C.K H a vs) (hs2 : SqT C.K H b ws) (h : RepL C W xs vs) (h2 : RepL C W ys ws) (i : Nat) : match (zip2 xs ys)[i]? with
    | some d => (RZ.ItzT C.K a b).go i H ∧ ∀ x H2, (RZ.ItzT C.K a b).yld i H x H2 → ∃ W2, Ext W H g W2 H2 g ∧ RelG C W2 g H2 ∧ Rep C W2 d x
    | none => (RZ.ItzT C.K a b).stop i H := by
  rw [zip2_get]
  cases q : xs[i]? with
  | none =>
    refine ⟨vs, ws, hs, hs2, .inl ?_⟩
    rw [h.length]
    exact List.getElem?_eq_none_iff.mp q
  | some d =>
    cases q2 : ys[i]? with
    | none =>
      refine ⟨vs, ws, hs, hs2, .inr ?_⟩
      rw [h2.length]
      exact List.getElem?_eq_none_iff.mp q2
    | some d2 =>
      obtain ⟨v, e, rv⟩ := h.get q
      obtain ⟨w, e2, rw2⟩ := h2.get q2
      refine ⟨⟨vs, ws, v, w, hs, hs2, e, e2⟩, fun x H2 ⟨T, y, z, ex, hT, eH, k, k2⟩ => ?_⟩
      subst ex eH
      have := k vs hs
      rw [e] at this
      cases this
      have := k2 ws hs2
      rw [e2] at this
      cases this
      exact ⟨_, pair_rep r hT rv rw2⟩
/-- enumerate, zip: of values for good -/
theorem snd_enum {ext : Bool} {a : Expr} {elts : List Expr} {k : Nat} {tpos : Pos} {x : E} {p pos : Pos} (ha : SndE M ini S a x) (hg : globB S "enumerate" = true) (hs : notStar a = true) : SndI M ini S ext (.Tuple elts k tpos) (.Call (.Name "enumerate" p) [a] [] pos) (.enum (.e x)) := by
  intro X Wx G W g H σ ρ R r rs o
  have o : M.Ok W g H ((evE M.Gam M.call x σ g).bind fun x g => match x with
    | .lst xs => Out.ok (Src.fix (enumL 0 xs)) g
    | _ => .no) (WE Wx ρ) (fun s g' W' H' => ∀ J, ItS M.C ext W' g' H' J s → R J H') := o
  refine mxI_of (pi_enum (globB_of G hg).1 (bt_of G (by decide)) (pa_cons pe_mx pa_nil (star_cons hs)) (star_cons hs)) (ha X Wx G W g H σ ρ _ r rs ((Ok.bind r o).imp fun d g1 W1 H1 _ e1 r1 o v hv => ?_))
  cases d with
  | lst xs =>
    obtain ⟨a', vs, rfl, h1, h2⟩ := rep_lst hv
    refine ⟨a', vs, rfl, .inl (r1.rd h1), ?_⟩
    rw [G.K]
    exact Ok.now r1 o _ (src_fix fun W' g' H' le _ r' i => ite_at r' (.inl (r'.rd (Rd.le le.F h1))) (RepL.le le _ _ h2) i)
  | _ => exact o.elim
theorem snd_zip {ext : Bool} {a b : Expr} {elts : List Expr} {k : Nat} {tpos : Pos} {x y : E} {p pos : Pos} (ha : SndE M ini S a x) (hb : SndE M ini S b y) (hg : globB S "zip" = true) (hs : notStar a = true) (hs2 : notStar b = true) :
    SndI M ini S ext (.Tuple elts k tpos) (.Call (.Name "zip" p) [a, b] [] pos) (.zip (.e x) (.e y)) := by
  intro X Wx G W g H σ ρ R r rs o
  have o : M.Ok W g H ((evE M.Gam M.call x σ g).bind fun x g => (evE M.Gam M.call y σ g).bind fun y g => match x, y with
    | .lst xs, .lst ys => Out.ok (Src.fix (zip2 xs ys)) g
    | .tup xs, .tup ys => .ok (.fix (zip2 xs ys)) g
    | _, _ => .no) (WE Wx ρ) (fun s g' W' H' => ∀ J, ItS M.C ext W' g' H' J s → R J H') := o
  refine mxI_of (RZ.pi_zipA (globB_of G hg).1 (bt_of G (by decide)) (pa_cons pe_mx (pa_cons pe_mx pa_nil (star_cons hs2)) (star_cons hs)) (star_cons hs) (by rw [star_cons hs2]; rfl)) (ha X Wx G W g H σ ρ _ r rs ((Ok.bind r o).imp fun d g1 W1 H1 _ e1 r1 o v hv => ?_))
  refine hb X Wx G W1 g1 H1 σ ρ _ r1 (rs.ext r e1) ((Ok.bind r1 o).imp fun d2 g2 W2 H2 _ e2 r2 o w hw => ?_)
  have hv := Rep.le e2.le _ _ hv
  cases d with
  | lst xs => cases d2 with
    | lst ys =>
      obtain ⟨a1, vs, rfl, h1, h2⟩ := rep_lst hv
      obtain ⟨a2, ws, rfl, h3, h4⟩ := rep_lst hw
      refine ⟨a1, a2, vs, ws, rfl, .inl ⟨.inl (r2.rd h1), .inl (r2.rd h3), ?_⟩⟩
      rw [G.K]
      exact Ok.now r2 o _ (src_fix fun W' g' H' le _ r' i => itz_at r' (.inl (r'.rd (Rd.le le.F h1))) (.inl (r'.rd (Rd.le le.F h3))) (RepL.le le _ _ h2) (RepL.le le _ _ h4) i)
    | _ => exact o.elim
  | tup xs => cases d2 with
    | tup ys =>
      obtain ⟨a1, vs, rfl, h1, h2⟩ := rep_tup hv
      obtain ⟨a2, ws, rfl, h3, h4⟩ := rep_tup hw
      refine ⟨a1, a2, vs, ws, rfl, .inr ⟨?_, ?_, ?_⟩⟩
      · rw [G.K]; exact r2.sqT h1
      · rw [G.K]; exact r2.sqT h3
      rw [G.K]
      exact Ok.now r2 o _ (src_fix fun W' g' H' le _ r' i => itzT_at r' (r'.sqT (SqT.le le.F h1)) (r'.sqT (SqT.le le.F h3)) (RepL.le le _ _ h2) (RepL.le le _ _ h4) i)
    | _ => exact o.elim
  | _ => exact o.elim
end
end VM

namespace VM
open PySem L2 SeqAt PyProof.Rows

/-! ### statements: where a region began, how it stands -/
structure Frm where
  W0 : Wd
  g0 : Gs
  H0 : Hp
  U : List Nat
  ρb : L2.St
  L : Wd
structure St1 (C : Ct) (F : Frm) (W : Wd) (g : Gs) (H : Hp) (σ : Sg) (ρ : L2.St) : Prop where
  r0 : RelG C F.W0 F.g0 F.H0
  ext : Ext F.W0 F.H0 F.g0 W H g
  rg : RelG C W g H
  rs : RelS C W g H σ ρ
  fr : ∀ (i : Nat) (s : SV) (a : Addr), σ[i]? = some (some s) → s.own = true → ρ[i]? = some (some (.ref a)) → F.H0 a = none
  ag : ∀ i, i ∉ F.U → ρ[i]? = F.ρb[i]?
  ln : ρ.length = F.ρb.length
  low : F.L.Le W
theorem St1.go {C : Ct} {F : Frm} {W W' : Wd} {g g' : Gs} {H H' : Hp} {σ : Sg} {ρ : L2.St} (s : St1 C F W g H σ ρ) (e : Ext W H g W' H' g') (r : RelG C W' g' H') : St1 C F W' g' H' σ ρ :=
  ⟨s.r0, s.ext.trans s.r0 e, r, s.rs.ext s.rg e, s.fr, s.ag, s.ln, s.low.trans e.le⟩
/-- what a flow asks -/
def FlE (C : Ct) (F : Frm) (Dn : Ends) (fl : Fl) (W' : Wd) (g' : Gs) (H' : Hp) (ρ' : L2.St) : Prop := match fl with
  | .nx => Dn.nx ρ' H'
  | .br => Dn.bk ρ' H'
  | .ct => Dn.ct ρ' H'
  | .ret rv => ∀ v, RetAt C W' g' F.H0 H' rv v → Dn.rt v H'
def OkS (M : Cf) (F : Frm) (Wx : WX) (o : Out R) (Dn : Ends) : Prop := match o with
  | .ok r g' => ∀ W' H' ρ', St1 M.C F W' g' H' r.2 ρ' → FlE M.C F Dn r.1 W' g' H' ρ'
  | .ex c ds g' => ∀ W' H' cls dx ρ', Ext F.W0 F.H0 F.g0 W' H' g' → RelG M.C W' g' H' → RepX M.C W' M.xf c ds H' cls dx → (∀ i, i ∉ F.U → ρ'[i]? = F.ρb[i]?) → ρ'.length = F.ρb.length → Wx cls dx ρ' H'
  | .no => False
structure GoodS (M : Cf) (ini : Nat → Option Nat) (S : Sc) (X : Cx) (Wx : WX) : Prop where
  G : Good M ini S X Wx
  st : X.stack = X.env :: X.outer
  fm : X.env.frame = some X.env.locals
  po : PassesOwn (model X.prog X.w) X.A X.env X.xe
section
variable {M : Cf} {ini : Nat → Option Nat} {S : Sc}
def SndS (M : Cf) (ini : Nat → Option Nat) (S : Sc) (st : Stmt) (x : VM.S) : Prop := ∀ X Wx, GoodS M ini S X Wx → ∀ F, (∀ i ∈ x.own, i ∈ F.U) → ∀ W g H σ ρ (Dn : Ends), St1 M.C F W g H σ ρ → OkS M F Wx (evS M.Gam M.call x σ g) Dn → mxS X st Dn ρ H
def SndSs (M : Cf) (ini : Nat → Option Nat) (S : Sc) (sts : List Stmt) (x : Ss) : Prop := ∀ X Wx, GoodS M ini S X Wx → ∀ F, (∀ i ∈ x.own, i ∈ F.U) → ∀ W g H σ ρ (Dn : Ends), St1 M.C F W g H σ ρ → OkS M F Wx (evSs M.Gam M.call x σ g) Dn → mxSs X sts Dn ρ H
/-- an expression within a statement -/
theorem OkS.bind {α : Type} {F : Frm} {Wx : WX} {W : Wd} {g : Gs} {H : Hp} {σ : Sg} {ρ : L2.St} {o : Out α} {f : α → Gs → Out R} {Dn : Ends} (s : St1 M.C F W g H σ ρ) (h : OkS M F Wx (o.bind f) Dn) :
    M.Ok W g H o (WE Wx ρ) (fun a g' W' H' => o = .ok a g' ∧ St1 M.C F W' g' H' σ ρ ∧ Ext W H g W' H' g' ∧ OkS M F Wx (f a g') Dn) := by
  cases o with
  | no => exact h
  | ok a g' => exact fun W' H' e r => ⟨rfl, s.go e r, e, h⟩
  | ex c ds g' => exact fun W' H' cls dx e r x => h W' H' cls dx ρ (s.ext.trans s.r0 e) r x s.ag s.ln
theorem OkS.ok {F : Frm} {Wx : WX} {W : Wd} {g : Gs} {H : Hp} {σ : Sg} {ρ : L2.St} {fl : Fl} {Dn : Ends} (s : St1 M.C F W g H σ ρ) (h : OkS M F Wx (.ok (fl, σ) g) Dn) : FlE M.C F Dn fl W g H ρ := h W H ρ s
theorem OkS.opt {α : Type} {F : Frm} {Wx : WX} {o : Option α} {g1 : Gs} {f : α → Gs → Out R} {Dn : Ends} (h : OkS M F Wx ((Out.opt o g1).bind f) Dn) : ∃ a, o = some a ∧ OkS M F Wx (f a g1) Dn := by
  cases o with
  | none => exact h.elim
  | some a => exact ⟨a, rfl, h⟩

/-! ### one after another -/
theorem snd_ssnil : SndSs M ini S [] .nil := fun X Wx G F _ W g H σ ρ Dn s o => mxSs_of pss_nil (OkS.ok (fl := .nx) s o)
theorem snd_sscons {st : Stmt} {sts : List Stmt} {x : VM.S} {xs : Ss} (h : SndS M ini S st x) (hs : SndSs M ini S sts xs) : SndSs M ini S (st :: sts) (.cons x xs) := by
  intro X Wx G F hU W g H σ ρ Dn s o
  have o : OkS M F Wx ((evS M.Gam M.call x σ g).bind fun r g => match r.1 with
    | .nx => evSs M.Gam M.call xs r.2 g
    | _ => .ok r g) Dn := o
  have u1 : ∀ i ∈ x.own, i ∈ F.U := fun i hi => hU i (List.mem_append_left _ hi)
  have u2 : ∀ i ∈ xs.own, i ∈ F.U := fun i hi => hU i (List.mem_append_right _ hi)
  refine mxSs_of (pss_cons ps_mx pss_mx) ?_
  show mxS X st { Dn with nx := mxSs X sts Dn } ρ H
  refine h X Wx G F u1 W g H σ ρ _ s ?_
  cases q : evS M.Gam M.call x σ g with
  | no => rw [q] at o; exact o
  | ex => rw [q] at o; exact o
  | ok r g1 =>
    rw [q] at o
    obtain ⟨fl, σ1⟩ := r
    intro W' H' ρ' s'
    cases fl with
    | nx => exact hs X Wx G F u2 W' g1 H' σ1 ρ' Dn s' o
    | br => exact o W' H' ρ' s'
    | ct => exact o W' H' ρ' s'
    | ret v => exact o W' H' ρ' s'
/-- a text as an expression statement -/
theorem snd_ssdoc {x : Str} {j : Nat} {p p2 : Pos} {sts : List Stmt} {xs : Ss} (hs : SndSs M ini S sts xs) : SndSs M ini S (.Expr (.Constant (.str x) j p) p2 :: sts) xs := by
  intro X Wx G F hU W g H σ ρ Dn s o
  exact mxSs_of (pss_cons ps_doc pss_mx) (hs X Wx G F hU W g H σ ρ Dn s o)

/-! ### small statements -/
theorem snd_pass {pos : Pos} : SndS M ini S (.Pass pos) .pass := fun X Wx G F _ W g H σ ρ Dn s o => mxS_of ps_pass (OkS.ok (fl := .nx) s o)
theorem snd_brk {pos : Pos} : SndS M ini S (.Break pos) .brk := fun X Wx G F _ W g H σ ρ Dn s o => mxS_of ps_break (OkS.ok (fl := .br) s o)
theorem snd_cnt {pos : Pos} : SndS M ini S (.Continue pos) .cnt := fun X Wx G F _ W g H σ ρ Dn s o => mxS_of ps_continue (OkS.ok (fl := .ct) s o)
theorem snd_retn {pos : Pos} : SndS M ini S (.Return none pos) .retn := fun X Wx G F _ W g H σ ρ Dn s o => mxS_of ps_retN (OkS.ok (fl := .ret (.v .non)) s o _ rfl)
theorem snd_ret {e : Expr} {x : E} {pos : Pos} (h : SndE M ini S e x) : SndS M ini S (.Return (some e) pos) (.ret x) := by
  intro X Wx G F hU W g H σ ρ Dn s o
  refine mxS_of (ps_ret pe_mx) (h X Wx G.G W g H σ ρ _ s.rg s.rs ((OkS.bind s o).imp fun d g1 W1 H1 _ e1 r1 ⟨_, s1, _, o⟩ v hv => ?_))
  exact OkS.ok (fl := .ret (.v d)) s1 o v hv
theorem snd_retf {e : Expr} {f : F} {pos : Pos} (h : SndF M ini S e f) : SndS M ini S (.Return (some e) pos) (.retf f) := by
  intro X Wx G F hU W g H σ ρ Dn s o
  refine mxS_of (ps_ret pe_mx) (h X Wx G.G W g H σ ρ _ s.rg s.rs ((OkS.bind s o).imp fun fr g1 W1 H1 _ e1 r1 ⟨_, s1, _, o⟩ a ha hf hl hc => ?_))
  exact OkS.ok (fl := .ret (.f fr)) s1 o _ ⟨a, rfl, fresh_of s.ext ha, hf, hl, hc⟩
theorem snd_exp {e : Expr} {x : E} {pos : Pos} (h : SndE M ini S e x) (hs : ∀ X : Cx, swapsWith e none pos.line X.env = pure false) : SndS M ini S (.Expr e pos) (.exp x) := by
  intro X Wx G F hU W g H σ ρ Dn s o
  refine mxS_of (ps_expr pe_mx (hs X)) (h X Wx G.G W g H σ ρ _ s.rg s.rs ((OkS.bind s o).imp fun d g1 W1 H1 _ e1 r1 ⟨_, s1, _, o⟩ v hv => ?_))
  exact OkS.ok (fl := .nx) s1 o
theorem snd_if {c : Expr} {a b : List Stmt} {t : T} {x y : Ss} {pos : Pos} (hc : SndT M ini S c t) (ha : SndSs M ini S a x) (hb : SndSs M ini S b y) : SndS M ini S (.If c a b pos) (.if_ t x y) := by
  intro X Wx G F hU W g H σ ρ Dn s o
  have u1 : ∀ i ∈ x.own, i ∈ F.U := fun i hi => hU i (List.mem_append_left _ hi)
  have u2 : ∀ i ∈ y.own, i ∈ F.U := fun i hi => hU i (List.mem_append_right _ hi)
  refine mxS_of (ps_if pt_mx pss_mx pss_mx) (hc X Wx G.G W g H σ ρ _ s.rg s.rs ((OkS.bind s o).imp fun d g1 W1 H1 _ e1 r1 ⟨_, s1, _, o⟩ => ?_))
  cases d with
  | true => exact ha X Wx G F u1 W1 g1 H1 σ ρ Dn s1 o
  | false => exact hb X Wx G F u2 W1 g1 H1 σ ρ Dn s1 o

/-! ### assignments -/
theorem noComp_swap {e : Expr} {t : Option Expr} {n : Nat} {env : Env} (h : (match e with
    | .ListComp .. => false
    | .SetComp .. => false
    | .DictComp .. => false
    | _ => true) = true) : swapsWith e t n env = pure false := by
  cases e <;> first
    | rfl
    | cases h
def noComp : Expr → Bool
  | .ListComp .. => false
  | .SetComp .. => false
  | .DictComp .. => false
  | _ => true
theorem noComp_of {e : Expr} {t : Option Expr} {n : Nat} {env : Env} (h : noComp e = true) : swapsWith e t n env = pure false := by
  cases e <;> first
    | rfl
    | cases h
mutual
theorem bindT_out {g : Gs} : ∀ {t : Tg} {σ σ' : Sg} {d : D}, bindT g σ d t = some σ' → ∀ (i : Nat) (s : SV), σ'[i]? = some (some s) → s.own = true → σ[i]? = some (some s) ∧ i ∉ t.own
  | .n j, σ, σ', d, h, i, s, hs, ho => by
    have h : fullV σ j d = some σ' := h
    rw [fullV_some h] at hs
    by_cases q : j = i
    · subst q
      by_cases hl : j < σ.length
      · rw [List.getElem?_set_self hl] at hs
        cases hs
        cases ho
      · rw [List.getElem?_eq_none (by rw [List.length_set]; omega)] at hs
        cases hs
    · rw [List.getElem?_set_ne q] at hs
      exact ⟨hs, fun z => q (List.mem_singleton.mp z).symm⟩
  | .t ts, σ, σ', d, h, i, s, hs, ho => by
    have h : (match seqT d with
      | some xs => bindTs g σ xs ts
      | none => none) = some σ' := h
    cases q : seqT d with
    | none => rw [q] at h; cases h
    | some xs => rw [q] at h; exact bindTs_out h i s hs ho
theorem bindTs_out {g : Gs} : ∀ {ts : Tgs} {σ σ' : Sg} {ds : List D}, bindTs g σ ds ts = some σ' → ∀ (i : Nat) (s : SV), σ'[i]? = some (some s) → s.own = true → σ[i]? = some (some s) ∧ i ∉ ts.own
  | .nil, σ, σ', [], h, i, s, hs, ho => by
    have h : some σ = some σ' := h
    cases h
    exact ⟨hs, fun z => nomatch z⟩
  | .nil, _, _, _ :: _, h, _, _, _, _ => by cases h
  | .cons t ts, _, _, [], h, _, _, _, _ => by cases h
  | .cons t ts, σ, σ', d :: ds, h, i, s, hs, ho => by
    have hb : (match bindT g σ d t with
      | some σ' => bindTs g σ' ds ts
      | none => none) = some σ' := h
    cases q1 : bindT g σ d t with
    | none => rw [q1] at hb; cases hb
    | some σ1 =>
      rw [q1] at hb
      obtain ⟨h1, h2⟩ := bindTs_out hb i s hs ho
      obtain ⟨h3, h4⟩ := bindT_out q1 i s h1 ho
      exact ⟨h3, fun z => (List.mem_append.mp z).elim h4 h2⟩
end
theorem St1.bind {F : Frm} {W : Wd} {g : Gs} {H : Hp} {σ σ' : Sg} {ρ ρ' : L2.St} {t : Tg} {d : D} (s : St1 M.C F W g H σ ρ) (hb : bindT g σ d t = some σ') (hU : ∀ i ∈ t.own, i ∈ F.U) (rs : RelS M.C W g H σ' ρ') (k : ∀ i, i ∉ t.own → ρ'[i]? = ρ[i]?) : St1 M.C F W g H σ' ρ' :=
  ⟨s.r0, s.ext, s.rg, rs, fun i sv a h1 h2 h3 => by
    obtain ⟨h4, h5⟩ := bindT_out hb i sv h1 h2
    rw [k i h5] at h3
    exact s.fr i sv a h4 h2 h3, fun i hi => by rw [k i fun z => hi (hU i z)]; exact s.ag i hi, by rw [← rs.len, bindT_len hb, s.rs.len]; exact s.ln, s.low⟩
theorem snd_set {tg e : Expr} {t : Tg} {x : E} {pos : Pos} (hg : SndG M ini S tg t) (he : SndE M ini S e x) (hc : noComp e = true) (hp : plainTg tg = true) (hw : ∀ env : Env, swappedStores [tg] e env = pure none) : SndS M ini S (.Assign [tg] e pos) (.set t x) := by
  intro X Wx G F hU W g H σ ρ Dn s o
  refine mxS_of (ps_asg pe_mx pg_mx (noComp_of hc) (hw _) (by rw [assign_cons hp]; rfl)) (he X Wx G.G W g H σ ρ _ s.rg s.rs ((OkS.bind s o).imp fun d g1 W1 H1 _ e1 r1 ⟨_, s1, _, o⟩ v hv => ?_))
  cases q : bindT g1 σ d t with
  | none =>
    have o : OkS M F Wx (Out.opt ((bindT g1 σ d t).map fun σ => (Fl.nx, σ)) g1) Dn := o
    rw [q] at o
    exact o.elim
  | some σ' =>
    have o : OkS M F Wx (Out.opt ((bindT g1 σ d t).map fun σ => (Fl.nx, σ)) g1) Dn := o
    rw [q] at o
    refine hg X Wx G.G W1 g1 H1 σ σ' ρ d v _ r1 s1.rs hv q fun ρ' rs' k => ?_
    exact OkS.ok (fl := .nx) (s1.bind q (fun i hi => hU i hi) rs' k) o
end
end VM

namespace VM
open PySem L2 SeqAt PyProof.Rows
section
variable {M : Cf} {ini : Nat → Option Nat} {S : Sc}
/-! ### name = a new list or dict -/
def SndA (M : Cf) (ini : Nat → Option Nat) (S : Sc) (e : Expr) (f : F) (y : Str) (py spos : Pos) (i : Nat) : Prop := ∀ X Wx, Good M ini S X Wx → ∀ W g H σ ρ (Dn : Ends), RelG M.C W g H → RelS M.C W g H σ ρ →
  M.Ok W g H (evF M.Gam M.call f σ g) (WE Wx ρ) (EndF M H (fun v H' => Dn.nx (ρ.set i (some v)) H')) → mxS X (.Assign [.Name y py] e spos) Dn ρ H
theorem snd_a {e : Expr} {f : F} {y : Str} {py spos : Pos} {i : Nat} (h : SndF M ini S e f) (hy : locB S i y = true) (hc : noComp e = true) : SndA M ini S e f y py spos i := by
  intro X Wx G W g H σ ρ Dn r rs o
  obtain ⟨h1, h2, h3⟩ := locB_of G hy
  exact mxS_of (ps_set (by rw [G.N]; exact G.nd) h1 h2 pe_mx (noComp_of hc) h3) (h X Wx G W g H σ ρ _ r rs o)
/-- does a comprehension share its line with the name it is stored in -/
def swB (S : Sc) (scope : Scope) (y : Str) (py cpos : Pos) : Bool := S.sc.names.lookup y == some .local && py.line == cpos.line && !(scope.names.any fun (n, k) => n == y && (k == .local || k == .cell))
theorem swap_comp {X : Cx} {Wx : WX} (G : Good M ini S X Wx) (hk : S.sc.kind = .function) {elt : Expr} {gs : List Comprehension} {scope : Scope} {pos py : Pos} {y : Str} {n : Nat} :
    swapsWith (.ListComp elt gs scope pos) (some (.Name y py)) n X.env = pure (swB S scope y py pos) := by
  have hb : X.env.blockKind = .function := by
    unfold Env.blockKind
    rw [G.sc, hk]
    rfl
  show (do return X.env.blockKind == .function && X.env.kindOf y == some .local && py.line == pos.line && !(scope.names.any fun (n, k) => n == y && (k == .local || k == .cell)) : Sem Bool) = _
  rw [hb]
  unfold Env.kindOf swB
  rw [G.sc]
  rfl
theorem snd_aC {elt tg iter : Expr} {ifs : List Expr} {scope : Scope} {pos : Pos} {x : E} {t : Tg} {it : Iv} {own : List Nat} {c : Ot} {nms : List Str} {y : Str} {py spos : Pos} {i : Nat} (hc : S.cm = true) (hb : blkC S.N S.sc scope (nms.zip own) = true) (hn : nms.length = own.length)
    (hi : SndI M ini S true tg iter it) (ht : SndG M ini (S.blk scope) tg t) (ho : SndOt M ini (S.blk scope) ifs c) (he : SndE M ini (S.blk scope) elt x) (hs : noSet iter = true) (hw : ∀ i ∈ t.own, i ∈ own) (hy : locB S i y = true) (hk : S.sc.kind = .function) :
    SndA M ini S (.ListComp elt [⟨tg, iter, ifs, 0⟩] scope pos) (.comp x t it own c) y py spos i := by
  intro X Wx G W g H σ ρ Dn r rs o
  obtain ⟨h1, h2, h3⟩ := locB_of G hy
  have q := comp_tlc hc hb hn hi ht ho he hs hw G r rs o
  have sw := swap_comp G hk (elt := elt) (gs := [⟨tg, iter, ifs, 0⟩]) (scope := scope) (pos := pos) (py := py) (y := y) (n := spos.line)
  rw [← own_of hn] at q
  cases z : swB S scope y py pos with
  | true =>
    rw [z] at sw
    have hl : X.env.scope.names.lookup y = some .local := by
      unfold swB at z
      simp only [Bool.and_eq_true] at z
      rw [G.sc]
      exact beq_iff_eq.mp z.1.1
    exact mxS_of (ps_setLc (g := gBlk X scope tg) (tt := ttBlk X scope ifs) (te := teBlk X scope elt) (G.calm hc) (by rw [G.N]; exact G.nd) h1 hl sw pi_mx (blk_of G hb)
      (fun s H0 C cl fp => ⟨fun pins s' σ H v u Q I r h => h s H0 C cl fp pins s' u I r⟩) (fun s H0 C cl fp => ⟨fun pins s' σ H Q I h => h s H0 C cl fp pins s' I⟩) (fun s H0 C cl fp => ⟨fun pins s' σ H Q I h => h s H0 C cl fp pins s' I⟩) (noSet_of hs)) q
  | false =>
    rw [z] at sw
    exact mxS_of (ps_set (by rw [G.N]; exact G.nd) h1 h2 (pe_lc (g := gBlk X scope tg) (tt := ttBlk X scope ifs) (te := teBlk X scope elt) (G.calm hc) (by rw [G.N]; exact G.nd) pi_mx (blk_of G hb)
      (fun s H0 C cl fp => ⟨fun pins s' σ H v u Q I r h => h s H0 C cl fp pins s' u I r⟩) (fun s H0 C cl fp => ⟨fun pins s' σ H Q I h => h s H0 C cl fp pins s' I⟩) (fun s H0 C cl fp => ⟨fun pins s' σ H Q I h => h s H0 C cl fp pins s' I⟩) (noSet_of hs)) sw h3) q
/-- a slot gets a thing of its own -/
theorem RelS.putO {C : Ct} {W : Wd} {g : Gs} {H1 : Hp} {σ : Sg} {ρ : L2.St} {i : Nat} {s : SV} {a : Addr} (h : RelS C W g H1 σ ρ) (hs : SlotAt C W H1 s (.ref a)) (hl : ¬ Live W g a) (hf : ∀ (j : Nat) (t : SV), j ≠ i → σ[j]? = some (some t) → t.own = true → ρ[j]? ≠ some (some (.ref a))) : RelS C W g H1 (σ.set i (some s)) (ρ.set i (some (.ref a))) where
  len := by rw [List.length_set, List.length_set]; exact h.len
  at_ := fun j t ht => by
    by_cases q : i = j
    · subst q
      by_cases hi : i < σ.length
      · rw [List.getElem?_set_self hi] at ht
        cases ht
        exact ⟨.ref a, List.getElem?_set_self (by rw [← h.len]; exact hi), hs⟩
      · rw [List.getElem?_eq_none (by rw [List.length_set]; omega)] at ht
        cases ht
    · rw [List.getElem?_set_ne q] at ht ⊢
      exact h.at_ j t ht
  apart := fun j t b ht ho hr => by
    by_cases q : i = j
    · subst q
      by_cases hi : i < σ.length
      · rw [List.getElem?_set_self (by rw [← h.len]; exact hi)] at hr
        cases hr
        refine ⟨hl, fun k u hk ho' hkr => ?_⟩
        by_cases q2 : i = k
        · exact q2
        · rw [List.getElem?_set_ne q2] at hk hkr
          exact absurd hkr (hf k u (Ne.symm q2) hk ho')
      · rw [List.getElem?_eq_none (by rw [List.length_set]; omega)] at ht
        cases ht
    · rw [List.getElem?_set_ne q] at ht hr
      obtain ⟨n, u⟩ := h.apart j t b ht ho hr
      refine ⟨n, fun k v hk ho' hkr => ?_⟩
      by_cases q2 : i = k
      · subst q2
        by_cases hi : i < σ.length
        · rw [List.getElem?_set_self (by rw [← h.len]; exact hi)] at hkr
          cases hkr
          exact absurd hr (hf j t (Ne.symm q) ht ho)
        · rw [List.getElem?_eq_none (by rw [List.length_set]; omega)] at hk
          cases hk
      · rw [List.getElem?_set_ne q2] at hk hkr
        exact u k v hk ho' hkr
theorem fr_slot {C : Ct} {W : Wd} {H : Hp} {fr : Fr} {a : Addr} (hf : W.F a = none) (hc : CellAt C W H a fr.cell) : SlotAt C W H fr.sv (.ref a) := by
  cases fr with
  | l xs => exact ⟨a, rfl, hf, hc⟩
  | d ks vs => exact ⟨a, rfl, hf, hc⟩
theorem fr_own {fr : Fr} : fr.sv.own = true := by cases fr <;> rfl
/-- own slots' things are tracked -/
theorem own_some {C : Ct} {W : Wd} {g : Gs} {H : Hp} {σ : Sg} {ρ : L2.St} (h : RelS C W g H σ ρ) {j : Nat} {t : SV} {a : Addr} (ht : σ[j]? = some (some t)) (ho : t.own = true) (hr : ρ[j]? = some (some (.ref a))) : H a ≠ none := by
  obtain ⟨v, e1, e2⟩ := h.at_ j t ht
  rw [hr] at e1
  cases e1
  obtain ⟨b, e3, _, e4⟩ := e2.ref ho
  cases e3
  exact e4
theorem St1.putO {C : Ct} {F : Frm} {W W1 : Wd} {g g1 : Gs} {H H1 : Hp} {σ : Sg} {ρ : L2.St} {i : Nat} {fr : Fr} {a : Addr} (s : St1 C F W g H σ ρ) (s1 : St1 C F W1 g1 H1 σ ρ) (hi : i ∈ F.U) (ha : H a = none) (hf : W1.F a = none) (hl : ¬ Live W1 g1 a) (hc : CellAt C W1 H1 a fr.cell) :
    St1 C F W1 g1 H1 (σ.set i (some fr.sv)) (ρ.set i (some (.ref a))) where
  r0 := s.r0
  ext := s1.ext
  rg := s1.rg
  rs := s1.rs.putO (fr_slot hf hc) hl fun j t _ ht ho hr => own_some s.rs ht ho hr ha
  fr := fun j t b ht ho hr => by
    by_cases q : i = j
    · subst q
      by_cases hl : i < σ.length
      · rw [List.getElem?_set_self (by rw [← s.rs.len]; exact hl)] at hr
        cases hr
        exact fresh_of s.ext ha
      · rw [List.getElem?_eq_none (by rw [List.length_set]; omega)] at ht
        cases ht
    · rw [List.getElem?_set_ne q] at ht hr
      exact s.fr j t b ht ho hr
  ag := fun j hj => by rw [List.getElem?_set_ne fun z => hj (by rw [← z]; exact hi)]; exact s.ag j hj
  ln := by rw [List.length_set]; exact s.ln
  low := s1.low
theorem St1.putV {C : Ct} {F : Frm} {W : Wd} {g : Gs} {H : Hp} {σ : Sg} {ρ : L2.St} {i : Nat} {d : D} {v : V} (s : St1 C F W g H σ ρ) (hi : i ∈ F.U) (hv : Rep C W d v) : St1 C F W g H (σ.set i (some (.val d))) (ρ.set i (some v)) where
  r0 := s.r0
  ext := s.ext
  rg := s.rg
  rs := s.rs.put hv
  fr := fun j t b ht ho hr => by
    by_cases q : i = j
    · subst q
      by_cases hl : i < σ.length
      · rw [List.getElem?_set_self hl] at ht
        cases ht
        cases ho
      · rw [List.getElem?_eq_none (by rw [List.length_set]; omega)] at ht
        cases ht
    · rw [List.getElem?_set_ne q] at ht hr
      exact s.fr j t b ht ho hr
  ag := fun j hj => by rw [List.getElem?_set_ne fun z => hj (by rw [← z]; exact hi)]; exact s.ag j hj
  ln := by rw [List.length_set]; exact s.ln
  low := s.low
theorem snd_setm {e : Expr} {f : F} {y : Str} {py spos : Pos} {i : Nat} (h : SndA M ini S e f y py spos i) : SndS M ini S (.Assign [.Name y py] e spos) (.setm i f) := by
  intro X Wx G F hU W g H σ ρ Dn s o
  have hi : i ∈ F.U := hU i (List.mem_singleton.mpr rfl)
  refine h X Wx G.G W g H σ ρ Dn s.rg s.rs ((OkS.bind s o).imp fun fr g1 W1 H1 _ e1 r1 ⟨_, s1, _, o⟩ a ha hf hl hc => ?_)
  have o : OkS M F Wx (match σ[i]? with
    | some _ => nx (σ.set i (some fr.sv)) g1
    | none => .no) Dn := o
  cases q : σ[i]? with
  | none => rw [q] at o; exact o.elim
  | some z =>
    rw [q] at o
    exact OkS.ok (fl := .nx) (s.putO s1 hi ha hf hl hc) o
end
end VM

namespace VM
open PySem L2 SeqAt PyProof.Rows
section
variable {M : Cf} {ini : Nat → Option Nat} {S : Sc}
theorem fullV_set {σ : Sg} {i : Nat} {d : D} {σ' : Sg} (h : fullV σ i d = some σ') : σ' = σ.set i (some (.val d)) := fullV_some h
/-- name = a list that stays as it is; name = a new list of the store -/
theorem snd_setfz {e : Expr} {f : F} {y : Str} {py spos : Pos} {i : Nat} (h : SndA M ini S e f y py spos i) : SndS M ini S (.Assign [.Name y py] e spos) (.set (.n i) (.fz f)) := by
  intro X Wx G F hU W g H σ ρ Dn s o
  have hi : i ∈ F.U := hU i (List.mem_singleton.mpr rfl)
  have o : OkS M F Wx (((evF M.Gam M.call f σ g).bind fun r g => .ok (r.dI g.next) (r.gI g)).bind fun x g => Out.opt ((fullV σ i x).map fun σ => (Fl.nx, σ)) g) Dn := o
  cases q : evF M.Gam M.call f σ g with
  | no => rw [q] at o; exact o.elim
  | ex cc ds g' =>
    rw [q] at o
    exact h X Wx G.G W g H σ ρ Dn s.rg s.rs (by rw [q]; exact fun W' H' cls dx e r x => o W' H' cls dx ρ (s.ext.trans s.r0 e) r x s.ag s.ln)
  | ok fr g1 =>
    rw [q] at o
    have o : OkS M F Wx (Out.opt ((fullV σ i (fr.dI g1.next)).map fun σ => (Fl.nx, σ)) (fr.gI g1)) Dn := o
    refine h X Wx G.G W g H σ ρ Dn s.rg s.rs ?_
    rw [q]
    intro W1 H1 e1 r1 a ha hf hl hc
    obtain ⟨u, hu, hr⟩ := fr_rep hc
    obtain ⟨e2, r2⟩ := frozen s.rg e1 r1 ha hf hl hu
    have step : ∃ W', Ext W H g W' H1 (fr.gI g1) ∧ RelG M.C W' (fr.gI g1) H1 ∧ Rep M.C W' (fr.dI g1.next) (.ref a) := by
      cases fr with
      | l xs => exact ⟨_, e2, r2, hr hf⟩
      | d ks vs =>
        obtain ⟨e3, r3⟩ := named e2 r2 ha (cell_some (C := M.C) (W := W1) hu)
        exact ⟨_, e3, r3, dI_rep (fr := .d ks vs) (Rep.le (r2.le_nam (Nat.le_refl _)) _ _ (hr hf)) nam_at⟩
    obtain ⟨W', e3, r3, hv⟩ := step
    cases q2 : fullV σ i (fr.dI g1.next) with
    | none => rw [q2] at o; exact o.elim
    | some σ' =>
      rw [q2] at o
      have o : OkS M F Wx (.ok (.nx, σ') (fr.gI g1)) Dn := o
      rw [fullV_some q2] at o
      exact OkS.ok (fl := .nx) ((s.go e3 r3).putV hi hv) o
theorem snd_setng {e : Expr} {f : F} {y : Str} {py spos : Pos} {i : Nat} (h : SndA M ini S e f y py spos i) : SndS M ini S (.Assign [.Name y py] e spos) (.set (.n i) (.ng f)) := by
  intro X Wx G F hU W g H σ ρ Dn s o
  have hi : i ∈ F.U := hU i (List.mem_singleton.mpr rfl)
  have o : OkS M F Wx (((evF M.Gam M.call f σ g).bind fun r g => .ok (.glo g.next) (g.new r.cell)).bind fun x g => Out.opt ((fullV σ i x).map fun σ => (Fl.nx, σ)) g) Dn := o
  cases q : evF M.Gam M.call f σ g with
  | no => rw [q] at o; exact o.elim
  | ex cc ds g' =>
    rw [q] at o
    exact h X Wx G.G W g H σ ρ Dn s.rg s.rs (by rw [q]; exact fun W' H' cls dx e r x => o W' H' cls dx ρ (s.ext.trans s.r0 e) r x s.ag s.ln)
  | ok fr g1 =>
    rw [q] at o
    have o : OkS M F Wx (Out.opt ((fullV σ i (.glo g1.next)).map fun σ => (Fl.nx, σ)) (g1.new fr.cell)) Dn := o
    refine h X Wx G.G W g H σ ρ Dn s.rg s.rs ?_
    rw [q]
    intro W1 H1 e1 r1 a ha hf hl hc
    obtain ⟨e2, r2⟩ := stored s.rg e1 r1 ha hf hl hc
    cases q2 : fullV σ i (.glo g1.next) with
    | none => rw [q2] at o; exact o.elim
    | some σ' =>
      rw [q2] at o
      have o : OkS M F Wx (.ok (.nx, σ') (g1.new fr.cell)) Dn := o
      rw [fullV_some q2] at o
      exact OkS.ok (fl := .nx) ((s.go e2 r2).putV (d := .glo g1.next) hi (by rw [Rep.eq_9]; exact ⟨a, if_pos rfl, rfl⟩)) o

/-! ### one's own list is frozen, returned -/
/-- the world changes, the slots stay but for i -/
theorem RelS.swap {C : Ct} {W W' : Wd} {g g' : Gs} {H : Hp} {σ : Sg} {ρ : L2.St} {i : Nat} {d : D} {v : V} (h : RelS C W g H σ ρ) (le : W.Le W') (hv : ρ[i]? = some (some v)) (rv : Rep C W' d v)
    (own : ∀ (j : Nat) (t : SV) (b : Addr), j ≠ i → σ[j]? = some (some t) → t.own = true → ρ[j]? = some (some (.ref b)) → ¬ Live W' g' b ∧ W'.F b = none) : RelS C W' g' H (σ.set i (some (.val d))) ρ where
  len := by rw [List.length_set]; exact h.len
  at_ := fun j t ht => by
    by_cases q : i = j
    · subst q
      by_cases hi : i < σ.length
      · rw [List.getElem?_set_self hi] at ht
        cases ht
        exact ⟨v, hv, rv⟩
      · rw [List.getElem?_eq_none (by rw [List.length_set]; omega)] at ht
        cases ht
    · rw [List.getElem?_set_ne q] at ht
      obtain ⟨w, e1, e2⟩ := h.at_ j t ht
      refine ⟨w, e1, ?_⟩
      cases t with
      | val d => exact Rep.le le d w e2
      | xc => trivial
      | ml xs =>
        obtain ⟨b, rfl, f, c⟩ := e2
        exact ⟨b, rfl, (own j _ b (Ne.symm q) ht rfl e1).2, c.le le rfl⟩
      | md ks vs =>
        obtain ⟨b, rfl, f, c⟩ := e2
        exact ⟨b, rfl, (own j _ b (Ne.symm q) ht rfl e1).2, c.le le rfl⟩
      | mi c fs vs =>
        obtain ⟨b, rfl, f, c⟩ := e2
        exact ⟨b, rfl, (own j _ b (Ne.symm q) ht rfl e1).2, c.le le rfl⟩
  apart := fun j t b ht ho hr => by
    have key : ∀ k (u : SV), (σ.set i (some (.val d)))[k]? = some (some u) → u.own = true → k ≠ i ∧ σ[k]? = some (some u) := fun k u hk hu => by
      by_cases q : i = k
      · subst q
        by_cases hi : i < σ.length
        · rw [List.getElem?_set_self hi] at hk
          cases hk
          cases hu
        · rw [List.getElem?_eq_none (by rw [List.length_set]; omega)] at hk
          cases hk
      · rw [List.getElem?_set_ne q] at hk
        exact ⟨Ne.symm q, hk⟩
    obtain ⟨k1, k2⟩ := key j t ht ho
    obtain ⟨_, u⟩ := h.apart j t b k2 ho hr
    exact ⟨(own j t b k1 k2 ho hr).1, fun k w hk hw hkr => u k w (key k w hk hw).2 hw hkr⟩
theorem St1.frz {C : Ct} {F : Frm} {W : Wd} {g : Gs} {H : Hp} {σ : Sg} {ρ : L2.St} {i : Nat} {fr : Fr} (s : St1 C F W g H σ ρ) (hs : σ[i]? = some (some fr.sv)) : ∃ W', St1 C F W' g H (σ.set i (some (.val fr.d0))) ρ := by
  obtain ⟨v, e1, e2⟩ := s.rs.at_ i _ hs
  obtain ⟨a, rfl, hf, hsome⟩ := e2.ref fr_own
  have hc : CellAt C W H a fr.cell := by
    cases fr with
    | l xs => obtain ⟨b, e3, _, c⟩ := e2; cases e3; exact c
    | d ks vs => obtain ⟨b, e3, _, c⟩ := e2; cases e3; exact c
  have hl := (s.rs.apart i _ a hs fr_own e1).1
  have hu := (s.rs.apart i _ a hs fr_own e1).2
  obtain ⟨u, hu1, hr⟩ := fr_rep hc
  obtain ⟨e3, r3⟩ := frozen s.r0 s.ext s.rg (s.fr i _ a hs fr_own e1) hf hl hu1
  refine ⟨W.put a u, s.r0, e3, r3, s.rs.swap (Wd.le_put hf) e1 (hr hf) fun j t b hj ht ho hr => ?_, fun j t b ht ho hr => ?_, s.ag, s.ln, s.low.trans (Wd.le_put hf)⟩
  · have nb : b ≠ a := fun z => hj (hu j t ht ho (by rw [hr, z])).symm
    refine ⟨(s.rs.apart j t b ht ho hr).1, ?_⟩
    obtain ⟨w, k1, k2⟩ := s.rs.at_ j t ht
    rw [hr] at k1
    cases k1
    obtain ⟨b', k3, k4, _⟩ := k2.ref ho
    cases k3
    show upd W.F a u b = none
    rw [upd_ne nb]
    exact k4
  · by_cases q : i = j
    · subst q
      by_cases hi : i < σ.length
      · rw [List.getElem?_set_self hi] at ht
        cases ht
        cases ho
      · rw [List.getElem?_eq_none (by rw [List.length_set]; omega)] at ht
        cases ht
    · rw [List.getElem?_set_ne q] at ht
      exact s.fr j t b ht ho hr
theorem snd_ssfrz {sts : List Stmt} {xs : Ss} {i : Nat} (h : SndSs M ini S sts xs) : SndSs M ini S sts (.cons (.frz i) xs) := by
  intro X Wx G F hU W g H σ ρ Dn s o
  have u2 : ∀ i ∈ xs.own, i ∈ F.U := fun i hi => hU i (List.mem_append_right _ hi)
  have o : OkS M F Wx ((match σ[i]? with
    | some (some (.ml xs)) => nx (σ.set i (some (.val (.lst xs)))) g
    | some (some (.md ks vs)) => nx (σ.set i (some (.val (.dct 0 ks vs)))) g
    | some (some (.val _)) => nx σ g
    | _ => .no : Out R).bind fun r g => match r.1 with
    | .nx => evSs M.Gam M.call xs r.2 g
    | _ => .ok r g) Dn := o
  split at o
  · rename_i ys hq
    obtain ⟨W', s'⟩ := s.frz (fr := .l ys) hq
    exact h X Wx G F u2 W' g H _ ρ Dn s' o
  · rename_i ks vs hq
    obtain ⟨W', s'⟩ := s.frz (fr := .d ks vs) hq
    exact h X Wx G F u2 W' g H _ ρ Dn s' o
  · exact h X Wx G F u2 W g H σ ρ Dn s o
  · exact o.elim
theorem RelS.wipe1 {C : Ct} {W : Wd} {g : Gs} {H : Hp} {σ : Sg} {ρ : L2.St} {i : Nat} (h : RelS C W g H σ ρ) : RelS C W g H (σ.set i none) ρ := by
  have := RelS.less (vs := [i]) (ρ' := ρ) h rfl fun _ _ => rfl
  exact this
theorem St1.wipe1 {C : Ct} {F : Frm} {W : Wd} {g : Gs} {H : Hp} {σ : Sg} {ρ : L2.St} {i : Nat} (s : St1 C F W g H σ ρ) : St1 C F W g H (σ.set i none) ρ :=
  ⟨s.r0, s.ext, s.rg, s.rs.wipe1, fun j t b ht ho hr => by
    have : (wipeS σ [i])[j]? = some (some t) := ht
    obtain ⟨h1, _⟩ := wipeS_some this
    exact s.fr j t b h1 ho hr, s.ag, s.ln, s.low⟩
theorem snd_retm {i : Nat} {x : Str} {p pos : Pos} (h : visB S i x = true) : SndS M ini S (.Return (some (.Name x p)) pos) (.retm i) := by
  intro X Wx G F hU W g H σ ρ Dn s o
  obtain ⟨h1, h2, h3, h4⟩ := visB_of G.G h
  have key : ∀ {fr : Fr}, σ[i]? = some (some fr.sv) → OkS M F Wx (.ok (.ret (.f fr), σ.set i none) g) Dn → mxS X (.Return (some (.Name x p)) pos) Dn ρ H := fun {fr} hs o => by
    obtain ⟨v, e1, e2⟩ := s.rs.at_ i _ hs
    obtain ⟨a, rfl, hf, hsome⟩ := e2.ref fr_own
    have hc : CellAt M.C W H a fr.cell := by
      cases fr with
      | l xs => obtain ⟨b, e3, _, c⟩ := e2; cases e3; exact c
      | d ks vs => obtain ⟨b, e3, _, c⟩ := e2; cases e3; exact c
    refine mxS_of (ps_ret (pe_var h1 h2 h3 h4)) ⟨.ref a, e1, ?_⟩
    exact OkS.ok (fl := .ret (.f fr)) s.wipe1 o _ ⟨a, rfl, s.fr i _ a hs fr_own e1, hf, (s.rs.apart i _ a hs fr_own e1).1, hc⟩
  have o : OkS M F Wx (match σ[i]? with
    | some (some (.ml xs)) => .ok (.ret (.f (.l xs)), σ.set i none) g
    | some (some (.md ks vs)) => .ok (.ret (.f (.d ks vs)), σ.set i none) g
    | _ => .no) Dn := o
  split at o
  · rename_i ys hq
    exact key (fr := .l ys) hq o
  · rename_i ks vs hq
    exact key (fr := .d ks vs) hq o
  · exact o.elim
/-- a list of the store is frozen -/
theorem St1.fzg {C : Ct} {F : Frm} {W : Wd} {g : Gs} {H : Hp} {σ : Sg} {ρ : L2.St} {i n : Nat} {fr : Fr} (s : St1 C F W g H σ ρ) (hs : σ[i]? = some (some (.val (.glo n)))) (hc : g.cell n = some fr.cell) : ∃ W', St1 C F W' (g.drop n) H (σ.set i (some (.val fr.d0))) ρ := by
  obtain ⟨v, e1, e2⟩ := s.rs.at_ i _ hs
  obtain ⟨a, hphi, rfl⟩ := rep_glo (C := C) e2
  obtain ⟨b, k1, hf, hcell⟩ := s.rg.cell n _ hc
  rw [hphi] at k1
  cases k1
  obtain ⟨u, hu1, hr⟩ := fr_rep hcell
  have la : Live W g a := ⟨n, (by rw [hc]; exact fun z => nomatch z), hphi⟩
  have cn : ∀ m, m ≠ n → (g.drop n).cell m = g.cell m := fun m hm => if_neg hm
  have c0 : (g.drop n).cell n = none := if_pos rfl
  have le1 : W.Le (W.put a u) := Wd.le_put hf
  have rel : RelG C (W.put a u) (g.drop n) H := by
    refine ⟨fun b v hv => ?_, fun m c hm => ?_, fun m k b h1 h2 h3 h4 => ?_, fun m hm => ?_, s.rg.there⟩
    · have hv : upd W.F a u b = some v := hv
      by_cases q : b = a
      · subst q
        rw [upd_same] at hv
        cases hv
        exact .inl hu1
      · rw [upd_ne q] at hv
        exact s.rg.le b v hv
    · have q : m ≠ n := fun z => by rw [z, c0] at hm; cases hm
      rw [cn m q] at hm
      obtain ⟨b, j1, j2, j3⟩ := s.rg.cell m c hm
      have nb : b ≠ a := fun z => q (s.rg.inj m n a (by rw [hm]; exact fun z => nomatch z) (by rw [hc]; exact fun z => nomatch z) (by rw [← z]; exact j1) hphi)
      exact ⟨b, j1, by show upd W.F a u b = none; rw [upd_ne nb]; exact j2, j3.le le1 rfl⟩
    · have q1 : m ≠ n := fun z => h1 (by rw [z]; exact c0)
      have q2 : k ≠ n := fun z => h2 (by rw [z]; exact c0)
      rw [cn m q1] at h1
      rw [cn k q2] at h2
      exact s.rg.inj m k b h1 h2 h3 h4
    · have h : g.next ≤ m := hm
      have q : m ≠ n := fun z => by
        have := (s.rg.fresh m h).1
        rw [z, hc] at this
        cases this
      rw [cn m q]
      exact s.rg.fresh m h
  have ext : Ext F.W0 F.H0 F.g0 (W.put a u) H (g.drop n) := by
    refine ⟨s.ext.le.trans le1, fun b hb hn => ?_, s.ext.phif, s.ext.keep, s.ext.there, s.ext.nx, fun m h1 h2 => ?_⟩
    · show upd W.F a u b = F.W0.F b
      have nb : b ≠ a := fun z => by
        subst z
        exact hn (s.ext.live s.r0 hb la)
      rw [upd_ne nb]
      exact s.ext.Ff b hb hn
    · by_cases q : m = n
      · rw [q]; exact c0
      · rw [cn m q]; exact s.ext.dead m h1 h2
  refine ⟨W.put a u, s.r0, ext, rel, s.rs.swap le1 e1 (hr hf) fun j t b hj ht ho hr => ?_, fun j t b ht ho hr => ?_, s.ag, s.ln, s.low.trans le1⟩
  · have nl := (s.rs.apart j t b ht ho hr).1
    have nb : b ≠ a := fun z => nl (by rw [z]; exact la)
    obtain ⟨w, k1, k2⟩ := s.rs.at_ j t ht
    rw [hr] at k1
    cases k1
    obtain ⟨b', k3, k4, _⟩ := k2.ref ho
    cases k3
    refine ⟨fun ⟨m, h1, h2⟩ => nl ⟨m, fun z => h1 (by
      by_cases q : m = n
      · rw [q]; exact c0
      · rw [cn m q]; exact z), h2⟩, ?_⟩
    show upd W.F a u b = none
    rw [upd_ne nb]
    exact k4
  · by_cases q : i = j
    · subst q
      by_cases hi : i < σ.length
      · rw [List.getElem?_set_self hi] at ht
        cases ht
        cases ho
      · rw [List.getElem?_eq_none (by rw [List.length_set]; omega)] at ht
        cases ht
    · rw [List.getElem?_set_ne q] at ht
      exact s.fr j t b ht ho hr
theorem snd_ssfzg {sts : List Stmt} {xs : Ss} {i : Nat} (h : SndSs M ini S sts xs) : SndSs M ini S sts (.cons (.fzg i) xs) := by
  intro X Wx G F hU W g H σ ρ Dn s o
  have u2 : ∀ i ∈ xs.own, i ∈ F.U := fun i hi => hU i (List.mem_append_right _ hi)
  have o : OkS M F Wx ((match getV σ i with
    | some (.glo n) => match g.cell n with
      | some (.lst xs) => nx (σ.set i (some (.val (.lst xs)))) (g.drop n)
      | some (.dct ks vs) => nx (σ.set i (some (.val (.dct 0 ks vs)))) (g.drop n)
      | _ => .no
    | _ => .no : Out R).bind fun r g => match r.1 with
    | .nx => evSs M.Gam M.call xs r.2 g
    | _ => .ok r g) Dn := o
  split at o
  · rename_i n hq
    split at o
    · rename_i ys hc
      obtain ⟨W', s'⟩ := s.fzg (fr := .l ys) (getV_some hq) hc
      exact h X Wx G F u2 W' _ H _ ρ Dn s' o
    · rename_i ks vs hc
      obtain ⟨W', s'⟩ := s.fzg (fr := .d ks vs) (getV_some hq) hc
      exact h X Wx G F u2 W' _ H _ ρ Dn s' o
    · exact o.elim
  · exact o.elim
end
end VM

namespace VM
open PySem L2 SeqAt PyProof.Rows
section
variable {M : Cf} {ini : Nat → Option Nat} {S : Sc}
/-! ### a thing of one's own is changed -/
theorem St1.mutO {C : Ct} {F : Frm} {W : Wd} {g : Gs} {H : Hp} {σ : Sg} {ρ : L2.St} {i : Nat} {s0 s1 : SV} {a : Addr} {o : HO} (s : St1 C F W g H σ ρ) (hs : σ[i]? = some (some s0)) (h0 : s0.own = true) (h1 : s1.own = true) (hr : ρ[i]? = some (some (.ref a)))
    (hc : SlotAt C W (upd H a o) s1 (.ref a)) : St1 C F W g (upd H a o) (σ.set i (some s1)) ρ := by
  have hl := (s.rs.apart i _ a hs h0 hr).1
  have hu := (s.rs.apart i _ a hs h0 hr).2
  obtain ⟨v, e1, e2⟩ := s.rs.at_ i _ hs
  rw [hr] at e1
  cases e1
  obtain ⟨a', ea, hf, hsome⟩ := e2.ref h0
  cases ea
  have get : ∀ (j : Nat) (t : SV), (σ.set i (some s1))[j]? = some (some t) → (i = j ∧ t = s1) ∨ (i ≠ j ∧ σ[j]? = some (some t)) := fun j t ht => by
    by_cases q : i = j
    · subst q
      by_cases hi : i < σ.length
      · rw [List.getElem?_set_self hi] at ht
        cases ht
        exact .inl ⟨rfl, rfl⟩
      · rw [List.getElem?_eq_none (by rw [List.length_set]; omega)] at ht
        cases ht
    · rw [List.getElem?_set_ne q] at ht
      exact .inr ⟨q, ht⟩
  refine ⟨s.r0, s.ext.mut (s.fr i _ a hs h0 hr), s.rg.mut hf hl, ⟨by rw [List.length_set]; exact s.rs.len, fun j t ht => ?_, fun j t b ht ho hb => ?_⟩, fun j t b ht ho hb => ?_, s.ag, s.ln, s.low⟩
  · rcases get j t ht with ⟨rfl, rfl⟩ | ⟨q, ht⟩
    · exact ⟨.ref a, hr, hc⟩
    · obtain ⟨w, k1, k2⟩ := s.rs.at_ j t ht
      refine ⟨w, k1, ?_⟩
      have ne : ∀ b, t.own = true → w = .ref b → b ≠ a := fun b ho e z => q (hu j t ht ho (by rw [k1, e, z]))
      cases t with
      | val d => exact k2
      | xc => trivial
      | ml xs =>
        obtain ⟨b, rfl, f, c⟩ := k2
        exact ⟨b, rfl, f, c.le .refl (upd_ne (ne b rfl rfl))⟩
      | md ks vs =>
        obtain ⟨b, rfl, f, c⟩ := k2
        exact ⟨b, rfl, f, c.le .refl (upd_ne (ne b rfl rfl))⟩
      | mi c fs vs =>
        obtain ⟨b, rfl, f, c⟩ := k2
        exact ⟨b, rfl, f, c.le .refl (upd_ne (ne b rfl rfl))⟩
  · have old : ∃ t', σ[j]? = some (some t') ∧ t'.own = true := by
      rcases get j t ht with ⟨rfl, rfl⟩ | ⟨q, ht⟩
      · exact ⟨s0, hs, h0⟩
      · exact ⟨t, ht, ho⟩
    obtain ⟨t', h2, h3⟩ := old
    obtain ⟨n, u⟩ := s.rs.apart j t' b h2 h3 hb
    refine ⟨n, fun k w hk hw hkr => ?_⟩
    rcases get k w hk with ⟨rfl, rfl⟩ | ⟨q, hk⟩
    · exact u _ s0 hs h0 hkr
    · exact u k w hk hw hkr
  · rcases get j t ht with ⟨rfl, rfl⟩ | ⟨q, ht⟩
    · exact s.fr _ s0 b hs h0 hb
    · exact s.fr j t b ht ho hb
/-- a cell of the store is changed -/
theorem cell_put {C : Ct} {W : Wd} {g : Gs} {H : Hp} {n : Nat} {a : Addr} {c c0 : Cell} {o : HO} (r : RelG C W g H) (hc0 : g.cell n = some c0) (hphi : W.phi n = some a) (hc : CellAt C W (upd H a o) a c) :
    Ext W H g W (upd H a o) (g.set n c) ∧ RelG C W (g.set n c) (upd H a o) := by
  obtain ⟨b, k1, hf, hcell⟩ := r.cell n _ hc0
  rw [hphi] at k1
  cases k1
  have la : Live W g a := ⟨n, (by rw [hc0]; exact fun z => nomatch z), hphi⟩
  have cn : ∀ m, m ≠ n → (g.set n c).cell m = g.cell m := fun m hm => if_neg hm
  have c1 : (g.set n c).cell n = some c := if_pos rfl
  refine ⟨⟨.refl, fun _ _ _ => rfl, (fun m b h1 h2 => by rw [h1] at h2; cases h2), (fun b hb hn => upd_ne fun z => hn (by rw [z]; exact la)), fun b hb => ?_, Nat.le_refl _, fun m _ h => ?_⟩, fun b v hv => ?_, fun m d hm => ?_, fun m k b h1 h2 h3 h4 => ?_, fun m hm => ?_, fun m b h => ?_⟩
  · by_cases q : b = a
    · rw [q, upd_same]; exact fun z => nomatch z
    · rw [upd_ne q]; exact hb
  · have q : m ≠ n := fun z => by rw [z, hc0] at h; cases h
    rw [cn m q]; exact h
  · have q : b ≠ a := fun z => by rw [z, hf] at hv; cases hv
    rw [upd_ne q]
    exact r.le b v hv
  · by_cases q : m = n
    · subst q
      rw [c1] at hm
      cases hm
      exact ⟨a, hphi, hf, hc⟩
    · rw [cn m q] at hm
      obtain ⟨b, j1, j2, j3⟩ := r.cell m d hm
      have nb : b ≠ a := fun z => q (r.inj m n a (by rw [hm]; exact fun z => nomatch z) (by rw [hc0]; exact fun z => nomatch z) (by rw [← z]; exact j1) hphi)
      exact ⟨b, j1, j2, j3.le .refl (upd_ne nb)⟩
  · have f : ∀ m, (g.set n c).cell m ≠ none → g.cell m ≠ none := fun m h => by
      by_cases q : m = n
      · rw [q, hc0]; exact fun z => nomatch z
      · rw [cn m q] at h; exact h
    exact r.inj m k b (f m h1) (f k h2) h3 h4
  · have h : g.next ≤ m := hm
    have q : m ≠ n := fun z => by
      have := (r.fresh m h).1
      rw [z, hc0] at this
      cases this
    rw [cn m q]
    exact r.fresh m h
  · by_cases q : b = a
    · rw [q, upd_same]; exact fun z => nomatch z
    · rw [upd_ne q]; exact r.there m b h
/-! ### append, insert -/
def mmN : Mm → Str
  | .append => "append"
  | .insert => "insert"
  | .extend => "extend"
  | _ => ""
/-- a list method that changes the list, by data -/
def rM (C : Ct) (m : Mm) : V → List V → Hp → VK → Prop := fun x vs H2 Q => ∃ xs ds g ys l ws W, (∀ (b : Addr) (us : List V), Rd W.F b (.lst us) → Rd H2 b (.lst us)) ∧ mutL m ds g xs = some ys ∧ x = .ref l ∧ H2 l = some (.lst ws) ∧ RepL C W xs ws ∧ RepL C W ds vs ∧ ∀ zs, RepL C W ys zs → Q .non (upd H2 l (.lst zs))
theorem one_rep {C : Ct} {W : Wd} {d : D} {vs : List V} (h : RepL C W [d] vs) : ∃ v, vs = [v] ∧ Rep C W d v := by
  obtain ⟨v, r, rfl, h1, h2⟩ := h.uncons
  exact ⟨v, by rw [h2.nil_eq], h1⟩
theorem mt_app {X : Cx} {C : Ct} : MtR X "list.append" (rM C .append) := by
  intro pins s σ H x vs v us Q I rx rv ⟨xs, ds, g, ys, l, ws, W, hrd, hm, ex, hl, h1, h2, q⟩
  refine mt_append pins s σ H x vs v us Q I rx rv ?_
  unfold mutL at hm
  split at hm
  · rename_i d _
    split at hm
    · rename_i hz
      cases hm
      obtain ⟨w, rfl, hw⟩ := one_rep h2
      exact ⟨l, ws, w, ex, rfl, hl, by rw [h1.length]; exact szM' hz, q _ (h1.append (.cons hw .nil))⟩
    · cases hm
  · rename_i hq
    cases hq
  · rename_i hq
    cases hq
  · cases hm
theorem mt_ins {X : Cx} {C : Ct} : MtR X "list.insert" (rM C .insert) := by
  intro pins s σ H x vs v us Q I rx rv ⟨xs, ds, g, ys, l, ws, W, hrd, hm, ex, hl, h1, h2, q⟩
  refine mt_insert pins s σ H x vs v us Q I rx rv ?_
  unfold mutL at hm
  split at hm
  · rename_i hq
    cases hq
  · rename_i hq
    cases hq
  · rename_i i d _
    split at hm
    · rename_i hz
      cases hm
      obtain ⟨w, r, rfl, hw, h3⟩ := h2.uncons
      obtain ⟨w2, rfl, hw2⟩ := one_rep h3
      have hlen := szM' hz.1
      have : sizeLine = 16777216 := sizeLine_eq
      exact ⟨l, ws, i, w2, ex, by rw [rep_int hw], hl, by rw [h1.length]; exact hlen, hz.2.1, by omega, q _ (((h1.take _).append (.cons hw2 .nil)).append (h1.drop _))⟩
    · cases hm
  · cases hm
theorem mt_ext {X : Cx} {C : Ct} : MtR X "list.extend" (rM C .extend) := by
  intro pins s σ H x vs v us Q I rx rv ⟨xs, ds, g, ys, l, ws, W, hrd, hm, ex, hH, h1, h2, q⟩
  subst ex
  unfold mutL at hm
  split at hm
  · rename_i hq
    cases hq
  · rename_i zs _
    split at hm
    · rename_i hz
      cases hm
      obtain ⟨w, rfl, hw⟩ := one_rep h2
      obtain ⟨b, vz, rfl, hb, hz2⟩ := rep_lst hw
      cases rx
      obtain ⟨u, rfl, ru⟩ := rv.one
      cases ru
      obtain ⟨z, its, n, r, hl, e⟩ := I.lstM hH
      obtain ⟨z2, its2, n2, r2, e2⟩ := (hrd _ _ hb).ok I.hok
      have hl2 := r2.length
      have l1 := h1.length
      have l2 := hz2.length
      have hlen := szM (show xs.length + zs.length ≤ sizeM from hz)
      have hsz : its.toArray.size + its2.toArray.size ≤ sizeLine := by rw [List.size_toArray, List.size_toArray]; omega
      have hlong : ¬ (!its.toArray.isEmpty && Builtin.List.listTooLong (its.toArray.size + its2.toArray.size)) = true := by
        rw [notLongL hsz, Bool.and_false]
        exact Bool.false_ne_true
      refine call_meets PySem.F.slot_list_extend ⟨_, e, rfl⟩ PySem.F.entry_list_extend (PySem.F.args_list_extend_2 _ _)
        (AutoSeq1.list_extend_list_list_0 l its.toArray n b its2.toArray n2 hlong (by rw [List.size_toArray]; omega) (by omega)) ⟨e, e2, ?_⟩
      refine ⟨.non, _, I.lset (its' := its ++ its2) hH e (by simp) (r.append r2) ?_, rfl, q _ (h1.append hz2)⟩
      rw [List.length_append]
      omega
    · cases hm
  · rename_i hq
    cases hq
  · cases hm
theorem mut_bm {X : Cx} {m : Mm} {o e : Expr} {es : List Expr} {to : TE} {t : TA} {apos cpos : Pos} {C : Ct} (hm : m = .append ∨ m = .insert ∨ m = .extend) (ho : PE X o to) (ha : PA X (e :: es) t) (hb : attributeBase o (mmN m) X.env (eval o X.env) = eval o X.env)
    (hs : (e :: es).all notStar = true) (hn : (e :: es).length < 30) (hline : (apos.endLine == cpos.line) = true) :
    PE X (.Call (.Attribute o (mmN m) apos) (e :: es) [] cpos) (tBM X.K "list" (rM C m) to t) := by
  have few : ((backTo cpos (starEach (e :: es) X.env)).all (fun x => !x.1) && (backToKw cpos (keywordEach [] X.env)).all (fun x => x.1.isSome)
      && decide ((e :: es).length + ([] : List Keyword).length + (if ([] : List Keyword).isEmpty then 0 else 1) < 30)) = true := by
    rw [(stars_ok hs).2]
    show decide ((e :: es).length + 0 + 0 < 30) = true
    exact decide_eq_true (by omega)
  have hs' := hs
  rw [List.all_cons, Bool.and_eq_true] at hs'
  rcases hm with rfl | rfl | rfl
  · exact pe_bm PySem.F.plainAttrs_list PySem.F.slot_list_append PySem.F.type_list_append mt_app ho ha hb few hline (star_cons hs'.1) (stars_ok hs'.2).1
  · exact pe_bm PySem.F.plainAttrs_list PySem.F.slot_list_insert PySem.F.type_list_insert mt_ins ho ha hb few hline (star_cons hs'.1) (stars_ok hs'.2).1
  · exact pe_bm PySem.F.plainAttrs_list PySem.F.slot_list_extend PySem.F.type_list_extend mt_ext ho ha hb few hline (star_cons hs'.1) (stars_ok hs'.2).1
def callNoComp : Expr → Bool
  | .Call .. => true
  | _ => false
theorem snd_mutM {m : Mm} {k : Nat} {x : Str} {e : Expr} {es : List Expr} {xs : Es} {p apos cpos pos : Pos} (hm : m = .append ∨ m = .insert ∨ m = .extend) (hx : visB S k x = true) (ha : SndEs M ini S (e :: es) xs) (hs : (e :: es).all notStar = true) (hn : (e :: es).length < 30) (hline : (apos.endLine == cpos.line) = true) :
    SndS M ini S (.Expr (.Call (.Attribute (.Name x p) (mmN m) apos) (e :: es) [] cpos) pos) (.mut (.m k) m xs) := by
  intro X Wx G F hU W g H σ ρ Dn s o
  have o : OkS M F Wx (match σ[k]? with
    | some (some (.ml xs1)) => (evEs M.Gam M.call xs σ g).bind fun ds g => match mutL m ds g xs1 with
      | some ys => nx (σ.set k (some (.ml ys))) g
      | none => .no
    | _ => .no) Dn := o
  obtain ⟨h1, h2, h3, h4⟩ := visB_of G.G hx
  split at o
  · rename_i xs1 hk
    obtain ⟨v, e1, a, rfl, hf, hc⟩ := s.rs.at_ k _ hk
    have hl := (s.rs.apart k _ a hk rfl e1).1
    obtain ⟨ws, c1, c2⟩ := id hc
    refine mxS_of (ps_expr (mut_bm (C := M.C) hm (pe_var h1 h2 h3 h4) pa_mx (base_of rfl) hs hn hline) (noComp_of rfl)) ⟨.ref a, e1, .inl ⟨rfl, ws, .inl (.inl c1)⟩, ?_⟩
    refine ha X Wx G.G W g H σ ρ _ s.rg s.rs ((OkS.bind s o).imp fun ds g1 W1 H1 _ e2 r1 ⟨_, s1, _, o⟩ vs hvs => ?_)
    cases q : mutL m ds g1 xs1 with
    | none => rw [q] at o; exact o.elim
    | some ys =>
      rw [q] at o
      have o : OkS M F Wx (.ok (.nx, σ.set k (some (.ml ys))) g1) Dn := o
      obtain ⟨ws1, c3, c4⟩ := hc.leE e2 hl
      refine ⟨xs1, ds, g1, ys, a, ws1, W1, fun _ _ z => r1.rd z, q, rfl, c3, c4, hvs, fun zs hz => ?_⟩
      have hf1 : W1.F a = none := (e2.Ff a hc.some hl).trans hf
      exact OkS.ok (fl := .nx) (s1.mutO (s1 := .ml ys) (o := .lst zs) hk rfl rfl e1 ⟨a, rfl, hf1, zs, upd_same, hz⟩) o
  · exact o.elim
theorem snd_mutE {m : Mm} {o' : Expr} {y : E} {e : Expr} {es : List Expr} {xs : Es} {apos cpos pos : Pos} (hm : m = .append ∨ m = .insert ∨ m = .extend) (hy : SndE M ini S o' y) (hb : plainBase o' = true) (ha : SndEs M ini S (e :: es) xs) (hs : (e :: es).all notStar = true) (hn : (e :: es).length < 30) (hline : (apos.endLine == cpos.line) = true) :
    SndS M ini S (.Expr (.Call (.Attribute o' (mmN m) apos) (e :: es) [] cpos) pos) (.mut (.e y) m xs) := by
  intro X Wx G F hU W g H σ ρ Dn s o
  have o : OkS M F Wx ((evE M.Gam M.call y σ g).bind fun y g => match y with
      | .glo n => match g.cell n with
        | some (.lst _) => (evEs M.Gam M.call xs σ g).bind fun ds g => match g.cell n with
          | some (.lst xs) => match mutL m ds g xs with
            | some ys => nx σ (g.set n (.lst ys))
            | none => .no
          | _ => .no
        | _ => .no
      | _ => .no) Dn := o
  refine mxS_of (ps_expr (mut_bm (C := M.C) hm pe_mx pa_mx (base_of hb) hs hn hline) (noComp_of rfl)) ?_
  refine hy X Wx G.G W g H σ ρ _ s.rg s.rs ((OkS.bind s o).imp fun d g1 W1 H1 _ e1 r1 ⟨_, s1, _, o⟩ v hv => ?_)
  cases d with
  | glo n =>
    have o : OkS M F Wx (match g1.cell n with
        | some (.lst _) => (evEs M.Gam M.call xs σ g1).bind fun ds g => match g.cell n with
          | some (.lst xs) => match mutL m ds g xs with
            | some ys => nx σ (g.set n (.lst ys))
            | none => .no
          | _ => .no
        | _ => .no) Dn := o
    split at o
    · rename_i l0 hc0
      obtain ⟨a, rfl, hphi, _, ws0, k1, _⟩ := glo_cell r1 (.inl hv) hc0
      refine ⟨.inl ⟨rfl, ws0, .inl (.inl k1)⟩, ?_⟩
      refine ha X Wx G.G W1 g1 H1 σ ρ _ r1 s1.rs ((OkS.bind s1 o).imp fun ds g2 W2 H2 _ e2 r2 ⟨_, s2, _, o⟩ vs hvs => ?_)
      have o : OkS M F Wx (match g2.cell n with
          | some (.lst xs) => match mutL m ds g2 xs with
            | some ys => nx σ (g2.set n (.lst ys))
            | none => .no
          | _ => .no) Dn := o
      split at o
      · rename_i xs1 hc1
        have hphi2 := e2.le.phi _ _ hphi
        obtain ⟨b, j1, j2, ws, j3, j4⟩ := r2.cell n _ hc1
        rw [hphi2] at j1
        cases j1
        cases q : mutL m ds g2 xs1 with
        | none => rw [q] at o; exact o.elim
        | some ys =>
          rw [q] at o
          have o : OkS M F Wx (.ok (.nx, σ) (g2.set n (.lst ys))) Dn := o
          refine ⟨xs1, ds, g2, ys, a, ws, W2, fun _ _ z => r2.rd z, q, rfl, j3, j4, hvs, fun zs hz => ?_⟩
          obtain ⟨e5, r5⟩ := cell_put (c := .lst ys) (o := .lst zs) r2 hc1 hphi2 ⟨zs, upd_same, hz⟩
          exact OkS.ok (fl := .nx) (s2.go e5 r5) o
      · exact o.elim
    · exact o.elim
  | _ => exact o.elim
end
end VM

namespace VM
open PySem L2 SeqAt PyProof.Rows
section
variable {M : Cf} {ini : Nat → Option Nat} {S : Sc}
/-! ### o[i] = v -/
theorem swap_sub {e o i : Expr} {p : Pos} {n : Nat} {env : Env} : swapsWithSole [.Subscript o i p] e n env = pure false := by
  cases e <;> rfl
theorem stores_sub {e o i : Expr} {p : Pos} {env : Env} : swappedStores [.Subscript o i p] e env = pure none := by
  cases e <;> rfl
theorem pset_or {X : Cx} {t u : TSet} (h : PSet X t) (k : PSet X u) : PSet X (fun o i v H Q => t o i v H Q ∨ u o i v H Q) := by
  intro pins s σ H o i v ov iv w Q I ro ri rv q
  rcases q with q | q
  · exact h pins s σ H o i v ov iv w Q I ro ri rv q
  · exact k pins s σ H o i v ov iv w Q I ro ri rv q
theorem ixN_in {n : Nat} {k : Int} (h0 : 0 ≤ k) (h1 : k < n) : L2.ixN n k = some k.toNat := by
  unfold L2.ixN
  rw [if_pos h0, if_pos h1]
theorem setAll_rep {C : Ct} {W : Wd} {κ : Key} {x : D} {w : V} (hx : Rep C W x w) : ∀ {kvs : List (Key × V)} {ds : List D}, RepL C W ds (kvs.map (·.2)) →
    RepL C W (setAll (kD κ) x (kvs.map fun p => kD p.1) ds) ((kvs.map (fun kv => if kv.1 = κ then (kv.1, w) else kv)).map (·.2))
  | [], ds, h => by
    rw [List.map_nil] at h
    cases ds with
    | nil => exact h
    | cons d ds => rw [RepL.eq_2] at h; obtain ⟨_, _, e, _⟩ := h; cases e
  | p :: r, [], h => by rw [List.map_cons, RepL.eq_1] at h; cases h
  | p :: r, d :: ds, h => by
    obtain ⟨v, vs, e, h1, h2⟩ := h.uncons
    rw [List.map_cons] at e
    cases e
    rw [List.map_cons, List.map_cons, List.map_cons]
    unfold setAll
    rw [keyB_key]
    by_cases q : p.1 = κ
    · rw [decide_eq_true q, if_pos rfl, if_pos q]
      exact .cons hx (setAll_rep hx h2)
    · rw [decide_eq_false q, if_neg Bool.false_ne_true, if_neg q]
      exact .cons h1 (setAll_rep hx h2)
theorem any_key {κ : Key} {kvs : List (Key × V)} : (kvs.map fun p => kD p.1).any (fun y => keyB y (kD κ)) = kvs.any fun kv => decide (kv.1 = κ) := by
  rw [List.any_map]
  congr 1
  funext p
  exact keyB_key _ _
theorem put_rep {C : Ct} {W : Wd} {k x : D} {ks ds : List D} {q : List D × List D} {kvs : List (Key × V)} {w : V} (e : putD k x ks ds = some q) (hk : ks = kvs.map fun p => kD p.1) (hd : RepL C W ds (kvs.map (·.2))) (hx : Rep C W x w) :
    ∃ κ, k = kD κ ∧ kvs.length < sizeLine ∧ q.1 = (putK kvs κ w).map (fun p => kD p.1) ∧ RepL C W q.2 ((putK kvs κ w).map (·.2)) := by
  unfold putD at e
  split at e
  · rename_i h
    obtain ⟨κ, _, rfl⟩ := keyK_of h.1
    subst hk
    refine ⟨κ, rfl, by have := szM' h.2; rw [List.length_map] at this; exact this, ?_⟩
    cases e
    unfold putK
    rw [any_key]
    by_cases z : (kvs.any fun kv => decide (kv.1 = κ)) = true
    · rw [if_pos z, if_pos z]
      refine ⟨?_, setAll_rep hx hd⟩
      rw [List.map_map]
      refine List.map_congr_left fun p _ => ?_
      show kD p.1 = kD (if p.1 = κ then (p.1, w) else p).1
      split <;> rfl
    · rw [if_neg z, if_neg z]
      refine ⟨by rw [List.map_append]; rfl, ?_⟩
      rw [List.map_append]
      exact hd.append (.cons hx .nil)
  · cases e
abbrev rSet : TSet := fun o i v H Q => rSetL o i v H Q ∨ rSetD o i v H Q
theorem ps_seti {X : Cx} (hu : Big X) {o i e : Expr} (hx : plainIx i = true) {to ti te : TE} {p pos : Pos} (he : PE X e te) (ho : PE X o to) (hi : PE X i ti) : PS X (.Assign [.Subscript o i p] e pos) (tAsg te (gSub to ti rSet)) :=
  ps_asg he (pg_sub ho hi (pset_or set_list (set_dict (bigU hu))) (by intro v; cases i <;> first | rfl | cases hx)) swap_sub stores_sub rfl
theorem snd_setiM {k : Nat} {x : Str} {i e : Expr} {y z : E} {p p2 pos : Pos} (hx : visB S k x = true) (hi : SndE M ini S i y) (he : SndE M ini S e z) (hpx : plainIx i = true) : SndS M ini S (.Assign [.Subscript (.Name x p) i p2] e pos) (.seti (.m k) y z) := by
  intro X Wx G F hU W g H σ ρ Dn s o
  obtain ⟨h1, h2, h3, h4⟩ := visB_of G.G hx
  have o : OkS M F Wx (match σ[k]? with
      | some (some (.ml xs)) => (evE M.Gam M.call z σ g).bind fun x g => (evE M.Gam M.call y σ g).bind fun j g => match setI xs j x with
        | some ys => nx (σ.set k (some (.ml ys))) g
        | none => .no
      | some (some (.md ks vs)) => (evE M.Gam M.call z σ g).bind fun x g => (evE M.Gam M.call y σ g).bind fun j g => match putD j x ks vs with
        | some q => nx (σ.set k (some (.md q.1 q.2))) g
        | none => .no
      | _ => .no) Dn := o
  refine mxS_of (ps_seti G.G.big hpx pe_mx (pe_var h1 h2 h3 h4) pe_mx) ?_
  split at o
  · rename_i xs hk
    obtain ⟨v, e1, a, rfl, hf, hc⟩ := s.rs.at_ k _ hk
    have hl := (s.rs.apart k _ a hk rfl e1).1
    refine he X Wx G.G W g H σ ρ _ s.rg s.rs ((OkS.bind s o).imp fun d g1 W1 H1 _ e2 r1 ⟨_, s1, _, o⟩ u hu => ?_)
    refine ⟨.ref a, e1, ?_⟩
    refine hi X Wx G.G W1 g1 H1 σ ρ _ r1 s1.rs ((OkS.bind s1 o).imp fun j g2 W2 H2 _ e3 r2 ⟨_, s2, _, o⟩ w hw => ?_)
    have e23 := e2.trans s.rg e3
    have hc2 := hc.leE e23 hl
    obtain ⟨ws, c3, c4⟩ := id hc2
    have hf2 : W2.F a = none := (e23.Ff a hc.some hl).trans hf
    cases j with
    | int n =>
      have o : OkS M F Wx (match (if 0 ≤ n ∧ n < xs.length then some (xs.set n.toNat d) else none) with
        | some ys => nx (σ.set k (some (.ml ys))) g2
        | none => .no) Dn := o
      split at o
      · rename_i ys hy
        split at hy
        · rename_i hn
          cases hy
          rw [rep_int hw]
          refine .inl ⟨a, ws, n, n.toNat, rfl, rfl, c3, ixN_in hn.1 (by rw [c4.length]; exact hn.2), ?_⟩
          exact OkS.ok (fl := .nx) (s2.mutO (s1 := .ml (xs.set n.toNat d)) (o := .lst (ws.set n.toNat u)) hk rfl rfl e1 ⟨a, rfl, hf2, _, upd_same, c4.set _ (Rep.le e3.le _ _ hu)⟩) o
        · cases hy
      · exact o.elim
    | _ => exact o.elim
  · rename_i ks vs hk
    obtain ⟨v, e1, a, rfl, hf, hc⟩ := s.rs.at_ k _ hk
    have hl := (s.rs.apart k _ a hk rfl e1).1
    refine he X Wx G.G W g H σ ρ _ s.rg s.rs ((OkS.bind s o).imp fun d g1 W1 H1 _ e2 r1 ⟨_, s1, _, o⟩ u hu => ?_)
    refine ⟨.ref a, e1, ?_⟩
    refine hi X Wx G.G W1 g1 H1 σ ρ _ r1 s1.rs ((OkS.bind s1 o).imp fun j g2 W2 H2 _ e3 r2 ⟨_, s2, _, o⟩ w hw => ?_)
    have e23 := e2.trans s.rg e3
    have hc2 := hc.leE e23 hl
    obtain ⟨kvs, c3, c4, c5⟩ := id hc2
    have hf2 : W2.F a = none := (e23.Ff a hc.some hl).trans hf
    cases qp : putD j d ks vs with
    | none => rw [qp] at o; exact o.elim
    | some q =>
      rw [qp] at o
      obtain ⟨κ, rfl, k1, k2, k3⟩ := put_rep qp c4 c5 (Rep.le e3.le _ _ hu)
      rw [key_rep hw]
      refine .inr ⟨a, _, rfl, .inl ⟨kvs, κ, c3, rfl, k1, rfl⟩, ?_⟩
      exact OkS.ok (fl := .nx) (s2.mutO (s1 := .md q.1 q.2) (o := .dK (putK kvs κ u)) hk rfl rfl e1 ⟨a, rfl, hf2, _, upd_same, k2, k3⟩) o
  · exact o.elim
theorem snd_setiE {o' i e : Expr} {x y z : E} {p2 pos : Pos} (hx : SndE M ini S o' x) (hi : SndE M ini S i y) (he : SndE M ini S e z) (hpx : plainIx i = true) : SndS M ini S (.Assign [.Subscript o' i p2] e pos) (.seti (.e x) y z) := by
  intro X Wx G F hU W g H σ ρ Dn s o
  have o : OkS M F Wx ((evE M.Gam M.call z σ g).bind fun x1 g => (evE M.Gam M.call x σ g).bind fun y1 g => (evE M.Gam M.call y σ g).bind fun j g => match y1 with
      | .glo n => match g.cell n with
        | some (.lst xs) => match setI xs j x1 with
          | some ys => nx σ (g.set n (.lst ys))
          | none => .no
        | some (.dct ks vs) => match putD j x1 ks vs with
          | some q => nx σ (g.set n (.dct q.1 q.2))
          | none => .no
        | _ => .no
      | _ => .no) Dn := o
  refine mxS_of (ps_seti G.G.big hpx pe_mx pe_mx pe_mx) ?_
  refine he X Wx G.G W g H σ ρ _ s.rg s.rs ((OkS.bind s o).imp fun d g1 W1 H1 _ e1 r1 ⟨_, s1, _, o⟩ u hu => ?_)
  refine hx X Wx G.G W1 g1 H1 σ ρ _ r1 s1.rs ((OkS.bind s1 o).imp fun b g2 W2 H2 _ e2 r2 ⟨_, s2, _, o⟩ v hv => ?_)
  refine hi X Wx G.G W2 g2 H2 σ ρ _ r2 s2.rs ((OkS.bind s2 o).imp fun j g3 W3 H3 _ e3 r3 ⟨_, s3, _, o⟩ w hw => ?_)
  have hu3 := Rep.le (e2.le.trans e3.le) _ _ hu
  have hv3 := Rep.le e3.le _ _ hv
  cases b with
  | glo n =>
    have o : OkS M F Wx (match g3.cell n with
        | some (.lst xs) => match setI xs j d with
          | some ys => nx σ (g3.set n (.lst ys))
          | none => .no
        | some (.dct ks vs) => match putD j d ks vs with
          | some q => nx σ (g3.set n (.dct q.1 q.2))
          | none => .no
        | _ => .no) Dn := o
    split at o
    · rename_i xs hc
      obtain ⟨a, rfl, hphi, _, ws, c3, c4⟩ := glo_cell r3 (.inl hv3) hc
      cases j with
      | int m =>
        have o : OkS M F Wx (match (if 0 ≤ m ∧ m < xs.length then some (xs.set m.toNat d) else none) with
          | some ys => nx σ (g3.set n (.lst ys))
          | none => .no) Dn := o
        split at o
        · rename_i ys hy
          split at hy
          · rename_i hn
            cases hy
            rw [rep_int hw]
            refine .inl ⟨a, ws, m, m.toNat, rfl, rfl, c3, ixN_in hn.1 (by rw [c4.length]; exact hn.2), ?_⟩
            obtain ⟨e5, r5⟩ := cell_put (c := .lst (xs.set m.toNat d)) (o := .lst (ws.set m.toNat u)) r3 hc hphi ⟨_, upd_same, c4.set _ hu3⟩
            exact OkS.ok (fl := .nx) (s3.go e5 r5) o
          · cases hy
        · exact o.elim
      | _ => exact o.elim
    · rename_i ks vs hc
      obtain ⟨a, rfl, hphi, _, kvs, c3, c4, c5⟩ := glo_cell r3 (.inl hv3) hc
      cases qp : putD j d ks vs with
      | none => rw [qp] at o; exact o.elim
      | some q =>
        rw [qp] at o
        have oq : OkS M F Wx (.ok (.nx, σ) (g3.set n (.dct q.1 q.2))) Dn := o
        obtain ⟨κ, rfl, k1, k2, k3⟩ := put_rep qp c4 c5 hu3
        rw [key_rep hw]
        refine .inr ⟨a, _, rfl, .inl ⟨kvs, κ, c3, rfl, k1, rfl⟩, ?_⟩
        obtain ⟨e5, r5⟩ := cell_put (c := .dct q.1 q.2) (o := .dK (putK kvs κ u)) r3 hc hphi ⟨_, upd_same, k2, k3⟩
        exact OkS.ok (fl := .nx) (s3.go e5 r5) oq
    · exact o.elim
  | _ => exact o.elim
end
end VM

namespace VM
open PySem L2 SeqAt PyProof.Rows
section
variable {M : Cf} {ini : Nat → Option Nat} {S : Sc}
/-! ### loops -/
theorem St1.up {C : Ct} {F : Frm} {W W1 : Wd} {g : Gs} {H : Hp} {σ : Sg} {ρ : L2.St} (l : F.L.Le W1) (s : St1 C { F with L := W1 } W g H σ ρ) : St1 C F W g H σ ρ := ⟨s.r0, s.ext, s.rg, s.rs, s.fr, s.ag, s.ln, l.trans s.low⟩
theorem St1.down {C : Ct} {F : Frm} {W W1 : Wd} {g : Gs} {H : Hp} {σ : Sg} {ρ : L2.St} (s : St1 C F W g H σ ρ) (l : W1.Le W) : St1 C { F with L := W1 } W g H σ ρ := ⟨s.r0, s.ext, s.rg, s.rs, s.fr, s.ag, s.ln, l⟩
theorem flE_up {C : Ct} {F : Frm} {Dn : Ends} {fl : Fl} {W1 W' : Wd} {g' : Gs} {H' : Hp} {ρ' : L2.St} (h : FlE C F Dn fl W' g' H' ρ') : FlE C { F with L := W1 } Dn fl W' g' H' ρ' := by
  cases fl <;> exact h
/-- a loop's body: on, out, or away -/
theorem okS_turn {F : Frm} {W1 : Wd} {Wx : WX} {o : Out R} {Dn Dn' : Ends} {k : Fl × Sg → Gs → Out R} (l : F.L.Le W1) (h : OkS M F Wx (o.bind fun r g => match r.1 with
      | .nx => k r g
      | .ct => k r g
      | .br => .ok (.nx, r.2) g
      | .ret v => .ok (.ret v, r.2) g) Dn)
    (hn : ∀ fl σ' g' W' H' ρ', o = .ok (fl, σ') g' → (fl = .nx ∨ fl = .ct) → St1 M.C { F with L := W1 } W' g' H' σ' ρ' → OkS M F Wx (k (fl, σ') g') Dn → Dn'.nx ρ' H' ∧ Dn'.ct ρ' H') (hb : Dn'.bk = Dn.nx) (hr : Dn'.rt = Dn.rt) : OkS M { F with L := W1 } Wx o Dn' := by
  cases o with
  | no => exact h
  | ex => exact h
  | ok r g' =>
    obtain ⟨fl, σ'⟩ := r
    intro W' H' ρ' s
    cases fl with
    | nx => exact (hn _ σ' g' W' H' ρ' rfl (.inl rfl) s h).1
    | ct => exact (hn _ σ' g' W' H' ρ' rfl (.inr rfl) s h).2
    | br =>
      show Dn'.bk ρ' H'
      rw [hb]
      exact OkS.ok (fl := .nx) (s.up l) h
    | ret v =>
      show ∀ w, RetAt M.C W' g' F.H0 H' v w → Dn'.rt w H'
      rw [hr]
      exact OkS.ok (fl := .ret v) (s.up l) h
theorem snd_for {tg iter : Expr} {body : List Stmt} {t : Tg} {it : Iv} {b : Ss} {pos : Pos} (hi : SndI M ini S false tg iter it) (ht : SndG M ini S tg t) (hb : SndSs M ini S body b) (hs : noSet iter = true) (hc : S.cm = true) : SndS M ini S (.For tg iter body [] pos) (.for_ t it b) := by
  intro X Wx G F hU W g H σ ρ Dn s o
  have u1 : ∀ i ∈ t.own, i ∈ F.U := fun i hi => hU i (List.mem_append_left _ hi)
  have u2 : ∀ i ∈ b.own, i ∈ F.U := fun i hi => hU i (List.mem_append_right _ hi)
  refine mxS_of (ps_for G.po (G.G.calm hc) pi_mx pg_mx pss_mx (noSet_of hs)) ?_
  refine hi X Wx G.G W g H σ ρ _ s.rg s.rs ((OkS.bind s o).imp fun src g1 W1 H1 _ e1 r1 ⟨_, s1, _, o1⟩ J hJ => ?_)
  refine ⟨fun i m ρ' H' => ∃ W' g' σ', St1 M.C { F with L := W1 } W' g' H' σ' ρ' ∧ OkS M F Wx (loopI (fun σ g => evSs M.Gam M.call b σ g) t src m i σ' g') Dn, ⟨src.fuel, W1, g1, σ, s1.down .refl, o1⟩, ?_⟩
  rintro i m ρ' H' ⟨W', g', σ', s', o'⟩
  cases m with
  | zero => exact o'.elim
  | succ m =>
    have hj := hJ W' g' H' s'.low (fun z => nomatch z) s'.rg i
    have o' : OkS M F Wx (match src.at i g' with
      | none => .no
      | some none => .ok (.nx, σ') g'
      | some (some x) => match bindT g' σ' x t with
        | none => .no
        | some σ => (evSs M.Gam M.call b σ g').bind fun r g => match r.1 with
          | .nx => loopI (fun σ g => evSs M.Gam M.call b σ g) t src m (i + 1) r.2 g
          | .ct => loopI (fun σ g => evSs M.Gam M.call b σ g) t src m (i + 1) r.2 g
          | .br => .ok (.nx, r.2) g
          | .ret v => .ok (.ret v, r.2) g) Dn := o'
    cases qs : src.at i g' with
    | none => rw [qs] at o'; exact o'.elim
    | some od =>
      rw [qs] at o' hj
      cases od with
      | none => exact .inl ⟨hj, OkS.ok (fl := .nx) (s'.up s1.low) o'⟩
      | some d =>
        obtain ⟨hgo, hy⟩ := hj
        refine .inr ⟨hgo, fun ρ2 H2 => ∃ W' g' σ', St1 M.C { F with L := W1 } W' g' H2 σ' ρ2 ∧ OkS M F Wx (loopI (fun σ g => evSs M.Gam M.call b σ g) t src m (i + 1) σ' g') Dn, fun ρ2 H2 h => ⟨m, Nat.lt_succ_self m, h⟩, fun x0 H2 y2 => ?_⟩
        obtain ⟨W2, e2, r2, hv⟩ := hy x0 H2 y2
        have s2 := s'.go e2 r2
        have o' : OkS M F Wx (match bindT g' σ' d t with
          | none => .no
          | some σ => (evSs M.Gam M.call b σ g').bind fun r g => match r.1 with
            | .nx => loopI (fun σ g => evSs M.Gam M.call b σ g) t src m (i + 1) r.2 g
            | .ct => loopI (fun σ g => evSs M.Gam M.call b σ g) t src m (i + 1) r.2 g
            | .br => .ok (.nx, r.2) g
            | .ret v => .ok (.ret v, r.2) g) Dn := o'
        cases qb : bindT g' σ' d t with
        | none => rw [qb] at o'; exact o'.elim
        | some σ1 =>
          rw [qb] at o'
          refine ht X Wx G.G W2 g' H2 σ' σ1 ρ' d x0 _ r2 s2.rs hv qb fun ρ3 rs3 k3 => ?_
          have s3 := s2.bind qb u1 rs3 k3
          refine hb X Wx G { F with L := W1 } u2 W2 g' H2 σ1 ρ3 _ s3 ?_
          refine okS_turn (k := fun r g => loopI (fun σ g => evSs M.Gam M.call b σ g) t src m (i + 1) r.2 g) s1.low o' (fun fl σ4 g4 W4 H4 ρ4 _ _ s4 o4 => ?_) rfl rfl
          exact ⟨⟨W4, g4, σ4, s4, o4⟩, ⟨W4, g4, σ4, s4, o4⟩⟩
end
end VM

namespace VM
open PySem L2 SeqAt PyProof.Rows
section
variable {M : Cf} {ini : Nat → Option Nat} {S : Sc}
/-! ### self.f = e, in the __init__ of a class whose instances don't change -/
theorem putF_rep {C : Ct} {W : Wd} {f : Nat} {d : D} {v : V} (hv : Rep C W d v) : ∀ {fs : List Nat} {ds : List D} {vs : List V}, fs.length = ds.length → RepL C W ds vs →
    ∃ vs', L2.putF (C.fld f) v ((fs.map C.fld).zip vs) = (((putF f d fs ds).1.map C.fld).zip vs') ∧ (putF f d fs ds).1.length = (putF f d fs ds).2.length ∧ RepL C W (putF f d fs ds).2 vs'
  | [], [], vs, _, h => by
    rw [h.nil_eq]
    exact ⟨[v], rfl, rfl, .cons hv .nil⟩
  | [], _ :: _, _, hl, _ => by cases hl
  | _ :: _, [], _, hl, _ => by cases hl
  | x :: xs, y :: ys, vs, hl, h => by
    obtain ⟨w, r, rfl, h1, h2⟩ := h.uncons
    have hl : xs.length = ys.length := by simpa using hl
    show ∃ vs', (if C.fld x = C.fld f then (C.fld x, v) :: ((xs.map C.fld).zip r) else (C.fld x, w) :: L2.putF (C.fld f) v ((xs.map C.fld).zip r)) = _ ∧ _ ∧ _
    by_cases q : x = f
    · have e : putF f d (x :: xs) (y :: ys) = (x :: xs, d :: ys) := by
        show (if x = f then (x :: xs, d :: ys) else _) = _
        rw [if_pos q]
      rw [e, if_pos (by rw [q])]
      exact ⟨v :: r, rfl, by simpa using hl, .cons hv h2⟩
    · have e : putF f d (x :: xs) (y :: ys) = (x :: (putF f d xs ys).1, y :: (putF f d xs ys).2) := by
        show (if x = f then (x :: xs, d :: ys) else _) = _
        rw [if_neg q]
      rw [e, if_neg (fun z => q (C.inj _ _ z))]
      obtain ⟨vs', k1, k2, k3⟩ := putF_rep hv hl h2
      exact ⟨w :: vs', by rw [k1]; rfl, by simpa using k2, .cons h1 k3⟩
theorem swap_att {e o : Expr} {f : Str} {p : Pos} {n : Nat} {env : Env} : swapsWith e (some (.Attribute o f p)) n env = pure false := by
  cases e <;> rfl
theorem snd_setam {i f : Nat} {x n : Str} {e : Expr} {y : E} {p p2 pos : Pos} (hx : visB S i x = true) (hn : n = M.C.fld f) (hf : f ∈ M.flds) (he : SndE M ini S e y) : SndS M ini S (.Assign [.Attribute (.Name x p) n p2] e pos) (.setam i f y) := by
  intro X Wx G F hU W g H σ ρ Dn s o
  subst hn
  obtain ⟨h1, h2, h3, h4⟩ := visB_of G.G hx
  have o : OkS M F Wx (match σ[i]? with
    | some (some (.mi c fs vs)) => if fs.length < 900 then (evE M.Gam M.call y σ g).bind fun x g => nx (σ.set i (some (.mi c (putF f x fs vs).1 (putF f x fs vs).2))) g else .no
    | _ => .no) Dn := o
  split at o
  · rename_i c fs ds hk
    split at o
    · rename_i hlen
      obtain ⟨v, e1, a, rfl, hf0, hc⟩ := s.rs.at_ i _ hk
      have hl := (s.rs.apart i _ a hk rfl e1).1
      refine mxS_of (ps_fld (pe_var h1 h2 h3 h4) pe_mx swap_att) (he X Wx G.G W g H σ ρ _ s.rg s.rs ((OkS.bind s o).imp fun d g1 W1 H1 _ e2 r1 ⟨_, s1, _, o⟩ u hu => ?_))
      obtain ⟨A, dx, ws, k1, k2, k3, k4⟩ := hc.leE e2 hl
      have hf1 : W1.F a = none := (e2.Ff a hc.some hl).trans hf0
      obtain ⟨vs', j1, j2, j3⟩ := putF_rep (f := f) hu k3 k4
      refine ⟨.ref a, e1, a, A, dx, _, rfl, k2, by rw [G.G.K]; exact G.G.cl c A k1 k2, by rw [G.G.K]; exact G.G.na c A k1 k2 f hf, ?_, ?_⟩
      · rw [List.length_zip, List.length_map]
        omega
      · rw [j1]
        exact OkS.ok (fl := .nx) (s1.mutO (s1 := .mi c (putF f d fs ds).1 (putF f d fs ds).2) hk rfl rfl e1 ⟨a, rfl, hf1, A, dx, vs', k1, upd_same, j2, j3⟩) o
    · exact o.elim
  · exact o.elim
/-! ### while -/
theorem snd_whl {c : Expr} {body : List Stmt} {t : T} {b : Ss} {pos : Pos} (hc : SndT M ini S c t) (hb : SndSs M ini S body b) : SndS M ini S (.While c body [] pos) (.whl t b) := by
  intro X Wx G F hU W g H σ ρ Dn s o
  have u2 : ∀ i ∈ b.own, i ∈ F.U := hU
  have o : OkS M F Wx (loopW (fun σ g => evT M.Gam M.call t σ g) (fun σ g => evSs M.Gam M.call b σ g) 1000000 σ g) Dn := o
  refine mxS_of (ps_while G.po pt_mx pss_mx) ⟨fun m ρ' H' => ∃ W' g' σ', St1 M.C { F with L := W } W' g' H' σ' ρ' ∧ OkS M F Wx (loopW (fun σ g => evT M.Gam M.call t σ g) (fun σ g => evSs M.Gam M.call b σ g) m σ' g') Dn, ⟨1000000, W, g, σ, s.down .refl, o⟩, ?_⟩
  clear o
  rintro m ρ' H' ⟨W', g', σ', s', o'⟩
  cases m with
  | zero => exact o'.elim
  | succ m =>
    have o' : OkS M F Wx ((evT M.Gam M.call t σ' g').bind fun x g => match x with
      | false => .ok (.nx, σ') g
      | true => (evSs M.Gam M.call b σ' g).bind fun r g => match r.1 with
        | .nx => loopW (fun σ g => evT M.Gam M.call t σ g) (fun σ g => evSs M.Gam M.call b σ g) m r.2 g
        | .ct => loopW (fun σ g => evT M.Gam M.call t σ g) (fun σ g => evSs M.Gam M.call b σ g) m r.2 g
        | .br => .ok (.nx, r.2) g
        | .ret v => .ok (.ret v, r.2) g) Dn := o'
    refine hc X Wx G.G W' g' H' σ' ρ' _ s'.rg s'.rs ((OkS.bind (s'.up s.low) o').imp fun x g1 W1 H1 _ e1 r1 ⟨_, s1, _, o1⟩ => ?_)
    have s1 := s'.go e1 r1
    cases x with
    | false =>
      rw [if_neg Bool.false_ne_true]
      exact OkS.ok (fl := .nx) (s1.up s.low) o1
    | true =>
      rw [if_pos rfl]
      refine ⟨fun ρ2 H2 => ∃ W' g' σ', St1 M.C { F with L := W } W' g' H2 σ' ρ2 ∧ OkS M F Wx (loopW (fun σ g => evT M.Gam M.call t σ g) (fun σ g => evSs M.Gam M.call b σ g) m σ' g') Dn, fun ρ2 H2 h => ⟨m, Nat.lt_succ_self m, h⟩, ?_⟩
      refine hb X Wx G { F with L := W } u2 W1 g1 H1 σ' ρ' _ s1 ?_
      refine okS_turn (k := fun r g => loopW (fun σ g => evT M.Gam M.call t σ g) (fun σ g => evSs M.Gam M.call b σ g) m r.2 g) s.low o1 (fun fl σ4 g4 W4 H4 ρ4 _ _ s4 o4 => ?_) rfl rfl
      exact ⟨⟨W4, g4, σ4, s4, o4⟩, ⟨W4, g4, σ4, s4, o4⟩⟩
end
end VM

namespace VM
open PySem L2 SeqAt PyProof.Rows
section
variable {M : Cf} {ini : Nat → Option Nat}
/-! ### a def's body, from its entry -/
theorem start_get {N : List Str} {vs : List V} {i : Nat} {v : V} (h : vs[i]? = some v) : (L2.start N vs)[i]? = some (some v) := by
  unfold L2.start
  have hl : i < (vs.map some).length := by rw [List.length_map]; exact (List.getElem?_eq_some_iff.mp h).1
  rw [List.getElem?_append_left hl, List.getElem?_map, h]
  rfl
theorem begin_ {C : Ct} {W : Wd} {g : Gs} {H : Hp} {N : List Str} {ds : List D} {vs : List V} {ns : Nat} (r : RelG C W g H) (h : RepL C W ds vs) (hN : N.length = ns) (hl : ds.length ≤ ns) (U : List Nat) :
    St1 C ⟨W, g, H, U, L2.start N vs, W⟩ W g H (ds.map (fun d => some (.val d)) ++ List.replicate (ns - ds.length) none) (L2.start N vs) := by
  have get : ∀ (i : Nat) (s : SV), (ds.map (fun d => some (SV.val d)) ++ List.replicate (ns - ds.length) none)[i]? = some (some s) → ∃ d, ds[i]? = some d ∧ s = .val d := fun i s hs => by
    by_cases hi : i < ds.length
    · rw [List.getElem?_append_left (by rw [List.length_map]; exact hi), List.getElem?_map] at hs
      obtain ⟨d, hd, e⟩ := Option.map_eq_some_iff.mp hs
      cases e
      exact ⟨d, hd, rfl⟩
    · rw [List.getElem?_append_right (by rw [List.length_map]; omega), List.getElem?_replicate] at hs
      split at hs <;> cases hs
  refine ⟨r, .refl, r, ⟨?_, fun i s hs => ?_, fun i s a hs ho => ?_⟩, fun i s a hs ho => ?_, fun _ _ => rfl, rfl, .refl⟩
  · unfold L2.start
    rw [List.length_append, List.length_append, List.length_map, List.length_map, List.length_replicate, List.length_replicate, h.length, hN]
  · obtain ⟨d, hd, rfl⟩ := get i s hs
    obtain ⟨v, hv, rv⟩ := h.get hd
    exact ⟨v, start_get hv, rv⟩
  · obtain ⟨d, hd, rfl⟩ := get i s hs
    cases ho
  · obtain ⟨d, hd, rfl⟩ := get i s hs
    cases ho
theorem body_ok {f : Nat} {d : Fn} {N ps : List Str} {S : Sc} {X : Cx} {body : List Stmt} {vs : List V} {H : Hp} {Q : VK} {E : XK} {call' : CallT} (hf : ∀ ds g, call' f ds g = runF M.Gam M.call d ds g) (hnp : d.np = ps.length) (hns : d.ns = N.length) (hle : ps.length ≤ N.length)
    (G : GoodS M ini S X (fun cls dx _ H => E cls dx H)) (hb : SndSs M ini S body d.body) (hsp : spOf { M with call := call' } f vs H Q E) : mxSs X body { nx := fun _ H' => Q .non H', rt := Q } (L2.start N vs) H := by
  obtain ⟨W, g, ds, r, hvs, o⟩ := hsp
  have o : M.Ok W g H (call' f ds g) E (fun r g' W' H' => ∀ v, RetAt M.C W' g' H H' r v → Q v H') := o
  rw [hf] at o
  unfold runF at o
  split at o
  · rename_i hlen
    have hl : ds.length = d.np := hlen
    refine hb X _ G ⟨W, g, H, d.body.own, L2.start N vs, W⟩ (fun i hi => hi) W g H _ _ _ (begin_ r hvs hns.symm (by omega) _) ?_
    rw [← hl] at o
    cases q : evSs M.Gam M.call d.body (ds.map (fun d => some (SV.val d)) ++ List.replicate (d.ns - ds.length) none) g with
    | no => rw [q] at o; exact o
    | ex c dd g' =>
      rw [q] at o
      exact fun W' H' cls dx ρ' e r' x _ _ => o W' H' cls dx e r' x
    | ok r g' =>
      rw [q] at o
      obtain ⟨fl, σ'⟩ := r
      intro W' H' ρ' s
      cases fl with
      | nx => exact o W' H' s.ext s.rg .non rfl
      | br => exact o.elim
      | ct => exact o.elim
      | ret v => exact fun w hw => o W' H' s.ext s.rg w hw
  · exact o.elim
theorem sp_len {f : Nat} {d : Fn} {call' : CallT} {vs : List V} {H : Hp} {Q : VK} {E : XK} (hf : ∀ ds g, call' f ds g = runF M.Gam M.call d ds g) (hsp : spOf { M with call := call' } f vs H Q E) : vs.length = d.np := by
  obtain ⟨W, g, ds, r, hvs, o⟩ := hsp
  have o : M.Ok W g H (call' f ds g) E (fun r g' W' H' => ∀ v, RetAt M.C W' g' H H' r v → Q v H') := o
  rw [hf] at o
  unfold runF at o
  split at o
  · rename_i hlen
    rw [hvs.length]
    exact hlen
  · exact o.elim
/-- the facts of a law's module at a depth: what Good asks beside the place -/
structure LawK (M : Cf) : Prop where
  ci : CIs M.C M.Gam
  fx : ∀ f ∈ M.fns, ∃ a, M.C.fA f = some a
  mf : ∀ m ∈ M.mths, ∀ f, M.C.fld f ≠ M.nm.mth m
  con : ∀ x d, M.Gam.con x = some d → ∃ u v, M.C.mg (M.nm.con x) = some u ∧ RelV v u ∧ ∀ W, Rep M.C W d v
  fnm : ∀ f a, M.C.fA f = some a → M.C.mg (M.nm.fn f) = some (.ref a) ∧ PySem.W.keepIn M.C.K (.ref a) = true
  clm : ∀ c A, M.C.cA c = some A → M.C.mg (M.nm.cls c) = some (.ref A)
  cl : ∀ c A, M.C.cA c = some A → ∀ {H : Hp} {a dx : Addr} {fs : List (Str × V)}, H a = some (.ins A dx fs) → L2.Cls M.C.K A
  na : ∀ c A, M.C.cA c = some A → ∀ {H : Hp} {a dx : Addr} {fs : List (Str × V)}, H a = some (.ins A dx fs) → ∀ f ∈ M.flds, NoAttr M.C.K A (M.C.fld f)
  bt : ∀ b ∈ bNms, M.C.mg b = none
  cx : ∀ c ∈ M.clss, ∃ A, M.C.cA c = some A
  xc : XcOk M
/-- the __init__ of an error keeps its promise at level 1 -/
structure InX (M : Cf) (P : Program) (w : World) (base : Heap) (A : Addr) (sp : Sp) (n : Nat) : Prop where
  o : OexC M.C.K A
  at_ : ∃ fI fd ps, PySem.W.findIn M.C.K (.ref A) "__init__" = some (some (.ref fI)) ∧ PySem.W.typeIn M.C.K (.ref fI) = some (.type "function") ∧ FnOk P w M.C.K M.C.mg base CX0 1 fI fd ps sp ∧ Binds M.C.K fd ps [] ∧ ps.length = n + 1
def ExL (M : Cf) (P : Program) (w : World) (base : Heap) (c : Nat) (A : Addr) : Prop :=
  (xfOf M.Gam c = [] ∧ PySem.W.excIn M.C.K A [.type "ValueError", .type "Exception", .type "BaseException", .type "object"] "ValueError.__new__" = true ∧ PySem.W.keepIn M.C.K (.ref A) = true ∧ PySem.W.subIn M.C.K (.ref A) (.type "BaseException") = some true ∧ PySem.W.typeIn M.C.K (.ref A) = some (.type "type")) ∨
  (∃ f, xfOf M.Gam c = [f] ∧ InX M P w base A (spX1 M.C.K A (M.C.fld f)) 1 ∧ PySem.W.findIn M.C.K (.ref A) (M.C.fld f) = some none) ∨
  (∃ f g, xfOf M.Gam c = [f, g] ∧ InX M P w base A (spX2 M.C.K A (M.C.fld f) (M.C.fld g)) 2 ∧ PySem.W.findIn M.C.K (.ref A) (M.C.fld f) = some none ∧ PySem.W.findIn M.C.K (.ref A) (M.C.fld g) = some none ∧ f ≠ g)
/-- all defs keep their promise at level k -/
structure DefsOk (M : Cf) (P : Program) (w : World) (base : Heap) (k : Nat) : Prop where
  one : 1 ≤ k
  wd : w = M.C.wd
  ex : ∀ c A, M.C.xA c = some A → ExL M P w base c A
  eqs : ∀ c A, M.C.cA c = some A → ∃ f fd ps, FnOk P w M.C.K M.C.mg base CX0 1 f fd ps (spEqT A) ∧ EqC M.C.K A f ∧ Binds M.C.K fd ps []
  gl : ∀ f a, M.C.fA f = some a → ∃ fd ps, FnOk P w M.C.K M.C.mg base (L2.CX P w) k a fd ps (spOf M f) ∧ Binds M.C.K fd ps []
  me : ∀ c m f A, M.Gam.meth c m = some f → M.C.cA c = some A → ∃ a fd ps, L2.Cls M.C.K A ∧ Meth M.C.K A (M.nm.mth m) a ∧ FnOk P w M.C.K M.C.mg base (L2.CX P w) k a fd ps (spOf M f) ∧ Binds M.C.K fd ps []
  nw : ∀ c kc f A, M.Gam.cls c = some kc → kc.init = some f → M.C.cA c = some A → ∃ a fd ps, Mk M.C.K A a ∧ Binds M.C.K fd ps [] ∧
    (kc.kind = .froz → FnOk P w M.C.K M.C.mg base (L2.CX P w) k a fd ps (spIni M c f)) ∧ (kc.kind = .mut → FnOk P w M.C.K M.C.mg base (L2.CX P w) k a fd ps (spOf M f))
theorem good_of {P : Program} {w : World} {base : Heap} {k : Nat} {S : Sc} {X : Cx} {Wx : WX} (L : LawK M) (D : DefsOk M P w base k) (hP : X.prog = P) (hw : X.w = w) (hK : X.K = M.C.K) (hm : X.mg = M.C.mg) (hb : X.base = base) (hN : X.N = S.N) (nd : S.N.Nodup) (hs : X.env.scope = S.sc)
    (hc : S.cm = true → X.calm = true) (hfn : S.df = true → ∀ x, X.fn x = true) (hr : Room (k + 1) X.A) (tk : Takes X Wx) : Good M ini S X Wx where
  K := hK
  wd := hw.trans D.wd
  mg := hm
  N := hN
  nd := nd
  sc := hs
  calm := hc
  fn := hfn
  big := by have := hr.un; show X.A.units + 100 < cLine; omega
  tk := tk
  ci := L.ci
  gl := fun f a hA _ => by
    obtain ⟨fd, ps, F, B⟩ := D.gl f a hA
    subst hP hw hb
    exact ⟨fd, ps, k, by rw [hK, hm]; exact F, hr.mono (by omega), by rw [hK]; exact B⟩
  fx := L.fx
  me := fun c m f A h1 h2 _ => by
    obtain ⟨a, fd, ps, k1, k2, F, B⟩ := D.me c m f A h1 h2
    subst hP hw hb
    exact ⟨a, k1, k2, fd, ps, k, by rw [hK, hm]; exact F, hr.mono (by omega), by rw [hK]; exact B⟩
  mf := L.mf
  nw := fun c kc f A h1 h2 h3 _ => by
    obtain ⟨a, fd, ps, mk, B, F1, F2⟩ := D.nw c kc f A h1 h2 h3
    subst hP hw hb
    exact ⟨a, mk, fun z => ⟨fd, ps, k, by rw [hK, hm]; exact F1 z, hr, by rw [hK]; exact B⟩, fun z => ⟨fd, ps, k, by rw [hK, hm]; exact F2 z, hr, by rw [hK]; exact B⟩⟩
  con := L.con
  fnm := L.fnm
  clm := L.clm
  cl := L.cl
  na := L.na
  bt := L.bt
  cx := L.cx
  xc := L.xc
  eqs := fun _ c A hA => by
    obtain ⟨f, fd, ps, F, E, B⟩ := D.eqs c A hA
    have h1 := D.one
    subst hP hw hb
    exact ⟨f, fd, ps, 1, by rw [hK, hm]; exact F, by rw [hK]; exact E, by rw [hK]; exact B, hr.mono (by omega)⟩
  ex := fun c A hA _ => by
    have h1 := D.one
    have key : ∀ {sp : Sp} {n : Nat}, InX M P w base A sp n → IniX X A sp n := fun {sp n} ⟨o, fI, fd, ps, i1, i2, F, B, l⟩ => by
      subst hP hw hb
      exact ⟨by rw [hK]; exact o, fI, fd, ps, 1, by rw [hK]; exact i1, by rw [hK]; exact i2, by rw [hK, hm]; exact F, hr.mono (by omega), by rw [hK]; exact B, l⟩
    unfold ExAt
    rw [hK]
    rcases D.ex c A hA with ⟨h, a, b, c, d⟩ | ⟨f, h, i, a⟩ | ⟨f, g, h, i, a, b, n⟩
    · exact .inl ⟨h, a, b, raises_own (by rw [hK]; exact c) (by rw [hK]; exact d)⟩
    · exact .inr (.inl ⟨f, h, key i, a⟩)
    · exact .inr (.inr ⟨f, g, h, key i, a, b, n⟩)
/-- one def at the next depth -/
theorem def_step {P : Program} {w : World} {base : Heap} {k : Nat} {f : Nat} {a : Addr} {x qual : Str} {st : Stmt} {fd : FuncData} {N ps : List Str} {d : Fn} {call' : CallT} (L : LawK M) (D : DefsOk M P w base k) (F : Fun M.C.K x qual st a fd) (FS : FnScope N ps (defScope st))
    (hf : ∀ ds g, call' f ds g = runF M.Gam M.call d ds g) (hnp : d.np = ps.length) (hns : d.ns = N.length) (hb : SndSs M ini ⟨true, true, N, defScope st⟩ (defBody st) d.body) :
    FnOk P w M.C.K M.C.mg base (L2.CX P w) (k + 2) a fd ps (spOf { M with call := call' } f) := by
  have hle : ps.length ≤ N.length := by
    have := congrArg List.length FS.pre
    rw [List.length_take] at this
    omega
  refine F.okX FS (fun vs H Q E h => by rw [sp_len hf h, hnp]) fun cdv A outer s H vs Q E hr hsp => ⟨mxSs _ (defBody st), pss_mx, ?_⟩
  refine body_ok (ini := ini) hf hnp hns hle ⟨good_of L D rfl rfl rfl rfl rfl rfl FS.nd rfl (fun _ => rfl) (fun _ _ => rfl) hr (takes_of rfl rfl rfl rfl), rfl, rfl, passes_of rfl⟩ hb hsp
/-- the __init__ of a class whose instances don't change -/
theorem ini_step {P : Program} {w : World} {base : Heap} {k : Nat} {c f : Nat} {a : Addr} {x qual : Str} {st : Stmt} {fd : FuncData} {N ps : List Str} {d : Fn} {call' : CallT} (L : LawK M) (D : DefsOk M P w base k) (F : Fun M.C.K x qual st a fd) (FS : FnScope N ps (defScope st))
    (hf : ∀ ds g, call' f ds g = runI M.Gam M.call d c ds g) (hnp : d.np = ps.length) (hns : d.ns = N.length) (h0 : 0 ∉ d.body.own) (hb : SndSs M ini ⟨true, true, N, defScope st⟩ (defBody st) d.body) :
    FnOk P w M.C.K M.C.mg base (L2.CX P w) (k + 2) a fd ps (spIni { M with call := call' } c f) := by
  have hle : ps.length ≤ N.length := by
    have := congrArg List.length FS.pre
    rw [List.length_take] at this
    omega
  have key : ∀ {vs : List V} {H : Hp} {Q : VK} {E : XK}, spIni { M with call := call' } c f vs H Q E → vs.length = ps.length ∧ ∀ X, GoodS M ini ⟨true, true, N, defScope st⟩ X (fun cls dx _ H => E cls dx H) → mxSs X (defBody st) { nx := fun _ H' => Q .non H', rt := Q } (L2.start N vs) H := by
    rintro vs H Q E ⟨W, g, ds, x, dx, A, H0, rest, rfl, hA, r, hvs, hx, hdx, hne, rfl, o⟩
    have o : M.Ok W g H0 (call' f ds g) E (fun r g' W' H' => ∀ d, r = RV.v d → Rep M.C W' d (.ref x) → Q .non H') := o
    rw [hf] at o
    unfold runI at o
    split at o
    · rename_i hlen
      have hl : ds.length + 1 = d.np := hlen
      refine ⟨by rw [List.length_cons, hvs.length]; omega, fun X G => ?_⟩
      have hx2 : upd H0 dx (.own x) x = none := by rw [upd_ne (Ne.symm hne)]; exact hx
      have ea := Ext.own (o := .own x) r hdx
      have ra := r.own (o := .own x) hdx
      have eb := Ext.own (o := .ins A dx []) ra hx2
      have rb := ra.own (o := .ins A dx []) hx2
      have get : ∀ (i : Nat) (s : SV), (some (SV.mi c [] []) :: (ds.map (fun d => some (SV.val d)) ++ List.replicate (d.ns - d.np) none))[i]? = some (some s) → (i = 0 ∧ s = .mi c [] []) ∨ ∃ d j, i = j + 1 ∧ ds[j]? = some d ∧ s = .val d := fun i s hs => by
        cases i with
        | zero => cases hs; exact .inl ⟨rfl, rfl⟩
        | succ i =>
          have hs : (ds.map (fun d => some (SV.val d)) ++ List.replicate (d.ns - d.np) none)[i]? = some (some s) := hs
          by_cases hi : i < ds.length
          · rw [List.getElem?_append_left (by rw [List.length_map]; exact hi), List.getElem?_map] at hs
            obtain ⟨d, hd, e⟩ := Option.map_eq_some_iff.mp hs
            cases e
            exact .inr ⟨d, i, rfl, hd, rfl⟩
          · rw [List.getElem?_append_right (by rw [List.length_map]; omega), List.getElem?_replicate] at hs
            split at hs <;> cases hs
      have st1 : St1 M.C ⟨W, g, H0, d.body.own, L2.start N (.ref x :: rest), W⟩ W g (upd (upd H0 dx (.own x)) x (.ins A dx [])) (some (SV.mi c [] []) :: (ds.map (fun d => some (SV.val d)) ++ List.replicate (d.ns - d.np) none)) (L2.start N (.ref x :: rest)) := by
        refine ⟨r, ea.trans r eb, rb, ⟨?_, fun i s hs => ?_, fun i s b hs ho hr => ?_⟩, fun i s b hs ho hr => ?_, fun _ _ => rfl, rfl, .refl⟩
        · unfold L2.start
          rw [List.length_cons, List.length_append, List.length_append, List.length_map, List.length_map, List.length_replicate, List.length_replicate, List.length_cons, hvs.length]
          omega
        · rcases get i s hs with ⟨rfl, rfl⟩ | ⟨d, j, rfl, hd, rfl⟩
          · exact ⟨.ref x, start_get rfl, x, rfl, r.nf hx, A, dx, [], hA, upd_same, rfl, .nil⟩
          · obtain ⟨v, hv, rv⟩ := hvs.get hd
            exact ⟨v, start_get hv, rv⟩
        · rcases get i s hs with ⟨rfl, rfl⟩ | ⟨d, j, rfl, hd, rfl⟩
          · rw [start_get (show (V.ref x :: rest)[0]? = some (.ref x) from rfl)] at hr
            cases hr
            refine ⟨r.notlive hx, fun j t ht hto _ => ?_⟩
            rcases get j t ht with ⟨rfl, _⟩ | ⟨d, _, _, _, rfl⟩
            · rfl
            · cases hto
          · cases ho
        · rcases get i s hs with ⟨rfl, rfl⟩ | ⟨d, j, rfl, hd, rfl⟩
          · rw [start_get (show (V.ref x :: rest)[0]? = some (.ref x) from rfl)] at hr
            cases hr
            exact hx
          · cases ho
      refine hb X _ G ⟨W, g, H0, d.body.own, L2.start N (.ref x :: rest), W⟩ (fun i hi => hi) W g _ _ _ _ st1 ?_
      cases q : evSs M.Gam M.call d.body (some (SV.mi c [] []) :: (ds.map (fun d => some (SV.val d)) ++ List.replicate (d.ns - d.np) none)) g with
      | no => rw [q] at o; exact o
      | ex c dd g' => rw [q] at o; exact fun W' H' cls dx ρ' e r' x _ _ => o W' H' cls dx e r' x
      | ok r2 g' =>
        rw [q] at o
        obtain ⟨fl, σ'⟩ := r2
        cases fl with
        | br => exact o.elim
        | ct => exact o.elim
        | ret v => exact o.elim
        | nx =>
          intro W' H' ρ' s
          have o : M.Ok W g H0 (match σ'[0]? with
            | some (some (SV.mi c fs vs)) => Out.ok (RV.v (.ins c g'.next fs vs)) g'.bump
            | _ => Out.no) E (fun r g' W' H' => ∀ d, r = RV.v d → Rep M.C W' d (.ref x) → Q .non H') := o
          split at o
          · rename_i c' fs ws hs
            obtain ⟨v, e1, b, rfl, hf', hc⟩ := s.rs.at_ 0 _ hs
            have hr0 : ρ'[0]? = some (some (.ref x)) := by rw [s.ag 0 h0]; exact start_get rfl
            rw [hr0] at e1
            cases e1
            have hl' := (s.rs.apart 0 _ x hs rfl hr0).1
            obtain ⟨A', dx', vs', k1, k2, k3, k4⟩ := hc
            obtain ⟨e2, r2⟩ := frozen r s.ext s.rg hx hf' hl' k2
            obtain ⟨e3, r3⟩ := named e2 r2 hx (cell_some (C := M.C) (W := W') k2)
            refine o _ _ e3 r3 _ rfl ?_
            rw [Rep.eq_8]
            exact ⟨x, A', dx', vs', rfl, k1, put_same, k3, RepL.le ((Wd.le_put hf').trans (r2.le_nam (Nat.le_refl _))) _ _ k4, nam_at⟩
          · exact o.elim
    · exact o.elim
  refine F.okX FS (fun vs H Q E h => (key h).1) fun cdv A outer s H vs Q E hr hsp => ⟨mxSs _ (defBody st), pss_mx, ?_⟩
  exact (key hsp).2 _ ⟨good_of L D rfl rfl rfl rfl rfl rfl FS.nd rfl (fun _ => rfl) (fun _ _ => rfl) hr (takes_of rfl rfl rfl rfl), rfl, rfl, passes_of rfl⟩
end
end VM

namespace VM
open PySem L2 SeqAt PyProof.Rows
section
variable {M : Cf} {ini : Nat → Option Nat} {S : Sc}
/-! ### split at one sign -/
theorem splitL_ne (c : Nat) : ∀ l, splitL c l ≠ []
  | [] => fun z => nomatch z
  | x :: xs => by
    unfold splitL
    split
    · exact fun z => nomatch z
    · split
      · exact fun z => nomatch z
      · exact fun z => nomatch z
theorem splitL_free (c : Nat) : ∀ l, ∀ p ∈ splitL c l, c ∉ p
  | [], p, h => by
    rw [List.mem_singleton.mp h]
    exact List.not_mem_nil
  | x :: xs, p, h => by
    unfold splitL at h
    split at h
    · rcases List.mem_cons.mp h with rfl | h
      · exact List.not_mem_nil
      · exact splitL_free c xs p h
    · rename_i hx
      split at h
      · rename_i e
        exact absurd e (splitL_ne c xs)
      · rename_i q r e
        rcases List.mem_cons.mp h with rfl | h
        · intro z
          rcases List.mem_cons.mp z with rfl | z
          · exact hx rfl
          · exact splitL_free c xs q (by rw [e]; exact List.mem_cons_self ..) z
        · exact splitL_free c xs p (by rw [e]; exact List.mem_cons_of_mem _ h)
theorem joinL_cons {S p : List Nat} {r : List (List Nat)} (h : r ≠ []) : TL.joinL S (p :: r) = p ++ (S ++ TL.joinL S r) := by
  cases r with
  | nil => exact absurd rfl h
  | cons q r => rfl
theorem splitL_join (c : Nat) : ∀ l, TL.joinL [c] (splitL c l) = l
  | [] => rfl
  | x :: xs => by
    unfold splitL
    split
    · rename_i hx
      rw [joinL_cons (splitL_ne c xs), splitL_join c xs, hx]
      rfl
    · split
      · rename_i e
        exact absurd e (splitL_ne c xs)
      · rename_i q r e
        have ih := splitL_join c xs
        rw [e] at ih
        cases r with
        | nil =>
          have ih : q = xs := ih
          rw [← ih]
          rfl
        | cons q2 r =>
          have ih : q ++ ([c] ++ TL.joinL [c] (q2 :: r)) = xs := ih
          rw [← ih]
          rfl
theorem split_ok {z t : Str} {c : Nat} (ht : t.cps.toList = [c]) (hc : c < 256) : Txt.split z t = (splitL c z.cps.toList).map strOf := by
  have e1 : Txt.join t ((splitL c z.cps.toList).map strOf) = z := by
    have e1 : Txt.join t ((splitL c z.cps.toList).map strOf) = Str.join t ((splitL c z.cps.toList).map strOf) := StrLaws.glued_eq_join t _
    have e2 : (Str.join t ((splitL c z.cps.toList).map strOf)).cps.toList = TL.joinL t.cps.toList (((splitL c z.cps.toList).map strOf).map TL.tl) := TL.tl_join t _
    have e3 : ((splitL c z.cps.toList).map strOf).map TL.tl = splitL c z.cps.toList := by
      rw [List.map_map]
      exact List.map_id _
    rw [e3, ht, splitL_join] at e2
    rw [e1, ← str_strOf (Str.join t ((splitL c z.cps.toList).map strOf)), e2, str_strOf]
  have e2 := TL.split_join (y := t) (s := c) (S := []) ht (by
    rw [← Array.toArray_toList (xs := t.cps), ht]
    show (#[c].all fun x => decide (x < 256)) = true
    simpa using hc) (parts := (splitL c z.cps.toList).map strOf) (fun h => splitL_ne c _ (List.map_eq_nil_iff.mp h)) (fun p hp => by
      obtain ⟨q, hq, rfl⟩ := List.mem_map.mp hp
      exact splitL_free c _ q hq)
  rw [e1] at e2
  exact e2
theorem strs_repV {C : Ct} {W : Wd} : ∀ {ys : List Str}, RepL C W (ys.map D.str) (ys.map V.str)
  | [] => .nil
  | _ :: _ => .cons rfl strs_repV
theorem snd_split {o : Expr} {x : E} {t : Str} {sk : Nat} {sp apos pos : Pos} (ho : SndE M ini S o x) (hb : plainBase o = true) (hline : (apos.endLine == pos.line) = true) : SndF M ini S (.Call (.Attribute o "split" apos) [.Constant (.str t) sk sp] [] pos) (.split x (.cst (.str t))) := by
  intro X Wx G W g H σ ρ Q r rs o'
  have o : M.Ok W g H ((evP M.Gam M.call (.e x) σ g).bind fun u g => Out.optL (splD u (.str t)) g) (WE Wx ρ) (EndF M H Q) := o'
  obtain ⟨R, hJ, hR⟩ := one_opF G ho.p (f := fun g u => splD u (.str t)) (J := fun R => ∀ u H Q, R u H Q → ∃ a, u = V.str a ∧ (t.length == 0) = false ∧ a.length + 2 ≤ sizeLine ∧ rNewStrs (Txt.split a t) H Q)
    (fun _ _ _ z => z.elim)
    (fun g x xs e => ⟨fun u H Q => ∃ a, u = V.str a ∧ (t.length == 0) = false ∧ a.length + 2 ≤ sizeLine ∧ rNewStrs (Txt.split a t) H Q, fun _ _ _ z => z, fun {W H u Q} r hx f => by
      unfold splD at e
      cases x with
      | str z =>
        dsimp only at e
        split at e
        · rename_i c hc
          split at e
          · rename_i hz
            cases e
            refine ⟨z, opd_str hx, ?_, szM hz.2, fun p hp => ?_⟩
            · have : t.length = 1 := by
                show t.cps.size = 1
                rw [← Array.length_toList, hc]
                rfl
              rw [this]
              rfl
            · rw [split_ok hc hz.1]
              refine f p _ hp ?_
              have e3 : ((splitL c z.cps.toList).map fun l => D.str (strOf l)) = ((splitL c z.cps.toList).map strOf).map D.str := by rw [List.map_map]; rfl
              rw [e3]
              exact strs_repV
          · cases e
        · cases e
      | _ => cases e⟩) r rs o
  refine mxE_of (pe_split pe_mx pe_str rfl (base_of hb) hline) ?_
  exact fun pins s I => thn (hR pins s I) fun u s1 ⟨v, H1, I1, r1, q1⟩ => by
    obtain ⟨a, rfl, k1, k2, k3⟩ := hJ _ _ _ q1
    exact ⟨.str a, H1, I1, r1, ⟨a, rfl⟩, a, t, rfl, rfl, k1, k2, k3⟩

/-! ### dict comprehensions -/
theorem ps_setDc {X : Cx} {i : Nat} {y : Str} {py : Pos} {kx vx tg iter : Expr} {ifs : List Expr} {scope : Scope} {own : List (Str × Nat)} {pos spos : Pos} {wi : TI} {g : TG} {tt : TT} {tk tv : TE}
    (hc : X.calm = true) (hN : X.N.Nodup) (hy : X.N[i]? = some y) (hyl : X.env.scope.names.lookup y = some .local)
    (hsw : swapsWith (.DictComp kx vx [⟨tg, iter, ifs, 0⟩] scope pos) (some (.Name y py)) spos.line X.env = pure true) (hi : PI X tg iter wi) (ok : BlkOk X.N X.env.scope scope own)
    (hg : ∀ (s : Shared) (H : Hp) (C : Addr) (cl : List (Str × Addr)) (fp : List Addr), PG (X.blk s H scope (compEnvC scope cl C X.env) fp) tg g)
    (ht : ∀ (s : Shared) (H : Hp) (C : Addr) (cl : List (Str × Addr)) (fp : List Addr), PTs (X.blk s H scope (compEnvC scope cl C X.env) fp) ifs tt)
    (hk : ∀ (s : Shared) (H : Hp) (C : Addr) (cl : List (Str × Addr)) (fp : List Addr), PE (X.blk s H scope (compEnvC scope cl C X.env) fp) kx tk)
    (hv : ∀ (s : Shared) (H : Hp) (C : Addr) (cl : List (Str × Addr)) (fp : List Addr), PE (X.blk s H scope (compEnvC scope cl C X.env) fp) vx tv)
    (hs : ∀ x : Value, foldedSetIterable iter X.env x = pure x) :
    PS X (.Assign [.Name y py] (.DictComp kx vx [⟨tg, iter, ifs, 0⟩] scope pos) spos) (tAsg (tDc wi g tt tk tv (own.map (·.2))) (gName i)) where
  run := fun pins s σ H D I h => by
    rw [exec_Assign_Name_used y py _ spos hsw]
    refine wpAny_bind (wpAny_standAt (wpAny_bind ?_))
    rw [evalThenUse.eq_def]
    refine wpAny_bind (thn (dc_core hc hN I hi ok hg ht hk hv hs h fun L C s' m H' I' q hn f => ?_) fun x s' hq => wpAny_pure (wpAny_pure hq))
    refine wpAny_assign_Name (store_ok2 (v := V.ref L) I' hN hy (Or.inl hyl) rfl (fun s2 I2 ⟨a, sb, ha⟩ => ?_) (Or.inr hyl))
    obtain ⟨f0, f1, f2, f3, f4, f5⟩ := f
    have haC : C ≠ a := ha.elim (fun z => by rw [z]; exact f1) fun z e => f4 y a z e.symm
    exact ⟨m, Heap.Ns.sameBut hn sb haC, fun h3 sb3 => ⟨_, H', Inv.turned I2 (fun b o hb e => Eq.trans (sb3.right b hb) e) f0 f1 f3 f4 f5, q⟩⟩
def stepDc (Gam : Prog) (call : CallT) (k v : E) (tg : Tg) (own : List Nat) (c : Ot) (σ : Sg) (acc : List D × List D) (x : D) (g : Gs) : Out (List D × List D) := (match bindT g (wipeS σ own) x tg with
  | some σ' => (evOt Gam call c σ' g).bind fun t g => if t then (evE Gam call k σ' g).bind fun y g => (evE Gam call v σ' g).bind fun z g => Out.opt (putD y z acc.1 acc.2) g else .ok acc g
  | none => .no).calm
theorem comp_tdc {kx vx tg iter : Expr} {ifs : List Expr} {scope : Scope} {k v : E} {t : Tg} {it : Iv} {own : List Nat} {c : Ot} {nms : List Str} (hc : S.cm = true) (hb : blkC S.N S.sc scope (nms.zip own) = true) (hn : nms.length = own.length)
    (hi : SndI M ini S true tg iter it) (ht : SndG M ini (S.blk scope) tg t) (ho : SndOt M ini (S.blk scope) ifs c) (hk : SndE M ini (S.blk scope) kx k) (he : SndE M ini (S.blk scope) vx v) (hs : noSet iter = true) (hw : ∀ i ∈ t.own, i ∈ own) {X : Cx} {Wx : WX} (G : Good M ini S X Wx) {W : Wd} {g : Gs} {H : Hp} {σ : Sg} {ρ : L2.St} {Q : VK} (r : RelG M.C W g H) (rs : RelS M.C W g H σ ρ)
    (o : M.Ok W g H (evF M.Gam M.call (.dcomp k v t it own c) σ g) (WE Wx ρ) (EndF M H Q)) : tDc (mxI X tg iter) (gBlk X scope tg) (ttBlk X scope ifs) (teBlk X scope kx) (teBlk X scope vx) own ρ H Q := by
  have o : M.Ok W g H ((evIt M.Gam M.call it σ g).bind fun s g => (foldI (stepDc M.Gam M.call k v t own c σ) s s.fuel 0 ([], []) g).bind fun q g => Out.ok (Fr.d q.1 q.2) g) (WE Wx ρ) (EndF M H Q) := o
  refine hi X Wx G W g H σ ρ _ r rs ((Ok.bind r o).imp fun s g1 W1 H1 _ e1 r1 o1 J hJ => ?_)
  intro D hD
  refine ⟨fun i m H' => ∃ W' g' acc, Ext W1 H1 g1 W' H' g' ∧ RelG M.C W' g' H' ∧ OwnAt M.C W' g' H' D (.dct acc.1 acc.2) ∧
    M.Ok W1 g1 H1 ((foldI (stepDc M.Gam M.call k v t own c σ) s m i acc g').bind fun q g => Out.ok (Fr.d q.1 q.2) g) (WE Wx ρ) (EndF M H Q),
    ⟨s.fuel, W1, g1, ([], []), Ext.own r1 hD, r1.own hD, OwnAt.new r1 hD ⟨[], upd_same, rfl, .nil⟩, o1⟩, ?_⟩
  rintro i m H' ⟨W', g', acc, e', r', own', o'⟩
  cases m with
  | zero => exact o'.elim
  | succ m =>
    have hj := hJ W' g' H' e'.le (fun _ => e') r' i
    have o' : M.Ok W1 g1 H1 ((match s.at i g' with
      | none => Out.no
      | some none => Out.ok acc g'
      | some (some d) => (stepDc M.Gam M.call k v t own c σ acc d g').bind fun a' g' => foldI (stepDc M.Gam M.call k v t own c σ) s m (i + 1) a' g').bind fun q g => Out.ok (Fr.d q.1 q.2) g) (WE Wx ρ) (EndF M H Q) := o'
    cases qs : s.at i g' with
    | none => rw [qs] at o'; exact o'.elim
    | some od =>
      rw [qs] at o' hj
      cases od with
      | none =>
        refine .inl ⟨hj, ?_⟩
        exact o' W' H' e' r' D (fresh_of e1 hD) own'.1 own'.2.1 own'.2.2
      | some d =>
        obtain ⟨hgo, hy⟩ := hj
        refine .inr ⟨hgo, fun H2 => ∃ W' g' acc, Ext W1 H1 g1 W' H2 g' ∧ RelG M.C W' g' H2 ∧ OwnAt M.C W' g' H2 D (.dct acc.1 acc.2) ∧
          M.Ok W1 g1 H1 ((foldI (stepDc M.Gam M.call k v t own c σ) s m (i + 1) acc g').bind fun q g => Out.ok (Fr.d q.1 q.2) g) (WE Wx ρ) (EndF M H Q),
          fun H2 h => ⟨m, Nat.lt_succ_self m, h⟩, fun x0 H2 y2 => ?_⟩
        obtain ⟨W2, e2, r2, hv⟩ := hy x0 H2 y2
        have own2 := own'.ext r' e2
        have e12 := e'.trans r1 e2
        have o' : M.Ok W1 g1 H1 (((stepDc M.Gam M.call k v t own c σ acc d g').bind fun a' g' => foldI (stepDc M.Gam M.call k v t own c σ) s m (i + 1) a' g').bind fun q g => Out.ok (Fr.d q.1 q.2) g) (WE Wx ρ) (EndF M H Q) := o'
        cases qst : stepDc M.Gam M.call k v t own c σ acc d g' with
        | no => rw [qst] at o'; exact o'.elim
        | ex => exact absurd qst (by unfold stepDc; intro z; generalize (match bindT g' (wipeS σ own) d t with
            | some σ' => (evOt M.Gam M.call c σ' g').bind fun t g => if t then (evE M.Gam M.call k σ' g).bind fun y g => (evE M.Gam M.call v σ' g).bind fun z g => Out.opt (putD y z acc.1 acc.2) g else .ok acc g
            | none => .no) = oo at z; cases oo <;> cases z)
        | ok acc2 g3 =>
          rw [qst] at o'
          have o' : M.Ok W1 g1 H1 ((foldI (stepDc M.Gam M.call k v t own c σ) s m (i + 1) acc2 g3).bind fun q g => Out.ok (Fr.d q.1 q.2) g) (WE Wx ρ) (EndF M H Q) := o'
          have qst := calm_ok qst
          cases qb : bindT g' (wipeS σ own) d t with
          | none => rw [qb] at qst; cases qst
          | some σ1 =>
            rw [qb] at qst
            have qst : ((evOt M.Gam M.call c σ1 g').bind fun t g => if t then (evE M.Gam M.call k σ1 g).bind fun y g => (evE M.Gam M.call v σ1 g).bind fun z g => Out.opt (putD y z acc.1 acc.2) g else .ok acc g) = .ok acc2 g3 := qst
            intro s0 H0 C0 cl0 fp0
            have rs2 : RelS M.C W2 g' H2 (wipeS σ own) (wipe ρ own) := ((rs.ext r e1).ext r1 e12).less (wipe_length _ _) fun j hj => wipe_out hj
            refine ht _ _ (G.blk scope s0 H0 C0 cl0 fp0) W2 g' H2 _ σ1 _ d x0 _ r2 rs2 hv qb fun ρ' rs' k' => ?_
            refine ⟨wipe_eq ?_ fun j hj => ?_, ?_⟩
            · rw [← rs'.len, bindT_len qb, rs2.len, wipe_length]
            · rw [k' j fun z => hj (hw j z), wipe_out hj]
            intro s0 H0 C0 cl0 fp0
            refine ho _ _ (G.blk scope s0 H0 C0 cl0 fp0) W2 g' H2 σ1 ρ' _ r2 rs' ?_
            cases qt : evOt M.Gam M.call c σ1 g' with
            | no => rw [qt] at qst; cases qst
            | ex => rw [qt] at qst; cases qst
            | ok tb g4 =>
              rw [qt] at qst
              intro W4 H4 e4 r4
              have own4 := own2.ext r2 e4
              have e14 := e12.trans r1 e4
              cases tb with
              | false =>
                have qst : Out.ok acc g4 = .ok acc2 g3 := qst
                cases qst
                rw [if_neg Bool.false_ne_true]
                exact ⟨W4, _, _, e14, r4, own4, o'⟩
              | true =>
                have qst : ((evE M.Gam M.call k σ1 g4).bind fun y g => (evE M.Gam M.call v σ1 g).bind fun z g => Out.opt (putD y z acc.1 acc.2) g) = .ok acc2 g3 := qst
                rw [if_pos rfl]
                intro s0 H0 C0 cl0 fp0
                refine hk _ _ (G.blk scope s0 H0 C0 cl0 fp0) W4 g4 H4 σ1 ρ' _ r4 (rs'.ext r2 e4) ?_
                cases qe : evE M.Gam M.call k σ1 g4 with
                | no => rw [qe] at qst; cases qst
                | ex => rw [qe] at qst; cases qst
                | ok y g5 =>
                  rw [qe] at qst
                  have qst : ((evE M.Gam M.call v σ1 g5).bind fun z g => Out.opt (putD y z acc.1 acc.2) g) = .ok acc2 g3 := qst
                  intro W5 H5 e5 r5 v5 hv5
                  have own5 := own4.ext r4 e5
                  have e15 := e14.trans r1 e5
                  intro s0 H0 C0 cl0 fp0
                  refine he _ _ (G.blk scope s0 H0 C0 cl0 fp0) W5 g5 H5 σ1 ρ' _ r5 ((rs'.ext r2 e4).ext r4 e5) ?_
                  cases qv : evE M.Gam M.call v σ1 g5 with
                  | no => rw [qv] at qst; cases qst
                  | ex => rw [qv] at qst; cases qst
                  | ok z g6 =>
                    rw [qv] at qst
                    have qst : Out.opt (putD y z acc.1 acc.2) g6 = .ok acc2 g3 := qst
                    intro W6 H6 e6 r6 v6 hv6
                    obtain ⟨f1, f2, kvs, f3, f4, f5⟩ := own5.ext r5 e6
                    cases qp : putD y z acc.1 acc.2 with
                    | none => rw [qp] at qst; cases qst
                    | some q =>
                      rw [qp] at qst
                      cases qst
                      obtain ⟨κ, rfl, p1, p2, p3⟩ := put_rep qp f4 f5 hv6
                      have hv5' : v5 = kV κ := key_rep hv5
                      exact ⟨kvs, κ, hv5', f3, p1, W6, _, _, (e15.trans r1 e6).mut hD, r6.mut f1 f2, ⟨f1, f2, _, upd_same, p2, p3⟩, o'⟩
theorem snd_dcomp {kx vx tg iter : Expr} {ifs : List Expr} {scope : Scope} {pos : Pos} {k v : E} {t : Tg} {it : Iv} {own : List Nat} {c : Ot} {nms : List Str} (hc : S.cm = true) (hb : blkC S.N S.sc scope (nms.zip own) = true) (hn : nms.length = own.length)
    (hi : SndI M ini S true tg iter it) (ht : SndG M ini (S.blk scope) tg t) (ho : SndOt M ini (S.blk scope) ifs c) (hk : SndE M ini (S.blk scope) kx k) (he : SndE M ini (S.blk scope) vx v) (hs : noSet iter = true) (hw : ∀ i ∈ t.own, i ∈ own) :
    SndF M ini S (.DictComp kx vx [⟨tg, iter, ifs, 0⟩] scope pos) (.dcomp k v t it own c) := by
  intro X Wx G W g H σ ρ Q r rs o
  have q := comp_tdc hc hb hn hi ht ho hk he hs hw G r rs o
  rw [← own_of hn] at q
  exact mxE_of (pe_dc (G.calm hc) (by rw [G.N]; exact G.nd) pi_mx (blk_of G hb)
    (fun s H0 C cl fp => ⟨fun pins s' σ H v u Q I r h => h s H0 C cl fp pins s' u I r⟩) (fun s H0 C cl fp => ⟨fun pins s' σ H Q I h => h s H0 C cl fp pins s' I⟩) (fun s H0 C cl fp => ⟨fun pins s' σ H Q I h => h s H0 C cl fp pins s' I⟩) (fun s H0 C cl fp => ⟨fun pins s' σ H Q I h => h s H0 C cl fp pins s' I⟩) (noSet_of hs)) q
theorem swap_dcomp {X : Cx} {Wx : WX} (G : Good M ini S X Wx) (hk : S.sc.kind = .function) {kx vx : Expr} {gs : List Comprehension} {scope : Scope} {pos py : Pos} {y : Str} {n : Nat} :
    swapsWith (.DictComp kx vx gs scope pos) (some (.Name y py)) n X.env = pure (swB S scope y py pos) := by
  have hb : X.env.blockKind = .function := by
    unfold Env.blockKind
    rw [G.sc, hk]
    rfl
  show (do return X.env.blockKind == .function && X.env.kindOf y == some .local && py.line == pos.line && !(scope.names.any fun (n, k) => n == y && (k == .local || k == .cell)) : Sem Bool) = _
  rw [hb]
  unfold Env.kindOf swB
  rw [G.sc]
  rfl
theorem snd_aD {kx vx tg iter : Expr} {ifs : List Expr} {scope : Scope} {pos : Pos} {k v : E} {t : Tg} {it : Iv} {own : List Nat} {c : Ot} {nms : List Str} {y : Str} {py spos : Pos} {i : Nat} (hc : S.cm = true) (hb : blkC S.N S.sc scope (nms.zip own) = true) (hn : nms.length = own.length)
    (hi : SndI M ini S true tg iter it) (ht : SndG M ini (S.blk scope) tg t) (ho : SndOt M ini (S.blk scope) ifs c) (hk' : SndE M ini (S.blk scope) kx k) (he : SndE M ini (S.blk scope) vx v) (hs : noSet iter = true) (hw : ∀ i ∈ t.own, i ∈ own) (hy : locB S i y = true) (hk : S.sc.kind = .function) :
    SndA M ini S (.DictComp kx vx [⟨tg, iter, ifs, 0⟩] scope pos) (.dcomp k v t it own c) y py spos i := by
  intro X Wx G W g H σ ρ Dn r rs o
  obtain ⟨h1, h2, h3⟩ := locB_of G hy
  have q := comp_tdc hc hb hn hi ht ho hk' he hs hw G r rs o
  have sw := swap_dcomp G hk (kx := kx) (vx := vx) (gs := [⟨tg, iter, ifs, 0⟩]) (scope := scope) (pos := pos) (py := py) (y := y) (n := spos.line)
  rw [← own_of hn] at q
  cases z : swB S scope y py pos with
  | true =>
    rw [z] at sw
    have hl : X.env.scope.names.lookup y = some .local := by
      unfold swB at z
      simp only [Bool.and_eq_true] at z
      rw [G.sc]
      exact beq_iff_eq.mp z.1.1
    exact mxS_of (ps_setDc (g := gBlk X scope tg) (tt := ttBlk X scope ifs) (tk := teBlk X scope kx) (tv := teBlk X scope vx) (G.calm hc) (by rw [G.N]; exact G.nd) h1 hl sw pi_mx (blk_of G hb)
      (fun s H0 C cl fp => ⟨fun pins s' σ H v u Q I r h => h s H0 C cl fp pins s' u I r⟩) (fun s H0 C cl fp => ⟨fun pins s' σ H Q I h => h s H0 C cl fp pins s' I⟩) (fun s H0 C cl fp => ⟨fun pins s' σ H Q I h => h s H0 C cl fp pins s' I⟩) (fun s H0 C cl fp => ⟨fun pins s' σ H Q I h => h s H0 C cl fp pins s' I⟩) (noSet_of hs)) q
  | false =>
    rw [z] at sw
    exact mxS_of (ps_set (by rw [G.N]; exact G.nd) h1 h2 (pe_dc (g := gBlk X scope tg) (tt := ttBlk X scope ifs) (tk := teBlk X scope kx) (tv := teBlk X scope vx) (G.calm hc) (by rw [G.N]; exact G.nd) pi_mx (blk_of G hb)
      (fun s H0 C cl fp => ⟨fun pins s' σ H v u Q I r h => h s H0 C cl fp pins s' u I r⟩) (fun s H0 C cl fp => ⟨fun pins s' σ H Q I h => h s H0 C cl fp pins s' I⟩) (fun s H0 C cl fp => ⟨fun pins s' σ H Q I h => h s H0 C cl fp pins s' I⟩) (fun s H0 C cl fp => ⟨fun pins s' σ H Q I h => h s H0 C cl fp pins s' I⟩) (noSet_of hs)) sw h3) q
end
end VM

namespace VM
open PySem L2
/-! ### the checker: a text and its syntax -/
structure Tb where
  nm : Nm
  fld : Nat → Str
  flds : List Nat
  clss : List Nat
  fns : List Nat
  mths : List Nat
  xcs : List Nat
  Gam : Prog
/-- the rest of a chain of and, or -/
def restB (op : BoolOp) (y : Expr) (r : List Expr) (pos : Pos) : Expr := match r with
  | [] => y
  | z :: r => .BoolOp op (y :: z :: r) pos
def tyB' (B : Tb) (S : Sc) (t : Ty) (e : Expr) : Bool := match e with
  | .Name y _ => globB S y && (match t with
    | .cls c => decide (y = B.nm.cls c) && B.clss.contains c
    | t => decide (y = tyS t))
  | _ => false
def tysB' (B : Tb) (S : Sc) : List Ty → List Expr → Bool
  | [], [] => true
  | t :: ts, e :: es => tyB' B S t e && tysB' B S ts es
  | _, _ => false
def lenE : Es → Nat
  | .nil => 0
  | .cons _ r => lenE r + 1
mutual
def okTg (S : Sc) : Tg → Expr → Bool
  | .n i, e => match e with
    | .Name x _ => locB S i x
    | _ => false
  | .t ts, e => match e with
    | .Tuple es _ _ => okTgs S ts es && S.cm
    | _ => false
def okTgs (S : Sc) : Tgs → List Expr → Bool
  | .nil, es => es.isEmpty
  | .cons t ts, es => match es with
    | e :: es => okTg S t e && plainTg e && okTgs S ts es
    | [] => false
end
mutual
def okE (B : Tb) (S : Sc) : E → Expr → Bool
  | .cst d, e => match d with
    | .fn f => (match e with
      | .Name x _ => decide (x = B.nm.fn f) && globB S x && B.fns.contains f
      | _ => false)
    | d => cstB d e
  | .v i, e => match e with
    | .Name x _ => visB S i x
    | _ => false
  | .gc k, e => match e with
    | .Name x _ => decide (x = B.nm.con k) && globB S x
    | _ => false
  | .bin o a b, e => match e with
    | .BinOp x op y _ => decide (op = opOf o) && okP B S a x && okP B S b y
    | _ => false
  | .neg a, e => match e with
    | .UnaryOp .USub x _ => okE B S a x
    | _ => false
  | .not_ t, e => match e with
    | .UnaryOp .Not x _ => (match t with
      | .e a => okE B S a x
      | .m i => (match x with
        | .Name n _ => visB S i n
        | _ => false)
      | _ => false)
    | _ => false
  | .and_ a b, e => match e with
    | .BoolOp .And (x :: y :: r) pos => okE B S a x && okE B S b (restB .And y r pos)
    | _ => false
  | .or_ a b, e => match e with
    | .BoolOp .Or (x :: y :: r) pos => okE B S a x && okE B S b (restB .Or y r pos)
    | _ => false
  | .cmp o a b, e => match e with
    | .Compare x [op] [y] _ => decide (op = coOf o) && okP B S a x && okP B S b y && notSet y && inC S o
    | _ => false
  | .chn o o' a b c, e => match e with
    | .Compare x [op, op'] [y, z] _ => decide (op = coOf o) && decide (op' = coOf o') && okE B S a x && okE B S b y && okE B S c z && notSet z && inC S o && inC S o'
    | _ => false
  | .ife c a b, e => match e with
    | .IfExp t x y _ => okT B S c t && okE B S a x && okE B S b y
    | _ => false
  | .tup es, e => match e with
    | .Tuple xs _ _ => okEs B S es xs && decide (es.len ≤ sizeM)
    | _ => false
  | .fz f, e => okF B S f e
  | .ng f, e => okF B S f e
  | .idx a i, e => match e with
    | .Subscript x y _ => okP B S a x && okE B S i y && plainIx y
    | _ => false
  | .sl a lo hi, e => match e with
    | .Subscript x (.Slice l h none _) _ => okP B S a x && okOe B S lo l && okOe B S hi h
    | _ => false
  | .att a f, e => match e with
    | .Attribute x n _ => okE B S a x && decide (n = B.fld f) && B.flds.contains f && plainBase x
    | _ => false
  | .atm i f, e => match e with
    | .Attribute (.Name x _) n _ => visB S i x && decide (n = B.fld f) && B.flds.contains f
    | _ => false
  | .call f es, e => match e with
    | .Call (.Name x _) xs [] _ => okEs B S es xs && decide (x = B.nm.fn f) && globB S x && B.fns.contains f && S.cm
    | _ => false
  | .calv i es, e => match e with
    | .Call (.Name x _) xs [] _ => okEs B S es xs && visB S i x && S.cm
    | _ => false
  | .new c es, e => match e with
    | .Call (.Name x _) xs [] _ => okEs B S es xs && decide (x = B.nm.cls c) && globB S x && B.clss.contains c && S.cm && (match B.Gam.cls c with
      | some k => decide (k.kind ≠ .exc) && k.init.isSome
      | none => false)
    | _ => false
  | .meth a m es, e => match e with
    | .Call (.Attribute x n apos) xs [] pos => okE B S a x && okEs B S es xs && decide (n = B.nm.mth m) && B.mths.contains m && plainBase x && decide (xs.length < 30) && (apos.endLine == pos.line) && S.cm
    | _ => false
  | .len a, e => match e with
    | .Call (.Name x _) [y] [] _ => decide (x = "len") && okP B S a y && globB S x && notStar y
    | _ => false
  | .isi a ts, e => match e with
    | .Call (.Name x _) [y, c] [] _ => decide (x = "isinstance") && okP B S a y && globB S x && notStar y && (match ts with
      | [t] => tyB' B S t c
      | ts => (match c with
        | .Tuple cs _ _ => tysB' B S ts cs && decide (ts.length ≤ sizeM) && !ts.isEmpty
        | _ => false))
    | _ => false
  | .bi n ps, e => match ps with
    | .cons p .nil => (match e with
      | .Call (.Name x _) [y] [] _ => decide (x = biN n) && okP B S p y && globB S x && notStar y && S.cm
      | _ => false)
    | .cons p (.cons q .nil) => (match e with
      | .Call (.Name x _) [y, z] [] _ => decide (x = biN n) && okP B S p y && okP B S q z && globB S x && notStar y && notStar z && S.cm
      | _ => false)
    | _ => false
  | .bm a m ps, e => match m with
    | .join => (match a with
      | .e (.cst (.str s)) => (match ps with
        | .cons p .nil => (match e with
          | .Call (.Attribute (.Constant (.str t) _ _) x apos) [y] [] pos => decide (t = s) && decide (x = "join") && okP B S p y && notStar y && (apos.endLine == pos.line)
          | _ => false)
        | _ => false)
      | _ => false)
    | .upper => (match ps with
      | .nil => (match e with
        | .Call (.Attribute o x apos) [] [] pos => decide (x = "upper") && okP B S a o && plainBase o && (apos.endLine == pos.line)
        | _ => false)
      | _ => false)
    | .rfind => (match ps with
      | .cons (.e (.cst (.str t))) .nil => (match e with
        | .Call (.Attribute o x apos) [.Constant (.str u) _ _] [] pos => decide (x = "rfind") && decide (u = t) && okP B S a o && plainBase o && (apos.endLine == pos.line)
        | _ => false)
      | _ => false)
    | .get => (match a with
      | .e (.v i) => (match ps with
        | .cons (.e (.v j)) (.cons (.e (.v k)) .nil) => (match e with
          | .Call (.Attribute (.Name x _) n apos) [.Name y _, .Name z _] [] pos => decide (n = "get") && visB S i x && visB S j y && visB S k z && (apos.endLine == pos.line)
          | _ => false)
        | _ => false)
      | _ => false)
    | _ => false
def okP (B : Tb) (S : Sc) : P → Expr → Bool
  | .e a, e => okE B S a e
  | .m i, e => match e with
    | .Name x _ => visB S i x
    | _ => false
def okT (B : Tb) (S : Sc) : T → Expr → Bool
  | .e a, e => match e with
    | .Compare .. => okE B S a e && (match a with
      | .cmp .. => true
      | .chn .. => true
      | _ => false)
    | e => okE B S a e && plainT e
  | .m i, e => match e with
    | .Name x _ => visB S i x
    | _ => false
  | .not_ a, e => match e with
    | .UnaryOp .Not x _ => okT B S a x
    | _ => false
  | .and_ a b, e => match e with
    | .BoolOp .And (x :: y :: r) pos => okT B S a x && okT B S b (restB .And y r pos)
    | _ => false
  | .or_ a b, e => match e with
    | .BoolOp .Or (x :: y :: r) pos => okT B S a x && okT B S b (restB .Or y r pos)
    | _ => false
def okOt (B : Tb) (S : Sc) : Ot → List Expr → Bool
  | .none, es => es.isEmpty
  | .some t, es => match es with
    | [e] => okT B S t e
    | _ => false
def okF (B : Tb) (S : Sc) : F → Expr → Bool
  | .lst es, e => match e with
    | .List xs _ => okEs B S es xs && decide (es.len ≤ sizeM)
    | _ => false
  | .comp elt tg it own c, e => match e with
    | .ListComp x [⟨t, iter, ifs, 0⟩] scope _ => okE B (S.blk scope) elt x && okTg (S.blk scope) tg t && okIv B S true it t iter && okOt B (S.blk scope) c ifs && noSet iter && S.cm &&
        blkC S.N S.sc scope ((own.map fun i => S.N.getD i "").zip own) && tg.own.all own.contains
    | _ => false
  | .list a, e => match e with
    | .Call (.Name x _) [y] [] _ => decide (x = "list") && okP B S a y && globB S x && notStar y
    | _ => false
  | .cat a b, e => match e with
    | .BinOp x .Add y _ => okP B S a x && okP B S b y
    | _ => false
  | .rep a b, e => match e with
    | .BinOp x .Mult y _ => okP B S a x && okE B S b y
    | _ => false
  | .call f es, e => match e with
    | .Call (.Name x _) xs [] _ => okEs B S es xs && decide (x = B.nm.fn f) && globB S x && B.fns.contains f && S.cm
    | _ => false
  | .split a b, e => match b with
    | .cst (.str t) => (match e with
      | .Call (.Attribute o x apos) [.Constant (.str u) _ _] [] pos => decide (x = "split") && decide (u = t) && okE B S a o && plainBase o && (apos.endLine == pos.line)
      | _ => false)
    | _ => false
  | .dcomp k v tg it own c, e => match e with
    | .DictComp x y [⟨t, iter, ifs, 0⟩] scope _ => okE B (S.blk scope) k x && okE B (S.blk scope) v y && okTg (S.blk scope) tg t && okIv B S true it t iter && okOt B (S.blk scope) c ifs && noSet iter && S.cm &&
        blkC S.N S.sc scope ((own.map fun i => S.N.getD i "").zip own) && tg.own.all own.contains
    | _ => false
  | .dlit ps, e => match e with
    | .Dict ks vs _ => okPr B S ps ks vs && decide (ks.length ≤ 15)
    | _ => false
  | _, _ => false
def okEs (B : Tb) (S : Sc) : Es → List Expr → Bool
  | .nil, es => es.isEmpty
  | .cons a as, es => match es with
    | e :: es => okE B S a e && notStar e && okEs B S as es
    | [] => false
def okPs (B : Tb) (S : Sc) : Ps → List Expr → Bool
  | .nil, es => es.isEmpty
  | .cons a as, es => match es with
    | e :: es => okP B S a e && notStar e && okPs B S as es
    | [] => false
def okPr (B : Tb) (S : Sc) : Prs → List (Option Expr) → List Expr → Bool
  | .nil, ks, vs => ks.isEmpty && vs.isEmpty
  | .cons k v ps, ks, vs => match ks, vs with
    | some x :: ks, y :: vs => okE B S k x && okE B S v y && okPr B S ps ks vs
    | _, _ => false
def okOe (B : Tb) (S : Sc) : Oe → Option Expr → Bool
  | .none, e => e.isNone
  | .some a, e => match e with
    | some e => okE B S a e
    | none => false
def okIv (B : Tb) (S : Sc) (ext : Bool) : Iv → Expr → Expr → Bool
  | .e p, _, e => (match p with
    | .e a => okE B S a e
    | .m i => ext && (match e with
      | .Name x _ => visB S i x
      | _ => false))
  | .rng a, _, e => match e with
    | .Call (.Name x _) [y] [] _ => decide (x = "range") && okE B S a y && globB S x && notStar y
    | _ => false
  | .rng2 a b, _, e => match e with
    | .Call (.Name x _) [y, z] [] _ => decide (x = "range") && okE B S a y && okE B S b z && globB S x && notStar y && notStar z
    | _ => false
  | .enum p, t, e => match p with
    | .e a => (match t, e with
      | .Tuple .., .Call (.Name x _) [y] [] _ => decide (x = "enumerate") && okE B S a y && globB S x && notStar y
      | _, _ => false)
    | .m _ => false
  | .zip p q, t, e => match p with
    | .e a => (match q with
      | .e b => (match t, e with
        | .Tuple .., .Call (.Name x _) [y, z] [] _ => decide (x = "zip") && okE B S a y && okE B S b z && globB S x && notStar y && notStar z
        | _, _ => false)
      | .m _ => false)
    | .m _ => false
  | _, _, _ => false
end
end VM

namespace VM
open PySem L2
/-- the name of a clause: a local one -/
def hnB (S : Sc) (i : Nat) (n : Str) : Bool := S.N[i]? == some n && S.sc.names.lookup n == some .local
def xfsB (fld : Nat → Str) (n : Str) : List Nat → List Expr → Bool
  | [], es => es.isEmpty
  | f :: fs, es => match es with
    | e :: es => (match e with
      | .Attribute (.Name m _) g _ => decide (m = n) && decide (g = fld f)
      | _ => false) && xfsB fld n fs es
    | [] => false
/-- the fields, several as a tuple or one -/
def getB (fld : Nat → Str) (n : Str) (tup : Bool) (fs : List Nat) (e : Expr) : Bool := if tup then (match e with
    | .Tuple es _ _ => xfsB fld n fs es && decide (fs.length ≤ sizeM)
    | _ => false) else (match fs with
    | [f] => xfsB fld n [f] [e]
    | _ => false)
/-- name = a new list or dict -/
def okA (B : Tb) (S : Sc) (i : Nat) (f : F) (y : Str) (e : Expr) : Bool := okF B S f e && locB S i y && (noComp e || decide (S.sc.kind = .function))
/-- isinstance(n, c) -/
def isiN (S : Sc) (n c : Str) : Expr → Bool
  | .Call (.Name x _) [.Name m _, .Name d _] [] _ => decide (x = "isinstance") && globB S x && decide (m = n) && decide (d = c) && globB S d
  | _ => false
/-- isinstance(n.f, c) -/
def isiA (S : Sc) (n f c : Str) : Expr → Bool
  | .Call (.Name x _) [.Attribute (.Name m _) g _, .Name d _] [] _ => decide (x = "isinstance") && globB S x && decide (m = n) && decide (g = f) && decide (d = c) && globB S d
  | _ => false
/-- return (w, k) -/
def retB (w : Str) (k : Int) : List Stmt → Bool
  | [.Return (some (.Tuple [.Constant (.str u) _ _, .Constant (.int j) _ _] _ _)) _] => decide (u = w) && decide (j = k)
  | _ => false
def notP (p : Expr → Bool) : Expr → Bool
  | .UnaryOp .Not e _ => p e
  | _ => false
def toldB (S : Sc) (n c1 c3 f : Str) : List Stmt → Bool
  | [.If (.BoolOp .Or [x1, x2, x3] _) a [] _, .If (.BoolOp .Or [y1, y2] _) b [] _, .Return (some (.Tuple [.Constant (.str u) _ _, .Attribute (.Name m _) g _] _ _)) _] =>
    notP (isiN S n c1) x1 && notP (isiN S n "ValueError") x2 && isiN S n c3 x3 && retB "other" 0 a && isiA S n f "bool" y1 && notP (isiA S n f "int") y2 && retB "other" 1 b && decide (u = "refused") && decide (m = n) && decide (g = f)
  | _ => false
mutual
def okS (B : Tb) (S : Sc) : VM.S → Stmt → Bool
  | .set t x, s => match s with
    | .Assign [tg] e _ => (match x with
      | .fz f => (match t with
        | .n i => (match tg with
          | .Name y _ => okA B S i f y e
          | _ => false)
        | _ => false)
      | .ng f => (match t with
        | .n i => (match tg with
          | .Name y _ => okA B S i f y e
          | _ => false)
        | _ => false)
      | x => okTg S t tg && okE B S x e && noComp e && plainTg tg && (match tg, e with
        | .Tuple .., .Tuple .. => false
        | _, _ => true))
    | _ => false
  | .setm i f, s => match s with
    | .Assign [.Name y _] e _ => okA B S i f y e
    | _ => false
  | .setam i f x, s => match s with
    | .Assign [.Attribute (.Name y _) n _] e _ => visB S i y && decide (n = B.fld f) && B.flds.contains f && okE B S x e
    | _ => false
  | .seti p i x, s => match s with
    | .Assign [.Subscript o j _] e _ => okP B S p o && okE B S i j && okE B S x e && plainIx j
    | _ => false
  | .mut p m es, s => match s with
    | .Expr (.Call (.Attribute o n apos) xs [] cpos) _ => okP B S p o && okEs B S es xs && decide (n = mmN m) && (decide (m = .append) || (decide (m = .insert) || decide (m = .extend))) && plainBase o && decide (xs.length < 30) && !xs.isEmpty && (apos.endLine == cpos.line)
    | _ => false
  | .exp x, s => match s with
    | .Expr e _ => okE B S x e && noComp e
    | _ => false
  | .ret x, s => match s with
    | .Return (some e) _ => okE B S x e
    | _ => false
  | .retf f, s => match s with
    | .Return (some e) _ => okF B S f e
    | _ => false
  | .retm i, s => match s with
    | .Return (some (.Name x _)) _ => visB S i x
    | _ => false
  | .retn, s => match s with
    | .Return none _ => true
    | _ => false
  | .if_ c a b, s => match s with
    | .If e xs ys _ => okT B S c e && okSs B S a xs && okSs B S b ys
    | _ => false
  | .whl c b, s => match s with
    | .While e xs [] _ => okT B S c e && okSs B S b xs
    | _ => false
  | .for_ t it b, s => match s with
    | .For tg e xs [] _ => okTg S t tg && okIv B S false it tg e && okSs B S b xs && noSet e && S.cm
    | _ => false
  | .brk, s => match s with
    | .Break _ => true
    | _ => false
  | .cnt, s => match s with
    | .Continue _ => true
    | _ => false
  | .pass, s => match s with
    | .Pass _ => true
    | _ => false
  | .raise c es, s => match s with
    | .Raise (some (.Call (.Name x _) xs [] _)) none _ => okEs B S es xs && decide (x = B.nm.cls c) && globB S x && B.xcs.contains c && S.cm && (xs.isEmpty == (xfOf B.Gam c).isEmpty)
    | _ => false
  | .try_ b hs, s => match s with
    | .Try xs (h0 :: hds) [] [] _ => okSs B S b xs && okHs B S hs (h0 :: hds)
    | _ => false
  | _, _ => false
def okHs (B : Tb) (S : Sc) : Hs → List ExceptHandler → Bool
  | .nil, hds => hds.isEmpty
  | .cons h i b hs, hds => match hds with
    | .ExceptHandler (some (.Name x _)) n (s0 :: ss) _ :: hds => decide (x = B.nm.cls h) && globB S x && B.xcs.contains h && okSs B { S with cm := false } b (s0 :: ss) && (match i with
        | none => n.isNone
        | some i => (match n with
          | some n => hnB S i n
          | none => false)) && okHs B S hs hds
    | _ => false
  | .get h i j tup fs hs, hds => match hds with
    | .ExceptHandler (some (.Name x _)) (some n) [.Assign [.Name y _] e _] _ :: hds => decide (x = B.nm.cls h) && globB S x && B.xcs.contains h && hnB S i n && visB S i n && locB S j y && getB B.fld n tup fs e && !fs.isEmpty && okHs B S hs hds
    | _ => false
  | .told h i c1 c3 f hs, hds => match hds with
    | .ExceptHandler (some (.Name x _)) (some n) ss _ :: hds => decide (x = B.nm.cls h) && globB S x && B.xcs.contains h && hnB S i n && visB S i n && B.xcs.contains c1 && B.xcs.contains c3 && toldB S n (B.nm.cls c1) (B.nm.cls c3) (B.fld f) ss && okHs B S hs hds
    | _ => false
def okSs (B : Tb) (S : Sc) : Ss → List Stmt → Bool
  | .nil, ss => match ss with
    | [] => true
    | _ => false
  | .cons x xs, ss => match x with
    | .frz _ => okSs B S xs ss
    | .fzg _ => okSs B S xs ss
    | x => match ss with
      | s :: ss => okS B S x s && okSs B S xs ss
      | [] => false
end
end VM

namespace VM
open PySem L2 SeqAt PyProof.Rows
section
variable {M : Cf} {ini : Nat → Option Nat} {S : Sc}
/-- a call that hands back a new list or dict -/
theorem snd_fcall {es : List Expr} {xs : Es} {f : Nat} {x : Str} {p pos : Pos} (ha : SndEs M ini S es xs) (hx : x = M.nm.fn f) (hg : globB S x = true) (hf : f ∈ M.fns) (hs : es.all notStar = true) (hc : S.cm = true) :
    SndF M ini S (.Call (.Name x p) es [] pos) (.call f xs) := by
  intro X Wx G W g H σ ρ Q r rs o
  subst hx
  have o : M.Ok W g H ((evEs M.Gam M.call xs σ g).bind fun ds g => (M.call f ds g).bind fun r g => match r with
    | .f r => Out.ok r g
    | .v _ => .no) (WE Wx ρ) (EndF M H Q) := o
  obtain ⟨a, hA⟩ := G.fx f hf
  obtain ⟨fd, ps, k, F, hr, hb⟩ := G.gl f a hA hc
  obtain ⟨h1, h2⟩ := globB_of G hg
  obtain ⟨m1, m2⟩ := G.fnm f a hA
  refine mxE_of (pe_callF (CX := L2.CX X.prog X.w) (E := WE Wx) (pe_glob (v := .ref a) h1 (by rw [G.mg]; exact m1) rfl h2) hs pa_mx) ⟨a, fd, ps, k, _, rfl, F, hr, by rw [G.K]; exact m2, hb, passAt G.tk ρ, ?_⟩
  cases qa : evEs M.Gam M.call xs σ g with
  | no => rw [qa] at o; exact o.elim
  | ex => rw [qa] at o; exact ha X Wx G W g H σ ρ _ r rs (by rw [qa]; exact o)
  | ok ds g1 =>
    rw [qa] at o
    have o : M.Ok W g H ((M.call f ds g1).bind fun r g => match r with
      | .f r => Out.ok r g
      | .v _ => .no) (WE Wx ρ) (EndF M H Q) := o
    refine ha X Wx G W g H σ ρ _ r rs ?_
    rw [qa]
    intro W1 H1 e1 r1 vs hvs
    refine ⟨W1, g1, ds, r1, hvs, ?_⟩
    cases qc : M.call f ds g1 with
    | no => rw [qc] at o; exact o.elim
    | ex cc dd g' => rw [qc] at o; exact Ok.shift (o := .ex cc dd g') e1 r o
    | ok rv g2 =>
      rw [qc] at o
      cases rv with
      | v d => exact o.elim
      | f fr =>
        intro W2 H2 e2 r2 v hv
        obtain ⟨b, rfl, h3, h4, h5, h6⟩ := hv
        exact o W2 H2 (e1.trans r e2) r2 b (fresh_of e1 h3) h4 h5 h6
end
end VM

namespace VM
open PySem L2 SeqAt PyProof.Rows
section
variable {M : Cf} {ini : Nat → Option Nat} {S : Sc}
theorem okTgs_shape : ∀ {ts : Tgs} {es : List Expr}, okTgs S ts es = true → es.all plainTg = true ∧ es.length = ts.len
  | .nil, [], _ => ⟨rfl, rfl⟩
  | .nil, _ :: _, h => by cases h
  | .cons t ts, [], h => by cases h
  | .cons t ts, e :: es, h => by
    have h : (okTg S t e && plainTg e && okTgs S ts es) = true := h
    rw [Bool.and_eq_true, Bool.and_eq_true] at h
    obtain ⟨h1, h2⟩ := okTgs_shape h.2
    refine ⟨by rw [List.all_cons, h.1.2, h1]; rfl, ?_⟩
    show es.length + 1 = ts.len + 1
    rw [h2]
mutual
theorem okTg_ok : ∀ {t : Tg} {e : Expr}, okTg S t e = true → SndG M ini S e t
  | .n i, e, h => by
    cases e with
    | Name x p => exact snd_gn h
    | _ => cases h
  | .t ts, e, h => by
    cases e with
    | Tuple es k p =>
      have h : (okTgs S ts es && S.cm) = true := h
      rw [Bool.and_eq_true] at h
      obtain ⟨h1, h2⟩ := okTgs_shape h.1
      exact snd_gt (okTgs_ok h.1) h1 h2 h.2
    | _ => cases h
theorem okTgs_ok : ∀ {ts : Tgs} {es : List Expr}, okTgs S ts es = true → SndGs M ini S es ts
  | .nil, [], _ => snd_gsnil
  | .nil, _ :: _, h => by cases h
  | .cons t ts, [], h => by cases h
  | .cons t ts, e :: es, h => by
    have h : (okTg S t e && plainTg e && okTgs S ts es) = true := h
    rw [Bool.and_eq_true, Bool.and_eq_true] at h
    exact snd_gscons (okTg_ok h.1.1) (okTgs_ok h.2) h.1.2
end
/-- a law's tables and what is known -/
structure TbOk (M : Cf) (B : Tb) : Prop where
  nm : M.nm = B.nm
  fld : ∀ f, M.C.fld f = B.fld f
  flds : M.flds = B.flds
  clss : M.clss = B.clss
  fns : M.fns = B.fns
  mths : M.mths = B.mths
  xcs : M.xcs = B.xcs
  Gam : M.Gam = B.Gam
  fa : ∀ f ∈ M.fns, ∃ a, M.C.fA f = some a
theorem tyB_eq {B : Tb} (T : TbOk M B) {t : Ty} {e : Expr} : tyB M S t e = tyB' B S t e := by
  unfold tyB tyB'
  rw [T.nm, T.clss]
  all_goals (cases e <;> rfl)
theorem tysB_eq {B : Tb} (T : TbOk M B) : ∀ {ts : List Ty} {es : List Expr}, tysB M S ts es = tysB' B S ts es
  | [], [] => rfl
  | t :: ts, e :: es => by
    show (tyB M S t e && tysB M S ts es) = (tyB' B S t e && tysB' B S ts es)
    rw [tyB_eq T, tysB_eq T]
  | [], _ :: _ => rfl
  | _ :: _, [] => rfl
theorem okEs_star {B : Tb} : ∀ {xs : Es} {es : List Expr}, okEs B S xs es = true → es.all notStar = true
  | .nil, [], _ => rfl
  | .nil, _ :: _, h => by cases h
  | .cons a as, [], h => by cases h
  | .cons a as, e :: es, h => by
    have h : (okE B S a e && notStar e && okEs B S as es) = true := h
    rw [Bool.and_eq_true, Bool.and_eq_true] at h
    rw [List.all_cons, h.1.2, okEs_star h.2]
    rfl
end
end VM

set_option maxHeartbeats 8000000
namespace VM
open PySem L2 SeqAt PyProof.Rows
section
variable {M : Cf} {ini : Nat → Option Nat} {B : Tb}
theorem rest_and {S : Sc} {y : Expr} {r : List Expr} {pos : Pos} {b : E} (h : SndE M ini S (restB .And y r pos) b) : SndE M ini S (.BoolOp .And (y :: r) pos) b := by
  cases r with
  | nil => exact snd_one h
  | cons z r => exact h
theorem rest_or {S : Sc} {y : Expr} {r : List Expr} {pos : Pos} {b : E} (h : SndE M ini S (restB .Or y r pos) b) : SndE M ini S (.BoolOp .Or (y :: r) pos) b := by
  cases r with
  | nil => exact snd_one h
  | cons z r => exact h
theorem nodup_getD (N : List Str) (own : List Nat) : (own.map fun i => N.getD i "").length = own.length := List.length_map _
/-- what is left of chains of tests -/
def SndTW (M : Cf) (ini : Nat → Option Nat) (S : Sc) (e : Expr) (x : T) : Prop := SndT M ini S e x ∧ ∀ op r pos, e = .BoolOp op r pos → SndW M ini S e x
theorem restT_and {S : Sc} {y : Expr} {r : List Expr} {pos : Pos} {b : T} (h : SndTW M ini S (restB .And y r pos) b) : SndW M ini S (.BoolOp .And (y :: r) pos) b := by
  cases r with
  | nil => exact snd_tand1 h.1
  | cons z r => exact h.2 _ _ _ rfl
theorem restT_or {S : Sc} {y : Expr} {r : List Expr} {pos : Pos} {b : T} (h : SndTW M ini S (restB .Or y r pos) b) : SndW M ini S (.BoolOp .Or (y :: r) pos) b := by
  cases r with
  | nil => exact snd_tor1 h.1
  | cons z r => exact h.2 _ _ _ rfl
end
end VM

set_option maxHeartbeats 8000000
namespace VM
open PySem L2 SeqAt PyProof.Rows
section
variable {M : Cf} {ini : Nat → Option Nat} {B : Tb}
mutual
theorem okE_ok (T : TbOk M B) : ∀ {x : E} {S : Sc} {e : Expr}, okE B S x e = true → SndE M ini S e x
  | .cst d, S, e, h => by
    cases d with
    | fn f =>
      cases e with
      | Name y p =>
        have h : (decide (y = B.nm.fn f) && globB S y && B.fns.contains f) = true := h
        simp only [Bool.and_eq_true, decide_eq_true_eq] at h
        obtain ⟨a, hA⟩ := T.fa f (by rw [T.fns]; simpa using h.2)
        exact snd_fnv hA (by rw [T.nm]; exact h.1.1) h.1.2
      | _ => cases h
    | _ => exact snd_cst h
  | .v i, S, e, h => by
    cases e with
    | Name y p => exact snd_v h
    | _ => cases h
  | .gc k, S, e, h => by
    cases e with
    | Name y p =>
      have h : (decide (y = B.nm.con k) && globB S y) = true := h
      simp only [Bool.and_eq_true, decide_eq_true_eq] at h
      exact snd_gc (by rw [T.nm]; exact h.1) h.2
    | _ => cases h
  | .bin o a b, S, e, h => by
    cases e with
    | BinOp x op y p =>
      have h : (decide (op = opOf o) && okP B S a x && okP B S b y) = true := h
      simp only [Bool.and_eq_true, decide_eq_true_eq] at h
      obtain ⟨⟨rfl, h1⟩, h2⟩ := h
      exact snd_bin (okP_ok T h1) (okP_ok T h2)
    | _ => cases h
  | .neg a, S, e, h => by
    unfold okE at h
    split at h
    · exact snd_neg (okE_ok T h)
    · cases h
  | .not_ t, S, e, h => by
    unfold okE at h
    split at h
    · split at h
      · exact snd_not (okE_ok T h)
      · split at h
        · exact snd_notM (snd_m h)
        · cases h
      · cases h
    · cases h
  | .and_ a b, S, e, h => by
    unfold okE at h
    split at h
    · rw [Bool.and_eq_true] at h
      exact snd_and (okE_ok T h.1) (rest_and (okE_ok T h.2))
    · cases h
  | .or_ a b, S, e, h => by
    unfold okE at h
    split at h
    · rw [Bool.and_eq_true] at h
      exact snd_or (okE_ok T h.1) (rest_or (okE_ok T h.2))
    · cases h
  | .cmp o a b, S, e, h => by
    unfold okE at h
    split at h
    · simp only [Bool.and_eq_true, decide_eq_true_eq] at h
      obtain ⟨⟨⟨⟨rfl, h1⟩, h2⟩, h3⟩, h4⟩ := h
      exact snd_cmp (okP_ok T h1) (okP_ok T h2) h3 h4
    · cases h
  | .chn o o' a b c, S, e, h => by
    unfold okE at h
    split at h
    · simp only [Bool.and_eq_true, decide_eq_true_eq] at h
      obtain ⟨⟨⟨⟨⟨⟨⟨rfl, rfl⟩, h1⟩, h2⟩, h3⟩, h4⟩, h5⟩, h6⟩ := h
      exact snd_chn (okE_ok T h1) (okE_ok T h2) (okE_ok T h3) h4 h5 h6
    · cases h
  | .ife c a b, S, e, h => by
    unfold okE at h
    split at h
    · simp only [Bool.and_eq_true] at h
      exact snd_ife (okT_ok T h.1.1).1 (okE_ok T h.1.2) (okE_ok T h.2)
    · cases h
  | .tup es, S, e, h => by
    unfold okE at h
    split at h
    · simp only [Bool.and_eq_true, decide_eq_true_eq] at h
      exact snd_tup (okEs_ok T h.1) h.2
    · cases h
  | .fz f, S, e, h => snd_fz (okF_ok T h)
  | .ng f, S, e, h => snd_ng (okF_ok T h)
  | .idx a i, S, e, h => by
    unfold okE at h
    split at h
    · simp only [Bool.and_eq_true] at h
      exact snd_idx (okP_ok T h.1.1) (okE_ok T h.1.2) h.2
    · cases h
  | .sl a lo hi, S, e, h => by
    unfold okE at h
    split at h
    · simp only [Bool.and_eq_true] at h
      exact snd_sl (okP_ok T h.1.1) (okOe_ok T h.1.2) (okOe_ok T h.2)
    · cases h
  | .att a f, S, e, h => by
    unfold okE at h
    split at h
    · simp only [Bool.and_eq_true, decide_eq_true_eq] at h
      exact snd_att (okE_ok T h.1.1.1) (by rw [T.fld]; exact h.1.1.2) (by rw [T.flds]; simpa using h.1.2) h.2
    · cases h
  | .atm i f, S, e, h => by
    unfold okE at h
    split at h
    · simp only [Bool.and_eq_true, decide_eq_true_eq] at h
      exact snd_atm h.1.1 (by rw [T.fld]; exact h.1.2) (by rw [T.flds]; simpa using h.2)
    · cases h
  | .call f es, S, e, h => by
    unfold okE at h
    split at h
    · simp only [Bool.and_eq_true, decide_eq_true_eq] at h
      exact snd_call (okEs_ok T h.1.1.1.1) (by rw [T.nm]; exact h.1.1.1.2) h.1.1.2 (by rw [T.fns]; simpa using h.1.2) (okEs_star h.1.1.1.1) h.2
    · cases h
  | .calv i es, S, e, h => by
    unfold okE at h
    split at h
    · simp only [Bool.and_eq_true] at h
      exact snd_calv (okEs_ok T h.1.1) h.1.2 (okEs_star h.1.1) h.2
    · cases h
  | .new c es, S, e, h => by
    unfold okE at h
    split at h
    · simp only [Bool.and_eq_true, decide_eq_true_eq] at h
      exact snd_new (okEs_ok T h.1.1.1.1.1) (by rw [T.nm]; exact h.1.1.1.1.2) h.1.1.1.2 (by rw [T.clss]; simpa using h.1.1.2) (okEs_star h.1.1.1.1.1) h.1.2 (by rw [T.Gam]; exact h.2)
    · cases h
  | .meth a m es, S, e, h => by
    unfold okE at h
    split at h
    · simp only [Bool.and_eq_true, decide_eq_true_eq] at h
      exact snd_meth (okE_ok T h.1.1.1.1.1.1.1) (okEs_ok T h.1.1.1.1.1.1.2) (by rw [T.nm]; exact h.1.1.1.1.1.2) (by rw [T.mths]; simpa using h.1.1.1.1.2) h.1.1.1.2 (okEs_star h.1.1.1.1.1.1.2) h.1.1.2 h.1.2 h.2
    · cases h
  | .len a, S, e, h => by
    unfold okE at h
    split at h
    · simp only [Bool.and_eq_true, decide_eq_true_eq] at h
      obtain ⟨⟨⟨rfl, h1⟩, h2⟩, h3⟩ := h
      exact snd_len (okP_ok T h1) h2 h3
    · cases h
  | .isi a ts, S, e, h => by
    unfold okE at h
    split at h
    · simp only [Bool.and_eq_true, decide_eq_true_eq] at h
      obtain ⟨⟨⟨⟨rfl, h1⟩, h2⟩, h3⟩, h4⟩ := h
      split at h4
      · exact snd_isi1 (okP_ok T h1) h2 h3 (by rw [tyB_eq T]; exact h4)
      · split at h4
        · simp only [Bool.and_eq_true, decide_eq_true_eq, Bool.not_eq_true'] at h4
          exact snd_isi (okP_ok T h1) h2 h3 (by rw [tysB_eq T]; exact h4.1.1) h4.1.2 (fun z => by rw [z] at h4; exact absurd h4.2 (by decide))
        · cases h4
    · cases h
  | .bi n (.cons p .nil), S, e, h => by
    unfold okE at h
    dsimp only at h
    split at h
    · simp only [Bool.and_eq_true, decide_eq_true_eq] at h
      obtain ⟨⟨⟨⟨rfl, h1⟩, h2⟩, h3⟩, h4⟩ := h
      exact snd_bi1 (okP_ok T h1) h2 h3 h4
    · cases h
  | .bi n (.cons p (.cons q .nil)), S, e, h => by
    unfold okE at h
    dsimp only at h
    split at h
    · simp only [Bool.and_eq_true, decide_eq_true_eq] at h
      obtain ⟨⟨⟨⟨⟨⟨rfl, h1⟩, h2⟩, h3⟩, h4⟩, h5⟩, h6⟩ := h
      exact snd_bi2 (okP_ok T h1) (okP_ok T h2) h3 h4 h5 h6
    · cases h
  | .bi n .nil, S, e, h => by cases h
  | .bi n (.cons p (.cons q (.cons _ _))), S, e, h => by cases h
  | .bm a m .nil, S, e, h => by
    unfold okE at h
    cases m <;> dsimp only at h <;> try (first | (cases h; done) | (exfalso; split at h <;> cases h; done))
    split at h
    · simp only [Bool.and_eq_true, decide_eq_true_eq] at h
      obtain ⟨⟨⟨rfl, h1⟩, h2⟩, h3⟩ := h
      exact snd_upper (okP_ok T h1) h2 h3
    · cases h
  | .bm a m (.cons p (.cons p2 r)), S, e, h => by
    unfold okE at h
    cases m <;> dsimp only at h <;> try (first | (cases h; done) | (exfalso; split at h <;> cases h; done))
    split at h
    · split at h
      · rename_i hq
        cases hq
        split at h
        · simp only [Bool.and_eq_true, decide_eq_true_eq] at h
          obtain ⟨⟨⟨⟨rfl, h1⟩, h2⟩, h3⟩, h4⟩ := h
          exact snd_get h1 h2 h3 h4
        · cases h
      · cases h
    · cases h
    · exfalso
      split at h
      · rename_i hq
        cases hq
      · cases h
  | .bm a m (.cons p .nil), S, e, h => by
    unfold okE at h
    cases m <;> dsimp only at h <;> try (first | (cases h; done) | (exfalso; split at h <;> cases h; done))
    · split at h
      · exfalso
        split at h
        · rename_i hq
          cases hq
        · cases h
      · cases h
    · split at h
      · split at h
        · simp only [Bool.and_eq_true, decide_eq_true_eq] at h
          obtain ⟨⟨⟨⟨rfl, rfl⟩, h1⟩, h2⟩, h3⟩ := h
          exact snd_join rfl (okP_ok T h1) h2 h3
        · cases h
      · cases h
    · split at h
      · rename_i hq
        cases hq
        split at h
        · simp only [Bool.and_eq_true, decide_eq_true_eq] at h
          obtain ⟨⟨⟨⟨rfl, rfl⟩, h1⟩, h2⟩, h3⟩ := h
          exact snd_rfind (okP_ok T h1) h2 h3
        · cases h
      · cases h
theorem okP_ok (T : TbOk M B) : ∀ {x : P} {S : Sc} {e : Expr}, okP B S x e = true → SndP M ini S e x
  | .e a, S, e, h => (okE_ok T h).p
  | .m i, S, e, h => by
    cases e with
    | Name y p => exact snd_m h
    | _ => cases h
theorem okT_ok (T : TbOk M B) : ∀ {x : VM.T} {S : Sc} {e : Expr}, okT B S x e = true → SndTW M ini S e x
  | .e a, S, e, h => by
    cases e with
    | Compare x ops ys p =>
      unfold okT at h
      dsimp only at h
      refine ⟨?_, fun _ _ _ z => nomatch z⟩
      rw [Bool.and_eq_true] at h
      cases a with
      | cmp o u v =>
        have h1 := h.1
        unfold okE at h1
        split at h1
        · rename_i e1
          cases e1
          simp only [Bool.and_eq_true, decide_eq_true_eq] at h1
          obtain ⟨⟨⟨⟨rfl, k1⟩, k2⟩, k3⟩, k4⟩ := h1
          exact snd_tcmp (okP_ok T k1) (okP_ok T k2) k3 k4
        · cases h1
      | chn o o' u v w =>
        have h1 := h.1
        unfold okE at h1
        split at h1
        · rename_i e1
          cases e1
          simp only [Bool.and_eq_true, decide_eq_true_eq] at h1
          obtain ⟨⟨⟨⟨⟨⟨⟨rfl, rfl⟩, k1⟩, k2⟩, k3⟩, k4⟩, k5⟩, k6⟩ := h1
          exact snd_tchn (okE_ok T k1) (okE_ok T k2) (okE_ok T k3) k4 k5 k6
        · cases h1
      | _ => cases h.2
    | BoolOp op vs p =>
      have h : (okE B S a (.BoolOp op vs p) && plainT (.BoolOp op vs p)) = true := h
      rw [Bool.and_eq_true] at h
      cases h.2
    | _ =>
      unfold okT at h
      rw [Bool.and_eq_true] at h
      exact ⟨snd_te (okE_ok T h.1) h.2, fun _ _ _ z => nomatch z⟩
  | .m i, S, e, h => by
    cases e with
    | Name y p => exact ⟨snd_tm (snd_m h) rfl, fun _ _ _ z => nomatch z⟩
    | _ => cases h
  | .not_ a, S, e, h => by
    unfold okT at h
    split at h
    · exact ⟨snd_tnot (okT_ok T h).1, fun _ _ _ z => nomatch z⟩
    · cases h
  | .and_ a b, S, e, h => by
    unfold okT at h
    split at h
    · rw [Bool.and_eq_true] at h
      have k := snd_tand (okT_ok T h.1).1 (restT_and (okT_ok T h.2))
      exact ⟨k.t, fun _ _ _ z => by cases z; exact k⟩
    · cases h
  | .or_ a b, S, e, h => by
    unfold okT at h
    split at h
    · rw [Bool.and_eq_true] at h
      have k := snd_tor (okT_ok T h.1).1 (restT_or (okT_ok T h.2))
      exact ⟨k.t, fun _ _ _ z => by cases z; exact k⟩
    · cases h
theorem okF_ok (T : TbOk M B) : ∀ {x : F} {S : Sc} {e : Expr}, okF B S x e = true → SndF M ini S e x
  | .lst es, S, e, h => by
    unfold okF at h
    split at h
    · simp only [Bool.and_eq_true, decide_eq_true_eq] at h
      exact snd_lst (okEs_ok T h.1) h.2
    · cases h
  | .comp elt tg it own c, S, e, h => by
    unfold okF at h
    split at h
    · simp only [Bool.and_eq_true] at h
      obtain ⟨⟨⟨⟨⟨⟨⟨h1, h2⟩, h3⟩, h4⟩, h5⟩, h6⟩, h7⟩, h8⟩ := h
      exact snd_comp h6 h7 (nodup_getD _ _) (okIv_ok T h3) (okTg_ok h2) (okOt_ok T h4) (okE_ok T h1) h5 (fun i hi => by
        have := List.all_eq_true.mp h8 i hi
        simpa using this)
    · cases h
  | .list a, S, e, h => by
    unfold okF at h
    split at h
    · simp only [Bool.and_eq_true, decide_eq_true_eq] at h
      obtain ⟨⟨⟨rfl, h1⟩, h2⟩, h3⟩ := h
      exact snd_flist (okP_ok T h1) h2 h3
    · cases h
  | .cat a b, S, e, h => by
    unfold okF at h
    split at h
    · rw [Bool.and_eq_true] at h
      exact snd_fcat (okP_ok T h.1) (okP_ok T h.2)
    · cases h
  | .rep a b, S, e, h => by
    unfold okF at h
    split at h
    · rw [Bool.and_eq_true] at h
      exact snd_frep (okP_ok T h.1) (okE_ok T h.2)
    · cases h
  | .call f es, S, e, h => by
    unfold okF at h
    split at h
    · simp only [Bool.and_eq_true, decide_eq_true_eq] at h
      exact snd_fcall (okEs_ok T h.1.1.1.1) (by rw [T.nm]; exact h.1.1.1.2) h.1.1.2 (by rw [T.fns]; simpa using h.1.2) (okEs_star h.1.1.1.1) h.2
    · cases h
  | .dlit .nil, S, e, h => by
    unfold okF at h
    split at h
    · rw [Bool.and_eq_true] at h
      have h1 := h.1
      unfold okPr at h1
      rw [Bool.and_eq_true, List.isEmpty_iff, List.isEmpty_iff] at h1
      obtain ⟨rfl, rfl⟩ := h1
      exact snd_dlit0
    · cases h
  | .dlit (.cons k v ps), S, e, h => by
    unfold okF at h
    split at h
    · rename_i ks vs p
      rw [Bool.and_eq_true, decide_eq_true_eq] at h
      have h1 := h.1
      unfold okPr at h1
      split at h1
      · simp only [Bool.and_eq_true] at h1
        obtain ⟨k1, k2, k3⟩ := okPr_ok T h1.2
        refine snd_dlit (snd_prcons (okE_ok T h1.1.1) (okE_ok T h1.1.2) k1) (by rw [List.all_cons, k2]; rfl) (by rw [List.length_cons, List.length_cons, k3]) (fun z => nomatch z) h.2
      · cases h1
    · cases h
  | .sl .., S, e, h => by cases h
  | .rev .., S, e, h => by cases h
  | .srt .., S, e, h => by cases h
  | .meth .., S, e, h => by cases h
  | .split a b, S, e, h => by
    unfold okF at h
    split at h
    · split at h
      · simp only [Bool.and_eq_true, decide_eq_true_eq] at h
        obtain ⟨⟨⟨⟨rfl, rfl⟩, h1⟩, h2⟩, h3⟩ := h
        exact snd_split (okE_ok T h1) h2 h3
      · cases h
    · cases h
  | .dcomp k v tg it own c, S, e, h => by
    unfold okF at h
    split at h
    · simp only [Bool.and_eq_true] at h
      obtain ⟨⟨⟨⟨⟨⟨⟨⟨h0, h1⟩, h2⟩, h3⟩, h4⟩, h5⟩, h6⟩, h7⟩, h8⟩ := h
      exact snd_dcomp h6 h7 (nodup_getD _ _) (okIv_ok T h3) (okTg_ok h2) (okOt_ok T h4) (okE_ok T h0) (okE_ok T h1) h5 (fun i hi => by
        have := List.all_eq_true.mp h8 i hi
        simpa using this)
    · cases h
  | .dict .., S, e, h => by cases h
theorem okPr_ok (T : TbOk M B) : ∀ {x : Prs} {S : Sc} {ks : List (Option Expr)} {vs : List Expr}, okPr B S x ks vs = true → SndPr M ini S ks vs x ∧ ks.all (·.isSome) = true ∧ ks.length = vs.length
  | .nil, S, ks, vs, h => by
    unfold okPr at h
    rw [Bool.and_eq_true, List.isEmpty_iff, List.isEmpty_iff] at h
    obtain ⟨rfl, rfl⟩ := h
    exact ⟨snd_prnil, rfl, rfl⟩
  | .cons k v ps, S, ks, vs, h => by
    unfold okPr at h
    split at h
    · simp only [Bool.and_eq_true] at h
      obtain ⟨k1, k2, k3⟩ := okPr_ok T h.2
      exact ⟨snd_prcons (okE_ok T h.1.1) (okE_ok T h.1.2) k1, by rw [List.all_cons, k2]; rfl, by rw [List.length_cons, List.length_cons, k3]⟩
    · cases h
theorem okOt_ok (T : TbOk M B) : ∀ {x : Ot} {S : Sc} {es : List Expr}, okOt B S x es = true → SndOt M ini S es x
  | .none, S, [], _ => snd_otnone
  | .none, S, _ :: _, h => by cases h
  | .some t, S, [], h => by cases h
  | .some t, S, [e], h => snd_otsome (okT_ok T h).1
  | .some t, S, _ :: _ :: _, h => by cases h
theorem okIv_ok (T : TbOk M B) : ∀ {x : Iv} {S : Sc} {ext : Bool} {t e : Expr}, okIv B S ext x t e = true → SndI M ini S ext t e x
  | .e (.e a), S, ext, t, e, h => snd_itE (okE_ok T h)
  | .e (.m i), S, ext, t, e, h => by
    cases e with
    | Name y p =>
      have h : (ext && visB S i y) = true := h
      rw [Bool.and_eq_true] at h
      obtain ⟨rfl, h⟩ := h
      exact snd_itP (snd_m h)
    | _ => unfold okIv at h; dsimp only at h; rw [Bool.and_false] at h; cases h
  | .rng a, S, ext, t, e, h => by
    unfold okIv at h
    split at h
    · simp only [Bool.and_eq_true, decide_eq_true_eq] at h
      obtain ⟨⟨⟨rfl, h1⟩, h2⟩, h3⟩ := h
      exact snd_rng (okE_ok T h1) h2 h3
    · cases h
  | .rng2 a b, S, ext, t, e, h => by
    unfold okIv at h
    split at h
    · simp only [Bool.and_eq_true, decide_eq_true_eq] at h
      obtain ⟨⟨⟨⟨⟨rfl, h1⟩, h2⟩, h3⟩, h4⟩, h5⟩ := h
      exact snd_rng2 (okE_ok T h1) (okE_ok T h2) h3 h4 h5
    · cases h
  | .enum (.e a), S, ext, t, e, h => by
    unfold okIv at h
    dsimp only at h
    split at h
    · simp only [Bool.and_eq_true, decide_eq_true_eq] at h
      obtain ⟨⟨⟨rfl, h1⟩, h2⟩, h3⟩ := h
      exact snd_enum (okE_ok T h1) h2 h3
    · cases h
  | .enum (.m i), S, ext, t, e, h => by cases h
  | .zip (.e a) (.e b), S, ext, t, e, h => by
    unfold okIv at h
    dsimp only at h
    split at h
    · simp only [Bool.and_eq_true, decide_eq_true_eq] at h
      obtain ⟨⟨⟨⟨⟨rfl, h1⟩, h2⟩, h3⟩, h4⟩, h5⟩ := h
      exact snd_zip (okE_ok T h1) (okE_ok T h2) h3 h4 h5
    · cases h
  | .zip (.e a) (.m i), S, ext, t, e, h => by cases h
  | .zip (.m i) q, S, ext, t, e, h => by cases h
  | .zip3 .., S, ext, t, e, h => by cases h
  | .items .., S, ext, t, e, h => by cases h
theorem okEs_ok (T : TbOk M B) : ∀ {x : Es} {S : Sc} {es : List Expr}, okEs B S x es = true → SndEs M ini S es x
  | .nil, S, [], _ => snd_nil
  | .nil, S, _ :: _, h => by cases h
  | .cons a as, S, [], h => by cases h
  | .cons a as, S, e :: es, h => by
    have h : (okE B S a e && notStar e && okEs B S as es) = true := h
    rw [Bool.and_eq_true, Bool.and_eq_true] at h
    exact snd_cons (okE_ok T h.1.1) (okEs_ok T h.2) h.1.2
theorem okOe_ok (T : TbOk M B) : ∀ {x : Oe} {S : Sc} {e : Option Expr}, okOe B S x e = true → SndO M ini S e x
  | .none, S, none, _ => snd_onone
  | .none, S, some _, h => by cases h
  | .some a, S, none, h => by cases h
  | .some a, S, some e, h => snd_osome (okE_ok T h)
end
end
end VM

set_option maxHeartbeats 8000000
namespace VM
open PySem L2 SeqAt PyProof.Rows
section
variable {M : Cf} {ini : Nat → Option Nat} {B : Tb}
theorem okA_ok (T : TbOk M B) {S : Sc} {i : Nat} {f : F} {y : Str} {e : Expr} {py spos : Pos} (h : okA B S i f y e = true) : SndA M ini S e f y py spos i := by
  unfold okA at h
  simp only [Bool.and_eq_true, Bool.or_eq_true, decide_eq_true_eq] at h
  obtain ⟨⟨h1, h2⟩, h3⟩ := h
  by_cases hn : noComp e = true
  · exact snd_a (okF_ok T h1) h2 hn
  · have hk := h3.resolve_left hn
    cases f with
    | comp elt tg it own c =>
      have h1' := h1
      unfold okF at h1'
      split at h1'
      · simp only [Bool.and_eq_true] at h1'
        obtain ⟨⟨⟨⟨⟨⟨⟨k1, k2⟩, k3⟩, k4⟩, k5⟩, k6⟩, k7⟩, k8⟩ := h1'
        exact snd_aC k6 k7 (nodup_getD _ _) (okIv_ok T k3) (okTg_ok k2) (okOt_ok T k4) (okE_ok T k1) k5 (fun i hi => by
          have := List.all_eq_true.mp k8 i hi
          simpa using this) h2 hk
      · cases h1'
    | dcomp k v tg it own c =>
      have h1' := h1
      unfold okF at h1'
      split at h1'
      · simp only [Bool.and_eq_true] at h1'
        obtain ⟨⟨⟨⟨⟨⟨⟨⟨k0, k1⟩, k2⟩, k3⟩, k4⟩, k5⟩, k6⟩, k7⟩, k8⟩ := h1'
        exact snd_aD k6 k7 (nodup_getD _ _) (okIv_ok T k3) (okTg_ok k2) (okOt_ok T k4) (okE_ok T k0) (okE_ok T k1) k5 (fun i hi => by
          have := List.all_eq_true.mp k8 i hi
          simpa using this) h2 hk
      · cases h1'
    | split a b =>
      exfalso
      unfold okF at h1
      split at h1
      · split at h1
        · exact hn rfl
        · cases h1
      · cases h1
    | _ =>
      exfalso
      unfold okF at h1
      first
        | (cases h1; done)
        | (split at h1
           · exact hn rfl
           · cases h1)
end
end VM

namespace VM
open PySem PySem.Spec PyProof.Rows L2
/-! ### an error without fields, made by a call without arguments -/
theorem pmk_bare {X : Cx} {C : Addr} {bmB : List Value} {B newId initId : String} {x : Str} {p pos : Pos} (F : ExcBaseFacts B newId initId bmB) (q : PySem.W.excIn X.K C bmB newId = true) (gC : X.mg x = some (.ref C))
    (kC : PySem.W.keepIn X.K (.ref C) = true) (r : Raises X (.ref C)) (hg : Gl X x) (hdb : (x == ("__debug__" : Str)) = false := by decide) : PMk X (.Call (.Name x p) [] [] pos) (fun _ H Q => Q (.ref C) none H) := by
  intro pins s σ H Q I h
  obtain ⟨_, _, _, _, _, _, _, _, _, _, _, _, _, _, _, _, _, hC, hN, hni, T⟩ := exc_obj I.kIn q
  exact wpAny_Call_Name_kw (ld_glob I hg gC (PySem.W.callWith_K0 I.kIn kC (wpAny_call_exc_subT F T hC hN hni (fun h' e hm => mk_of I hm r h (I.hok.gone hm.new)) (Nat.zero_le _))) hdb)
/-! ### several clauses, with names or without -/
/-- a clause: the class, the slot of its name (if it has one), its suite -/
structure Cl where
  c : Value
  i : Option Nat
  ts : Addr → Value → Option Addr → TS
def drop' (i : Option Nat) (σ : L2.St) : L2.St := match i with
  | some i => σ.set i none
  | none => σ
def put' (i : Option Nat) (a : Addr) (σ : L2.St) : L2.St := match i with
  | some i => σ.set i (some (.ref a))
  | none => σ
def behind (i : Option Nat) (D : Ends) : Ends := { nx := fun σ H => D.nx (drop' i σ) H, rt := D.rt, bk := fun σ H => D.bk (drop' i σ) H, ct := fun σ H => D.ct (drop' i σ) H }
/-- what the clauses wish, one behind the other -/
def wCls (K : PySem.W.Frag) (Wout : WX) (D : Ends) : List Cl → WX
  | [] => Wout
  | k :: r => fun cls d σ H => ∃ b, PySem.W.exmOne K cls k.c = some b ∧ (b = true → ∀ a, H a = none → k.ts a cls d (behind k.i D) (put' k.i a σ) H) ∧ (b = false → wCls K Wout D r cls d σ H)
inductive ClsOk (X : Cx) : List ExceptHandler → List Cl → Prop
  | nil : ClsOk X [] []
  | bare {x : Str} {c : Value} {ts : Addr → Value → Option Addr → TS} {s0 : Stmt} {ss : List Stmt} {np hp : Pos} {hs : List ExceptHandler} {l : List Cl} (hc : Names X x c)
      (hb : ∀ (a : Addr) (oe : Obj) (cls : Value) (d : Option Addr) (pn : List (Addr × Obj)), Zc cls d oe → (∃ vs, oe.data = .fields vs) → PSs (X.suite a ((a, oe) :: pn)) (s0 :: ss) (ts a cls d)) (r : ClsOk X hs l) :
      ClsOk X (.ExceptHandler (some (.Name x np)) none (s0 :: ss) hp :: hs) (⟨c, none, ts⟩ :: l)
  | named {x n : Str} {c : Value} {i : Nat} {ts : Addr → Value → Option Addr → TS} {s0 : Stmt} {ss : List Stmt} {np hp : Pos} {hs : List ExceptHandler} {l : List Cl} (hc : Names X x c) (hN : X.N.Nodup) (hi : X.N[i]? = some n) (hn : X.env.kindOf n = some .local)
      (hb : ∀ (a : Addr) (oe : Obj) (cls : Value) (d : Option Addr) (pn : List (Addr × Obj)), Zc cls d oe → (∃ vs, oe.data = .fields vs) → PSs (X.suite a ((a, oe) :: pn)) (s0 :: ss) (ts a cls d)) (r : ClsOk X hs l) :
      ClsOk X (.ExceptHandler (some (.Name x np)) (some n) (s0 :: ss) hp :: hs) (⟨c, some i, ts⟩ :: l)
section
variable {X : Cx} {pins : List (Addr × Obj)} {σ : L2.St} {H : Hp} {a : Addr} {cls : Value} {d : Option Addr}
/-- an error that is in flight in this frame's try -/
structure Fly (X : Cx) (pins : List (Addr × Obj)) (σ : L2.St) (H : Hp) (a : Addr) (cls : Value) (d : Option Addr) (B : Heap) (s0 s : Shared) : Prop where
  I : Inv X pins σ H s0
  nb : ∀ b o, s0.heap.get? b = some o → b ∉ frs X.stack → B.get? b = some o
  up : s0.heap.UpToSlots s.heap
  fl : HandSPX.FlyingZ B (X.env :: X.outer) a (Zc cls d) s.heap
  na : H a = none
  os : s.os = s0.os
  ag : AllBare s.gens
variable {B : Heap} {s0 s : Shared}
theorem Fly.inv (F : Fly X pins σ H a cls d B s0 s) : Inv X pins σ H s := F.I.landed F.nb F.fl.1 F.up F.os F.ag
theorem Fly.to {h' : Heap} (F : Fly X pins σ H a cls d B s0 s) (fl' : HandSPX.FlyingZ B (X.env :: X.outer) a (Zc cls d) h') (u : s.heap.UpToSlots h') : Fly X pins σ H a cls d B s0 { s with heap := h' } := ⟨F.I, F.nb, F.up.trans u, fl', F.na, F.os, F.ag⟩
/-- the error is no frame of ours -/
theorem Fly.nf (F : Fly X pins σ H a cls d B s0 s) : a ∉ frs (X.env :: X.outer) := fun hm => by
  obtain ⟨_, _, ff, oe, vs, _, _, _, he, _, hd, _⟩ := F.fl
  obtain ⟨_, o', e', hnf⟩ := ff.mem hm
  rw [he] at e'
  cases e'
  exact hnf _ hd
theorem Fly.nL (F : Fly X pins σ H a cls d B s0 s) (hf : X.env.frame = some X.env.locals) : a ≠ X.env.locals := fun z => F.nf (List.mem_filterMap.mpr ⟨X.env, List.mem_cons_self, by rw [hf, z]⟩)
theorem Fly.nS (F : Fly X pins σ H a cls d B s0 s) : a ∉ X.fs := fun hm => by
  obtain ⟨e, he, q⟩ := List.mem_filterMap.mp hm
  exact F.nf (List.mem_filterMap.mpr ⟨e, List.mem_cons_of_mem _ he, q⟩)
theorem Fly.suite (F : Fly X pins σ H a cls d B s0 s) (hf : X.env.frame = some X.env.locals) : ∃ oe, Zc cls d oe ∧ (∃ vs, oe.data = .fields vs) ∧ s.heap.get? a = some oe ∧ Inv (X.suite a ((a, oe) :: (X.pn ++ pins))) [] σ H s := by
  obtain ⟨oe, vs, he, hz, hd⟩ := F.fl.there
  exact ⟨oe, hz, ⟨vs, hd⟩, he, F.inv.suite he hd F.na (F.nL hf) F.nS⟩
/-- the name in a clause's head is read -/
theorem name_read {x : Str} {c : Value} {np : Pos} {oe : Obj} {Q : Value → Shared → Prop} {E : Value → Shared → Prop} (hc : Names X x c) (S : Inv (X.suite a ((a, oe) :: (X.pn ++ pins))) [] σ H s) (q : Q c s) : wpAny (model X.prog X.w) (X.A.mark (some (.ref a))) (eval (.Name x np) X.env) Q E s := by
  obtain ⟨hg, hdb, hm | ⟨hm, hv, hn⟩⟩ := hc
  · exact ld_glob (X := X.suite a ((a, oe) :: (X.pn ++ pins))) S hg hm q hdb
  · exact ld_blt (X := X.suite a ((a, oe) :: (X.pn ++ pins))) S hg hm hv q hn hdb
/-- one clause after the other -/
theorem cls_run {D : Ends} {Wout : WX} (hs : X.stack = X.env :: X.outer) (hf : X.env.frame = some X.env.locals) (tk : Takes X Wout) : ∀ {hds : List ExceptHandler} {l : List Cl}, ClsOk X hds l → ∀ {s : Shared}, Fly X pins σ H a cls d B s0 s → wCls X.K Wout D l cls d σ H →
    wpAny (model X.prog X.w) X.A (handleBy (.ref a) X.env hds) (SP X pins D) X.xe s := by
  intro hds l k
  induction k with
  | nil =>
    intro s F w
    refine wpAny_handleBy_nil ?_
    obtain ⟨_, _, _, oe, vs, T, oT, ts, he, hz, hd, h1, _⟩ := id F.fl
    unfold PySem.passOn
    refine wpAny_bind (wpAny_field he hd h1 ?_)
    rw [if_neg (show ¬ ((Value.ref T == Value.none) = true) from by simp)]
    have out : wpAny (model X.prog X.w) X.A (setFlight (.ref a) X.env.frame) (fun _ s4 => wpAny (model X.prog X.w) X.A (throw (.ref a) : Sem Flow) (SP X pins D) X.xe s4) X.xe s := by
      rw [hf]
      exact HandSPX.setFlight_upZ F.fl fun h4 hh u4 => wpAny_throw (tk _ _ ⟨a, B, s0, pins, σ, H, cls, d, rfl, F.I, F.nb, F.up.trans u4, .inr (.inr (by rw [hs]; exact hh)), F.na, F.os, F.ag, w⟩)
    first
      | exact wpAny_bind (wpAny_pure (wpAny_bind out))
      | exact wpAny_bind out
  | @bare x c ts b0 ss np hp hds' l' hc hb r ih =>
    intro s F w
    obtain ⟨b, hb1, yes, no⟩ := w
    obtain ⟨oe, hz, hd, he, S⟩ := F.suite hf
    refine wpAny_handleBy_cons (codeAny_handlers_test ?_) (by intro q; cases q)
    have look : PySem.W.Looks (model X.prog X.w) s.heap (typeOf (.ref a)) cls := fun A Q E s' k q => wpAny_typeOf_ref (k _ _ he) (by rw [hz.1]; exact q)
    refine name_read hc S ((PySem.W.exm_one (M := model X.prog X.w) F.inv.kIn look hb1).here ?_)
    cases b with
    | false => exact ih F (no rfl)
    | true =>
      refine codeAny_handlers_suite (HandSPX.lands_againZ F.fl fun h4 fl4 u4 => ?_)
      have F4 := F.to fl4 u4
      obtain ⟨oe4, hz4, hd4, he4, S4⟩ := F4.suite hf
      refine wpAny_mono ((hb a oe4 cls d (X.pn ++ pins) hz4 hd4).run [] _ _ H _ S4 (yes rfl a F.na)) (fun f s6 e => ?_) (fun _ _ z => False.elim z)
      cases f with
      | ret u =>
        obtain ⟨v6, t6, H6, S6, r6, q6⟩ := e
        exact ⟨v6, t6, H6, S6.unsuite F.I.ok, r6, q6⟩
      | next =>
        obtain ⟨t6, H6, S6, q6⟩ := e
        exact ⟨t6, H6, S6.unsuite F.I.ok, q6⟩
      | brk =>
        obtain ⟨t6, H6, S6, q6⟩ := e
        exact ⟨t6, H6, S6.unsuite F.I.ok, q6⟩
      | cont =>
        obtain ⟨t6, H6, S6, q6⟩ := e
        exact ⟨t6, H6, S6.unsuite F.I.ok, q6⟩
  | @named x n c i ts b0 ss np hp hds' l' hc hN hi hn hb r ih =>
    intro s F w
    obtain ⟨b, hb1, yes, no⟩ := w
    obtain ⟨oe, hz, hd, he, S⟩ := F.suite hf
    refine wpAny_handleBy_cons (codeAny_handlers_test ?_) (by intro q; cases q)
    have look : PySem.W.Looks (model X.prog X.w) s.heap (typeOf (.ref a)) cls := fun A Q E s' k q => wpAny_typeOf_ref (k _ _ he) (by rw [hz.1]; exact q)
    refine name_read hc S ((PySem.W.exm_one (M := model X.prog X.w) F.inv.kIn look hb1).here ?_)
    cases b with
    | false => exact ih F (no rfl)
    | true =>
      refine codeAny_handlers_suite_as (HandSPX.lands_againZ F.fl fun h4 fl4 u4 => ?_)
      have F4 := F.to fl4 u4
      obtain ⟨oe4, hz4, hd4, he4, S4⟩ := F4.suite hf
      refine store_ok (X := X.suite a ((a, oe4) :: (X.pn ++ pins))) (v := .ref a) S4 hN hi (.inl hn) rfl (fun s5 S5 => ?_) (.inr hn)
      refine wpAny_mono ((hb a oe4 cls d (X.pn ++ pins) hz4 hd4).run [] s5 _ H _ S5 (yes rfl a F.na)) (fun f s6 e => ?_) (fun _ _ z => False.elim z)
      cases f with
      | ret u =>
        obtain ⟨v6, t6, H6, S6, r6, q6⟩ := e
        exact gone_ok (S6.unsuite F.I.ok) hN hi hn fun s7 J7 => ⟨v6, _, H6, J7, r6, q6⟩
      | next =>
        obtain ⟨t6, H6, S6, q6⟩ := e
        exact gone_ok (S6.unsuite F.I.ok) hN hi hn fun s7 J7 => ⟨_, H6, J7, q6⟩
      | brk =>
        obtain ⟨t6, H6, S6, q6⟩ := e
        exact gone_ok (S6.unsuite F.I.ok) hN hi hn fun s7 J7 => ⟨_, H6, J7, q6⟩
      | cont =>
        obtain ⟨t6, H6, S6, q6⟩ := e
        exact gone_ok (S6.unsuite F.I.ok) hN hi hn fun s7 J7 => ⟨_, H6, J7, q6⟩
end
/-- try: body, and a list of except clauses -/
theorem ps_try_cls {X : Cx} {body : List Stmt} {h0 : ExceptHandler} {hds : List ExceptHandler} {l : List Cl} {pos : Pos} {tb : WX → TS} {Wout : WX} (hs : X.stack = X.env :: X.outer) (hf : X.env.frame = some X.env.locals) (tk : Takes X Wout)
    (hb : ∀ (W : WX) (pn : List (Addr × Obj)) (xe : Value → Shared → Prop), Takes (X.tr pn xe) W → PassesOwn (model X.prog X.w) X.A X.env xe → PSs (X.tr pn xe) body (tb W))
    (hk : ClsOk X (h0 :: hds) l) : PS X (.Try body (h0 :: hds) [] [] pos) (fun D σ H => tb (wCls X.K Wout D l) D σ H) := by
  refine ⟨fun pins s σ H D I h => ?_⟩
  have ok := I.ok
  have fr : X.A.frames = some (X.env :: X.outer) := by rw [ok.frames, hs]
  refine wpAny_Try_except ?_
  refine wpAny_mono ((hb (wCls X.K Wout D l) (X.pn ++ pins) _ ?_ PassesOwn.looking).run [] s σ H D (I.toTry _) h) (fun f s1 e => ?_) (fun e s1 he => he)
  · intro u s' xx
    obtain ⟨a, B, sI, pins', σ', H', cls, d, rfl, J', nb, up, sky, na, os, ag, w⟩ := xx
    have J : Inv X pins σ' H' sI := J'.ofTry ok
    show wpAny (model X.prog X.w) X.A (noteFrame (.ref a) X.env) _ _ _
    refine Sky.land Zc.steady fr hf (by rw [← hs]; exact sky) fun h3 fl3 up3 => ?_
    exact cls_run hs hf tk hk (s := { s' with heap := h3 }) ⟨J, nb, up.trans up3, fl3, na, os, ag⟩ w
  · cases f with
    | ret u =>
      obtain ⟨v, t, G, J, r, q⟩ := e
      exact ⟨v, t, G, J.ofTry ok, r, q⟩
    | next =>
      obtain ⟨t, G, J, q⟩ := e
      exact wpAny_execs_nil ⟨t, G, J.ofTry ok, q⟩
    | brk =>
      obtain ⟨t, G, J, q⟩ := e
      exact ⟨t, G, J.ofTry ok, q⟩
    | cont =>
      obtain ⟨t, G, J, q⟩ := e
      exact ⟨t, G, J.ofTry ok, q⟩
end VM

namespace VM
open PySem L2 SeqAt PyProof.Rows
section
variable {M : Cf} {ini : Nat → Option Nat} {S : Sc}
/-! ### raise -/
theorem xheap {H1 K : Hp} {a dx : Addr} {o : HO} (k : ∀ b, b ≠ a → b ≠ dx → K b = H1 b) (ha : H1 a = none) (ne : dx ≠ a) : upd (del K a) dx o = upd H1 dx o := by
  funext b
  by_cases q : b = dx
  · subst q; rw [upd_same, upd_same]
  · rw [upd_ne q, upd_ne q]
    by_cases q2 : b = a
    · subst q2; rw [del_same, ha]
    · rw [del_ne q2, k b q2 q]
theorem snd_raise0 {c : Nat} {x : Str} {p pos pos' : Pos} (hx : x = M.nm.cls c) (hg : globB S x = true) (hc : c ∈ M.xcs) (hm : S.cm = true) : SndS M ini S (.Raise (some (.Call (.Name x p) [] [] pos)) none pos') (.raise c .nil) := by
  intro X Wx G F hU W g H σ ρ Dn s o
  subst hx
  have o : OkS M F Wx (if 0 = (xfOf M.Gam c).length then Out.ex c [] g else Out.no) Dn := o
  obtain ⟨A, hA⟩ := G.G.xc.at_ c hc
  obtain ⟨h1, h2⟩ := globB_of G.G hg
  split at o
  · rename_i hl
    rcases G.G.ex c A hA hm with ⟨h, e, k, r⟩ | ⟨f, h, _⟩ | ⟨f, g, h, _⟩
    · refine mxS_of (ps_raise (G.G.calm hm) G.G.tk (pmk_bare PySem.F.excBase_ValueError e (by rw [G.G.mg]; exact G.G.xc.mg c A hA) k r h1 h2)) ?_
      exact o W H (.ref A) none ρ s.ext s.rg ⟨A, hA, rfl, .inl ⟨h, rfl, rfl⟩⟩ s.ag s.ln
    · rw [h] at hl; cases hl
    · rw [h] at hl; cases hl
  · exact o.elim
theorem str_ne {a b : Str} (h : a ≠ b) : (a == b) = false := beq_eq_false_iff_ne.mpr h
theorem snd_raise {c : Nat} {x : Str} {p pos pos' : Pos} {e : Expr} {es : List Expr} {xs : Es} (hx : x = M.nm.cls c) (hg : globB S x = true) (hc : c ∈ M.xcs) (hm : S.cm = true) (ha : SndEs M ini S (e :: es) xs) (hne0 : xfOf M.Gam c ≠ []) (hs : (e :: es).all notStar = true) :
    SndS M ini S (.Raise (some (.Call (.Name x p) (e :: es) [] pos)) none pos') (.raise c xs) := by
  intro X Wx G F hU W g H σ ρ Dn s o
  subst hx
  have o : OkS M F Wx ((evEs M.Gam M.call xs σ g).bind fun ds g => if ds.length = (xfOf M.Gam c).length then Out.ex c ds g else Out.no) Dn := o
  obtain ⟨A, hA⟩ := G.G.xc.at_ c hc
  obtain ⟨h1, h2⟩ := globB_of G.G hg
  rw [List.all_cons, Bool.and_eq_true] at hs
  rcases G.G.ex c A hA hm with ⟨h, _⟩ | ⟨f, h, ⟨T, fI, fd, ps, k, i1, i2, F1, hr, hb, _⟩, nf⟩ | ⟨f, f2, h, ⟨T, fI, fd, ps, k, i1, i2, F1, hr, hb, _⟩, nf, nf2, hne⟩
  · exact absurd h hne0
  · refine mxS_of (ps_raise (G.G.calm hm) G.G.tk (pmk_oex T i1 i2 F1 hr hb .nil pass0 h1 (by rw [G.G.mg]; exact G.G.xc.mg c A hA) pa_mx h2 (star_cons hs.1) (stars_ok hs.2).1)) ?_
    refine ha X Wx G.G W g H σ ρ _ s.rg s.rs ((OkS.bind s o).imp fun ds g1 W1 H1 _ e1 r1 ⟨_, s1, _, o⟩ vs hvs => ?_)
    rw [h] at o
    split at o
    · rename_i hl
      obtain ⟨d, rfl⟩ : ∃ d, ds = [d] := List.length_eq_one_iff.mp hl
      obtain ⟨v, r, rfl, hv, hn⟩ := hvs.uncons
      cases hn.nil_eq
      refine ⟨by show 1 ≤ 1000; decide, fun a ha => ⟨a, v, rfl, T, nf, upd_same, fun dx hdx ne => ⟨rfl, dx, [(M.C.fld f, v)], upd_same, ?_, ?_, ?_⟩⟩⟩
      · rw [upd_ne ne, upd_same]
      · rw [upd_ne ne] at hdx; exact hdx
      · rw [upd_ne ne] at hdx
        show Wx (.ref A) (some dx) ρ _
        rw [xheap (H1 := H1) (fun b q1 q2 => by rw [upd_ne q1, upd_ne q2, upd_ne q1]) ha ne]
        refine o W1 _ (.ref A) (some dx) ρ (s1.ext.trans s1.r0 (Ext.own r1 hdx)) (r1.own hdx) ⟨A, hA, rfl, .inr ⟨dx, _, [v], rfl, (by show xfOf M.Gam c ≠ []; rw [h]; exact fun z => nomatch z), upd_same, ?_, .cons hv .nil⟩⟩ s1.ag s1.ln
        show (xfOf M.Gam c).map _ = _
        rw [h]
        show [List.lookup (M.C.fld f) [(M.C.fld f, v)]] = [some v]
        rw [List.lookup_cons, beq_self_eq_true]
    · exact o.elim
  · refine mxS_of (ps_raise (G.G.calm hm) G.G.tk (pmk_oex T i1 i2 F1 hr hb .nil pass0 h1 (by rw [G.G.mg]; exact G.G.xc.mg c A hA) pa_mx h2 (star_cons hs.1) (stars_ok hs.2).1)) ?_
    refine ha X Wx G.G W g H σ ρ _ s.rg s.rs ((OkS.bind s o).imp fun ds g1 W1 H1 _ e1 r1 ⟨_, s1, _, o⟩ vs hvs => ?_)
    rw [h] at o
    split at o
    · rename_i hl
      obtain ⟨d, d2, rfl⟩ : ∃ d d2, ds = [d, d2] := by
        match ds, hl with
        | [d, d2], _ => exact ⟨d, d2, rfl⟩
      obtain ⟨v, r, rfl, hv, hn⟩ := hvs.uncons
      obtain ⟨u, r, rfl, hu, hn⟩ := hn.uncons
      cases hn.nil_eq
      refine ⟨by show 2 ≤ 1000; decide, fun a ha => ⟨a, v, u, rfl, T, nf, nf2, upd_same, fun dx hdx ne => ⟨rfl, dx, [(M.C.fld f2, u), (M.C.fld f, v)], ?_, upd_same, ?_, ?_⟩⟩⟩
      · rw [upd_ne (Ne.symm ne), upd_same]
      · rw [upd_ne ne] at hdx; exact hdx
      · rw [upd_ne ne] at hdx
        show Wx (.ref A) (some dx) ρ _
        rw [xheap (H1 := H1) (fun b q1 q2 => by rw [upd_ne q2, upd_ne q1, upd_ne q2, upd_ne q1]) ha ne]
        refine o W1 _ (.ref A) (some dx) ρ (s1.ext.trans s1.r0 (Ext.own r1 hdx)) (r1.own hdx) ⟨A, hA, rfl, .inr ⟨dx, _, [v, u], rfl, (by show xfOf M.Gam c ≠ []; rw [h]; exact fun z => nomatch z), upd_same, ?_, .cons hv (.cons hu .nil)⟩⟩ s1.ag s1.ln
        show (xfOf M.Gam c).map _ = _
        rw [h]
        show [List.lookup (M.C.fld f) [(M.C.fld f2, u), (M.C.fld f, v)], List.lookup (M.C.fld f2) [(M.C.fld f2, u), (M.C.fld f, v)]] = [some v, some u]
        rw [List.lookup_cons, List.lookup_cons, List.lookup_cons, beq_self_eq_true, beq_self_eq_true, str_ne fun z => hne (M.C.inj _ _ z)]
    · exact o.elim

/-! ### except clauses -/
theorem RelS.putX {C : Ct} {W : Wd} {g : Gs} {H : Hp} {σ : Sg} {ρ : L2.St} {i : Nat} {sv : SV} {v : V} (h : RelS C W g H σ ρ) (hn : sv.own = false) (hv : SlotAt C W H sv v) : RelS C W g H (σ.set i (some sv)) (ρ.set i (some v)) where
  len := by rw [List.length_set, List.length_set]; exact h.len
  at_ := fun j s hs => by
    by_cases q : i = j
    · subst q
      by_cases hl : i < σ.length
      · rw [List.getElem?_set_self hl] at hs
        cases hs
        exact ⟨v, List.getElem?_set_self (by rw [← h.len]; exact hl), hv⟩
      · rw [List.getElem?_eq_none (by rw [List.length_set]; omega)] at hs
        cases hs
    · rw [List.getElem?_set_ne q] at hs ⊢
      exact h.at_ j s hs
  apart := fun j s a hs ho hr => by
    have key : ∀ k (t : SV), (σ.set i (some sv))[k]? = some (some t) → t.own = true → σ[k]? = some (some t) ∧ (ρ.set i (some v))[k]? = ρ[k]? := fun k t hk hto => by
      by_cases q : i = k
      · subst q
        by_cases hl : i < σ.length
        · rw [List.getElem?_set_self hl] at hk
          cases hk
          rw [hn] at hto
          cases hto
        · rw [List.getElem?_eq_none (by rw [List.length_set]; omega)] at hk
          cases hk
      · rw [List.getElem?_set_ne q] at hk
        exact ⟨hk, List.getElem?_set_ne q⟩
    obtain ⟨k1, k2⟩ := key j s hs ho
    rw [k2] at hr
    obtain ⟨n, u⟩ := h.apart j s a k1 ho hr
    refine ⟨n, fun k t hk hto hkr => ?_⟩
    obtain ⟨k3, k4⟩ := key k t hk hto
    rw [k4] at hkr
    exact u k t k3 hto hkr
theorem St1.putX {C : Ct} {F : Frm} {W : Wd} {g : Gs} {H : Hp} {σ : Sg} {ρ : L2.St} {i : Nat} {sv : SV} {v : V} (s : St1 C F W g H σ ρ) (hi : i ∈ F.U) (hn : sv.own = false) (hv : SlotAt C W H sv v) : St1 C F W g H (σ.set i (some sv)) (ρ.set i (some v)) where
  r0 := s.r0
  ext := s.ext
  rg := s.rg
  rs := s.rs.putX hn hv
  fr := fun j t b ht ho hr => by
    by_cases q : i = j
    · subst q
      by_cases hl : i < σ.length
      · rw [List.getElem?_set_self hl] at ht
        cases ht
        rw [hn] at ho
        cases ho
      · rw [List.getElem?_eq_none (by rw [List.length_set]; omega)] at ht
        cases ht
    · rw [List.getElem?_set_ne q] at ht hr
      exact s.fr j t b ht ho hr
  ag := fun j hj => by rw [List.getElem?_set_ne fun z => hj (by rw [← z]; exact hi)]; exact s.ag j hj
  ln := by rw [List.length_set]; exact s.ln
  low := s.low
theorem St1.drop {C : Ct} {F : Frm} {W : Wd} {g : Gs} {H : Hp} {σ : Sg} {ρ : L2.St} {i : Nat} (s : St1 C F W g H σ ρ) (hi : i ∈ F.U) : St1 C F W g H (σ.set i none) (ρ.set i none) where
  r0 := s.r0
  ext := s.ext
  rg := s.rg
  rs := RelS.less (vs := [i]) s.rs (by rw [List.length_set]) fun j hj => List.getElem?_set_ne fun z => hj (by rw [z]; exact List.mem_singleton.mpr rfl)
  fr := fun j t b ht ho hr => by
    obtain ⟨h1, h2⟩ := wipeS_some (vs := [i]) ht
    rw [List.getElem?_set_ne fun z => h2 (by rw [z]; exact List.mem_singleton.mpr rfl)] at hr
    exact s.fr j t b h1 ho hr
  ag := fun j hj => by rw [List.getElem?_set_ne fun z => hj (by rw [← z]; exact hi)]; exact s.ag j hj
  ln := by rw [List.length_set]; exact s.ln
  low := s.low
def SndH (M : Cf) (ini : Nat → Option Nat) (S : Sc) (hds : List ExceptHandler) (x : Hs) : Prop := ∀ X Wx, GoodS M ini S X Wx → ∃ l, ClsOk X hds l ∧ ∀ F, (∀ i ∈ x.own, i ∈ F.U) → ∀ W g H σ ρ (Dn : Ends) c ds cls dx, St1 M.C F W g H σ ρ → RepX M.C W M.xf c ds H cls dx →
  OkS M F Wx (evHs M.Gam M.call x c ds σ g) Dn → wCls X.K Wx Dn l cls dx ρ H
/-- within a suite -/
theorem GoodS.suite {X : Cx} {Wx : WX} (G : GoodS M ini S X Wx) (a : Addr) (pn : List (Addr × Obj)) : GoodS M ini { S with cm := false } (X.suite a pn) (fun _ _ _ _ => False) where
  G := {
    K := G.G.K
    wd := G.G.wd
    mg := G.G.mg
    N := G.G.N
    nd := G.G.nd
    sc := G.G.sc
    calm := fun z => nomatch z
    fn := G.G.fn
    big := G.G.big
    tk := fun u s' ⟨_, _, _, _, _, _, _, _, _, _, _, _, _, _, _, _, z⟩ => z
    ci := G.G.ci
    gl := fun _ _ _ z => nomatch z
    fx := G.G.fx
    me := fun _ _ _ _ _ _ z => nomatch z
    mf := G.G.mf
    nw := fun _ _ _ _ _ _ _ z => nomatch z
    con := G.G.con
    fnm := G.G.fnm
    clm := G.G.clm
    cl := G.G.cl
    na := G.G.na
    bt := G.G.bt
    cx := G.G.cx
    xc := G.G.xc
    ex := fun _ _ _ z => nomatch z
    eqs := fun z => nomatch z }
  st := G.st
  fm := G.fm
  po := PassesOwn.never
/-- within a try -/
theorem GoodS.tr {X : Cx} {Wx Wy : WX} (G : GoodS M ini S X Wx) {pn : List (Addr × Obj)} {xe : Value → Shared → Prop} (tk : Takes (X.tr pn xe) Wy) (po : PassesOwn (model X.prog X.w) X.A X.env xe) : GoodS M ini S (X.tr pn xe) Wy where
  G := {
    K := G.G.K
    wd := G.G.wd
    mg := G.G.mg
    N := G.G.N
    nd := G.G.nd
    sc := G.G.sc
    calm := G.G.calm
    fn := G.G.fn
    big := G.G.big
    tk := tk
    ci := G.G.ci
    gl := G.G.gl
    fx := G.G.fx
    me := G.G.me
    mf := G.G.mf
    nw := G.G.nw
    con := G.G.con
    fnm := G.G.fnm
    clm := G.G.clm
    cl := G.G.cl
    na := G.G.na
    bt := G.G.bt
    cx := G.G.cx
    xc := G.G.xc
    ex := G.G.ex
    eqs := G.G.eqs }
  st := G.st
  fm := G.fm
  po := po
theorem snd_hnil : SndH M ini S [] .nil := fun X Wx G => ⟨[], .nil, fun F hU W g H σ ρ Dn c ds cls dx s x o => o W H cls dx ρ s.ext s.rg x s.ag s.ln⟩
theorem ClsNames {X : Cx} {Wx : WX} (G : Good M ini S X Wx) {h : Nat} {x : Str} {B : Addr} (hx : x = M.nm.cls h) (hg : globB S x = true) (hB : M.C.xA h = some B) : Names X x (.ref B) := by
  subst hx
  obtain ⟨h1, h2⟩ := globB_of G hg
  exact ⟨h1, h2, .inl (by rw [G.mg]; exact G.xc.mg h B hB)⟩
/-- what a suite's outcome asks, seen from its try -/
theorem suite_ok {F : Frm} {Wx : WX} {Dn Dn' : Ends} {o : Out R} (h : OkS M F Wx o.calm Dn) (q : ∀ fl W' g' H' ρ', FlE M.C F Dn fl W' g' H' ρ' → FlE M.C F Dn' fl W' g' H' ρ') : OkS M F (fun _ _ _ _ => False) o Dn' := by
  cases o with
  | no => exact h
  | ex => exact h.elim
  | ok r g' => exact fun W' H' ρ' s => q _ _ _ _ _ (h W' H' ρ' s)
/-- a suite's texts in any context of an error -/
def tSu (X : Cx) (body : List Stmt) : Addr → Value → Option Addr → TS := fun a cls d D σ H => ∀ oe pn, Zc cls d oe → (∃ vs, oe.data = .fields vs) → mxSs (X.suite a ((a, oe) :: pn)) body D σ H
theorem tSu_ok {X : Cx} {body : List Stmt} : ∀ (a : Addr) (oe : Obj) (cls : Value) (d : Option Addr) (pn : List (Addr × Obj)), Zc cls d oe → (∃ vs, oe.data = .fields vs) → PSs (X.suite a ((a, oe) :: pn)) body (tSu X body a cls d) :=
  fun a oe cls d pn hz hf => ⟨fun pins s σ H D I h => h oe pn hz hf pins s I⟩
theorem snd_hbare {h : Nat} {x : Str} {s0 : Stmt} {ss : List Stmt} {np hp : Pos} {hds : List ExceptHandler} {b : Ss} {hs : Hs} (hx : x = M.nm.cls h) (hg : globB S x = true) (hc : h ∈ M.xcs) (hb : SndSs M ini { S with cm := false } (s0 :: ss) b) (hr : SndH M ini S hds hs) :
    SndH M ini S (.ExceptHandler (some (.Name x np)) none (s0 :: ss) hp :: hds) (.cons h none b hs) := by
  intro X Wx G
  obtain ⟨B, hB⟩ := G.G.xc.at_ h hc
  obtain ⟨l, hl, hw⟩ := hr X Wx G
  refine ⟨⟨.ref B, none, tSu X (s0 :: ss)⟩ :: l, .bare (ClsNames G.G hx hg hB) tSu_ok hl, fun F hU W g H σ ρ Dn c ds cls dx s xx o => ?_⟩
  have u1 : ∀ i ∈ b.own, i ∈ F.U := fun i hi => hU i (List.mem_append_left _ hi)
  have u2 : ∀ i ∈ hs.own, i ∈ F.U := fun i hi => hU i (List.mem_append_right _ hi)
  have o : OkS M F Wx (if isC M.Gam c h then (evSs M.Gam M.call b σ g).calm else evHs M.Gam M.call hs c ds σ g) Dn := o
  obtain ⟨A, hA, rfl, _⟩ := id xx
  refine ⟨isC M.Gam c h, by rw [G.G.K]; exact G.G.xc.exm c h A B hA hB, fun e a ha oe pn hz hf => ?_, fun e => ?_⟩
  · rw [e] at o
    rw [if_pos rfl] at o
    refine hb _ _ (G.suite a _) F u1 W g H σ ρ _ s (suite_ok o fun fl W' g' H' ρ' z => ?_)
    cases fl <;> exact z
  · rw [e] at o
    rw [if_neg Bool.false_ne_true] at o
    exact hw F u2 W g H σ ρ Dn c ds _ dx s xx o
theorem snd_hnamed {h i : Nat} {x n : Str} {s0 : Stmt} {ss : List Stmt} {np hp : Pos} {hds : List ExceptHandler} {b : Ss} {hs : Hs} (hx : x = M.nm.cls h) (hg : globB S x = true) (hc : h ∈ M.xcs) (hn : hnB S i n = true) (hb : SndSs M ini { S with cm := false } (s0 :: ss) b) (hr : SndH M ini S hds hs) :
    SndH M ini S (.ExceptHandler (some (.Name x np)) (some n) (s0 :: ss) hp :: hds) (.cons h (some i) b hs) := by
  intro X Wx G
  obtain ⟨B, hB⟩ := G.G.xc.at_ h hc
  obtain ⟨l, hl, hw⟩ := hr X Wx G
  unfold hnB at hn
  rw [Bool.and_eq_true, beq_iff_eq, beq_iff_eq] at hn
  refine ⟨⟨.ref B, some i, tSu X (s0 :: ss)⟩ :: l, .named (ClsNames G.G hx hg hB) (by rw [G.G.N]; exact G.G.nd) (by rw [G.G.N]; exact hn.1) (by unfold Env.kindOf; rw [G.G.sc]; exact hn.2) tSu_ok hl, fun F hU W g H σ ρ Dn c ds cls dx s xx o => ?_⟩
  have ui : i ∈ F.U := hU i (List.mem_cons_self ..)
  have u1 : ∀ i ∈ b.own, i ∈ F.U := fun i hi => hU i (List.mem_cons_of_mem _ (List.mem_append_left _ hi))
  have u2 : ∀ i ∈ hs.own, i ∈ F.U := fun i hi => hU i (List.mem_cons_of_mem _ (List.mem_append_right _ hi))
  have o : OkS M F Wx (if isC M.Gam c h then (if i < σ.length then ((evSs M.Gam M.call b (σ.set i (some (.xc c ds))) g).calm).bind fun r g => .ok (r.1, r.2.set i none) g else .no) else evHs M.Gam M.call hs c ds σ g) Dn := o
  obtain ⟨A, hA, rfl, _⟩ := id xx
  refine ⟨isC M.Gam c h, by rw [G.G.K]; exact G.G.xc.exm c h A B hA hB, fun e a ha oe pn hz hf => ?_, fun e => ?_⟩
  · rw [e] at o
    rw [if_pos rfl] at o
    split at o
    · refine hb _ _ (G.suite a _) F u1 W g H (σ.set i (some (.xc c ds))) (ρ.set i (some (.ref a))) _ (s.putX ui rfl trivial) ?_
      cases q : evSs M.Gam M.call b (σ.set i (some (.xc c ds))) g with
      | no => rw [q] at o; exact o
      | ex => rw [q] at o; exact o.elim
      | ok r g' =>
        rw [q] at o
        intro W' H' ρ' s'
        have z := o W' H' (ρ'.set i none) (s'.drop ui)
        obtain ⟨fl, σ'⟩ := r
        cases fl <;> exact z
    · exact o.elim
  · rw [e] at o
    rw [if_neg Bool.false_ne_true] at o
    exact hw F u2 W g H σ ρ Dn c ds _ dx s xx o
end
end VM

namespace VM
open PySem L2 SeqAt PyProof.Rows
section
variable {M : Cf} {ini : Nat → Option Nat} {S : Sc}
/-! ### except C as n: y = (n.f, ..) -/
theorem lookX {C : Ct} {W : Wd} {f : Nat} {L : Nat → Option V} : ∀ {xs : List Nat} {ds : List D} {vs : List V} {d : D}, lookF f xs ds = some d → xs.map L = vs.map some → RepL C W ds vs → ∃ v, L f = some v ∧ Rep C W d v ∧ f ∈ xs
  | [], _, _, _, e, _, _ => by cases e
  | x :: xs, [], _, _, e, _, _ => by cases e
  | x :: xs, y :: ys, _, d, e, m, h => by
    obtain ⟨v, r, rfl, h1, h2⟩ := h.uncons
    have e : (if x = f then some y else lookF f xs ys) = some d := e
    rw [List.map_cons, List.map_cons] at m
    obtain ⟨m1, m2⟩ := List.cons.inj m
    by_cases q : x = f
    · rw [if_pos q] at e
      cases e
      subst q
      exact ⟨v, m1, h1, List.mem_cons_self ..⟩
    · rw [if_neg q] at e
      obtain ⟨w, k1, k2, k3⟩ := lookX e m2 h2
      exact ⟨w, k1, k2, List.mem_cons_of_mem _ k3⟩
theorem lookXs {C : Ct} {W : Wd} {L : Nat → Option V} {xs : List Nat} {ds : List D} {vs : List V} (m : xs.map L = vs.map some) (h : RepL C W ds vs) : ∀ {fs : List Nat} {es : List D}, lookFs xs ds fs = some es → ∃ ws, fs.map L = ws.map some ∧ RepL C W es ws ∧ ∀ f ∈ fs, f ∈ xs
  | [], es, e => by
    have e : some [] = some es := e
    cases e
    exact ⟨[], rfl, .nil, fun f hf => (List.not_mem_nil hf).elim⟩
  | f :: fs, es, e => by
    have e : (match lookF f xs ds with
      | none => none
      | some d => match lookFs xs ds fs with
        | none => none
        | some r => some (d :: r)) = some es := e
    cases q : lookF f xs ds with
    | none => rw [q] at e; cases e
    | some d =>
      rw [q] at e
      have e : (match lookFs xs ds fs with
        | none => none
        | some r => some (d :: r)) = some es := e
      cases q2 : lookFs xs ds fs with
      | none => rw [q2] at e; cases e
      | some r =>
        rw [q2] at e
        cases e
        obtain ⟨v, k1, k2, k3⟩ := lookX q m h
        obtain ⟨ws, j1, j2, j3⟩ := lookXs m h q2
        exact ⟨v :: ws, by rw [List.map_cons, List.map_cons, k1, j1], .cons k2 j2, fun x hx => (List.mem_cons.mp hx).elim (fun z => by rw [z]; exact k3) (j3 x)⟩
theorem xfs_ok {X : Cx} {a A dd : Addr} {oe : Obj} {pn : List (Addr × Obj)} {i : Nat} {n : Str} {flds : List (Str × V)} {σ : L2.St} {H : Hp} {fld : Nat → Str} (hN : X.N[i]? = some n) (hv : Vis X.env.scope n) (h1 : (n == ("__debug__" : Str)) = false) (h2 : (n == ("__classdict__" : Str)) = false)
    (hz : Zc (.ref A) (some dd) oe) (hf : ∃ vs, oe.data = .fields vs) (T : XfC X.K A) (ha : σ[i]? = some (some (.ref a))) (hd : H dd = some (.xd flds)) : ∀ {fs : List Nat} {es : List Expr} {vs : List V} {Q : List V → Hp → Prop}, xfsB fld n fs es = true →
    (∀ f ∈ fs, PySem.W.findIn X.K (.ref A) (fld f) = some none) → fs.map (fun f => flds.lookup (fld f)) = vs.map some → Q vs H → mxA (X.suite a ((a, oe) :: pn)) es σ H Q
  | [], es, vs, Q, hb, _, m, q => by
    have hb : es.isEmpty = true := hb
    cases es with
    | cons => cases hb
    | nil =>
      cases vs with
      | cons => cases m
      | nil => exact mxA_of pa_nil q
  | f :: fs, [], _, _, hb, _, _, _ => by cases hb
  | f :: fs, e :: es, vs, Q, hb, hno, m, q => by
    unfold xfsB at hb
    dsimp only at hb
    rw [Bool.and_eq_true] at hb
    obtain ⟨b1, b2⟩ := hb
    split at b1
    · simp only [Bool.and_eq_true, decide_eq_true_eq] at b1
      obtain ⟨rfl, rfl⟩ := b1
      cases vs with
      | nil => cases m
      | cons v vs =>
        rw [List.map_cons, List.map_cons] at m
        obtain ⟨m1, m2⟩ := List.cons.inj m
        refine mxA_of (pa_cons (pe_xf T (hno f (List.mem_cons_self ..)) hz hf (pe_var (X := X.suite a ((a, oe) :: pn)) hN hv h1 h2)) pa_mx rfl) ?_
        exact ⟨.ref a, ha, rfl, rfl, dd, flds, v, rfl, hd, m1, xfs_ok (Q := fun r H1 => Q (v :: r) H1) hN hv h1 h2 hz hf T ha hd b2 (fun g hg => hno g (List.mem_cons_of_mem _ hg)) m2 q⟩
    · cases b1
theorem set_thrice {α : Type} {l : List α} {i j : Nat} {x y z : α} (h : i ≠ j) : ((l.set i x).set j y).set i z = (l.set j y).set i z := by
  rw [List.set_comm x y h, List.set_set]
theorem att_noComp {e : Expr} {t : Option Expr} {k : Nat} {env : Env} {fld : Nat → Str} {n : Str} {tup : Bool} {fs : List Nat} (h : getB fld n tup fs e = true) : swapsWith e t k env = pure false := by
  unfold getB at h
  cases e <;> first
    | rfl
    | (split at h
       · cases h
       · split at h
         · unfold xfsB at h
           cases h
         · cases h)
theorem snd_hget {h i j : Nat} {x n y : Str} {tup : Bool} {fs : List Nat} {e : Expr} {py sp np hp : Pos} {hds : List ExceptHandler} {hs : Hs} (hx : x = M.nm.cls h) (hg : globB S x = true) (hc : h ∈ M.xcs) (hn : hnB S i n = true) (hv : visB S i n = true) (hj : locB S j y = true)
    (he : getB M.C.fld n tup fs e = true) (hne : fs ≠ []) (hr : SndH M ini S hds hs) : SndH M ini S (.ExceptHandler (some (.Name x np)) (some n) [.Assign [.Name y py] e sp] hp :: hds) (.get h i j tup fs hs) := by
  intro X Wx G
  obtain ⟨B, hB⟩ := G.G.xc.at_ h hc
  obtain ⟨l, hl, hw⟩ := hr X Wx G
  unfold hnB at hn
  rw [Bool.and_eq_true, beq_iff_eq, beq_iff_eq] at hn
  obtain ⟨v1, v2, v3, v4⟩ := visB_of G.G hv
  obtain ⟨j1, j2, j3⟩ := locB_of G.G hj
  refine ⟨⟨.ref B, some i, tSu X [.Assign [.Name y py] e sp]⟩ :: l, .named (ClsNames G.G hx hg hB) (by rw [G.G.N]; exact G.G.nd) (by rw [G.G.N]; exact hn.1) (by unfold Env.kindOf; rw [G.G.sc]; exact hn.2) tSu_ok hl, fun F hU W g H σ ρ Dn c ds cls dx s xx o => ?_⟩
  have ui : i ∈ F.U := hU i (List.mem_cons_self ..)
  have uj : j ∈ F.U := hU j (List.mem_cons_of_mem _ (List.mem_cons_self ..))
  have u2 : ∀ i ∈ hs.own, i ∈ F.U := fun i hi => hU i (List.mem_cons_of_mem _ (List.mem_cons_of_mem _ hi))
  have o : OkS M F Wx (if isC M.Gam c h then (if i < σ.length ∧ j < σ.length ∧ i ≠ j then (match lookFs (xfOf M.Gam c) ds fs with
        | some vs => if tup then nx ((σ.set j (some (.val (.tup vs)))).set i none) g else (match vs with
          | [v] => nx ((σ.set j (some (.val v))).set i none) g
          | _ => .no)
        | none => .no) else .no) else evHs M.Gam M.call hs c ds σ g) Dn := o
  obtain ⟨A, hA, rfl, hdat⟩ := id xx
  refine ⟨isC M.Gam c h, by rw [G.G.K]; exact G.G.xc.exm c h A B hA hB, fun ee a ha oe pn hz hf => ?_, fun ee => ?_⟩
  · rw [ee] at o
    rw [if_pos rfl] at o
    split at o
    · rename_i hij
      obtain ⟨hi, hjl, hij⟩ := hij
      cases ql : lookFs (xfOf M.Gam c) ds fs with
      | none => rw [ql] at o; exact o.elim
      | some es =>
        rw [ql] at o
        dsimp only at o
        have hρ : (ρ.set i (some (V.ref a)))[i]? = some (some (.ref a)) := List.getElem?_set_self (by rw [← s.rs.len]; exact hi)
        have hdat : ∃ dd flds ws, dx = some dd ∧ H dd = some (.xd flds) ∧ XfC X.K A ∧ (∀ f ∈ fs, PySem.W.findIn X.K (.ref A) (M.C.fld f) = some none) ∧ fs.map (fun f => flds.lookup (M.C.fld f)) = ws.map some ∧ RepL M.C W es ws := by
          rcases hdat with ⟨z, _, _⟩ | ⟨dd, flds, ws, rfl, hnn, hd, hm, hw⟩
          · have z : xfOf M.Gam c = [] := z
            rw [z] at ql
            cases fs with
            | nil => exact absurd rfl hne
            | cons f fs => cases ql
          · obtain ⟨us, k1, k2, k3⟩ := lookXs (L := fun f => flds.lookup (M.C.fld f)) hm hw ql
            obtain ⟨T, hno⟩ := G.G.xc.fld c A hA hnn
            refine ⟨dd, flds, us, rfl, hd, by rw [G.G.K]; exact T, fun f hf => by rw [G.G.K]; exact hno f (k3 f hf), k1, k2⟩
        obtain ⟨dd, flds, ws, rfl, hd, T, hno, hm, hws⟩ := hdat
        have fin : ∀ {W' : Wd} {H' : Hp} {d : D} {v : V}, St1 M.C F W' g H' σ ρ → Rep M.C W' d v → OkS M F Wx (nx ((σ.set j (some (.val d))).set i none) g) Dn → Dn.nx (((ρ.set i (some (.ref a))).set j (some v)).set i none) H' := fun {W' H' d v} s' hv o' => by
          rw [set_thrice hij]
          exact OkS.ok (fl := .nx) ((s'.putV uj hv).drop ui) o'
        have hsw : ∀ {t : Option Expr} {k : Nat} {env : Env}, swapsWith e t k env = pure false := att_noComp he
        unfold getB at he
        cases tup with
        | true =>
          rw [if_pos rfl] at he o
          split at he
          · rw [Bool.and_eq_true, decide_eq_true_eq] at he
            refine mxSs_of (pss_one (ps_set (X := X.suite a ((a, oe) :: pn)) (i := j) (by show X.N.Nodup; rw [G.G.N]; exact G.G.nd) j1 j2 (pe_tup pa_mx) hsw j3)) ?_
            refine xfs_ok (X := X) (vs := ws) v1 v2 v3 v4 hz hf T hρ hd he.1 hno hm ⟨?_, fun p hp => ?_⟩
            · have := congrArg List.length hm
              rw [List.length_map, List.length_map] at this
              rw [← this]
              exact szM he.2
            · have s' := s.go (Ext.lay (o := .tup ws) s.rg hp) (s.rg.lay hp)
              exact fin s' (tup_rep (.inl (.inl put_same)) (RepL.le (Wd.le_put (s.rg.nf hp)) _ _ hws)) o
          · cases he
        | false =>
          rw [if_neg Bool.false_ne_true] at he o
          obtain ⟨f, rfl⟩ : ∃ f, fs = [f] := by
            split at he
            · exact ⟨_, rfl⟩
            · cases he
          · have he : xfsB M.C.fld n [f] [e] = true := he
            unfold xfsB at he
            dsimp only at he
            rw [Bool.and_eq_true] at he
            obtain ⟨b1, _⟩ := he
            split at b1
            · simp only [Bool.and_eq_true, decide_eq_true_eq] at b1
              obtain ⟨rfl, rfl⟩ := b1
              cases ws with
              | nil => cases hm
              | cons w ws =>
                rw [List.map_cons, List.map_cons] at hm
                obtain ⟨m1, m2⟩ := List.cons.inj hm
                cases ws with
                | cons => cases m2
                | nil =>
                  cases es with
                  | nil => exact nomatch hws.nil_eq
                  | cons d es =>
                    obtain ⟨w', r, e1, hd1, hd2⟩ := hws.uncons
                    cases e1
                    cases es with
                    | cons => obtain ⟨_, _, z, _⟩ := hd2.uncons; cases z
                    | nil =>
                      refine mxSs_of (pss_one (ps_set (X := X.suite a ((a, oe) :: pn)) (i := j) (by show X.N.Nodup; rw [G.G.N]; exact G.G.nd) j1 j2 (pe_xf T (hno f (List.mem_cons_self ..)) hz hf (pe_var (X := X.suite a ((a, oe) :: pn)) v1 v2 v3 v4)) hsw j3)) ?_
                      exact ⟨.ref a, hρ, rfl, rfl, dd, flds, w, rfl, hd, m1, fin s hd1 o⟩
            · cases b1
    · exact o.elim
  · rw [ee] at o
    rw [if_neg Bool.false_ne_true] at o
    exact hw F u2 W g H σ ρ Dn c ds _ dx s xx o

/-! ### try -/
theorem ownF_of {σ : Sg} (h : ownF σ = true) {i : Nat} {s : SV} (e : σ[i]? = some (some s)) : s.own = false := by
  unfold ownF at h
  have z := List.all_eq_true.mp h _ (List.mem_of_getElem? e)
  cases s <;> first
    | rfl
    | cases z
theorem snd_try {body : List Stmt} {h0 : ExceptHandler} {hds : List ExceptHandler} {pos : Pos} {b : Ss} {x : Hs} (hb : SndSs M ini S body b) (hh : SndH M ini S (h0 :: hds) x) : SndS M ini S (.Try body (h0 :: hds) [] [] pos) (.try_ b x) := by
  intro X Wx G F hU W g H σ ρ Dn s o
  have u1 : ∀ i ∈ b.own, i ∈ F.U := fun i hi => hU i (List.mem_append_left _ hi)
  have u2 : ∀ i ∈ x.own, i ∈ F.U := fun i hi => hU i (List.mem_append_right _ hi)
  have o : OkS M F Wx (if ownF σ then (match evSs M.Gam M.call b σ g with
      | .ex c ds g' => evHs M.Gam M.call x c ds (wipeS σ b.own) g'
      | r => r) else .no) Dn := o
  split at o
  · rename_i hσ
    obtain ⟨l, hl, hw⟩ := hh X Wx G
    refine mxS_of (ps_try_cls G.st G.fm G.G.tk (tb := fun Wy D σ H => ∀ pn xe, Takes (X.tr pn xe) Wy → PassesOwn (model X.prog X.w) X.A X.env xe → mxSs (X.tr pn xe) body D σ H) (fun Wy pn xe tk po => ⟨fun pins s σ H D I h => h pn xe tk po pins s I⟩) hl) ?_
    intro pn xe tk po
    have st : St1 M.C ⟨W, g, H, b.own, ρ, W⟩ W g H σ ρ := ⟨s.rg, .refl, s.rg, s.rs, fun i sv a hs ho _ => (by rw [ownF_of hσ hs] at ho; cases ho), fun _ _ => rfl, rfl, .refl⟩
    refine hb _ _ (G.tr tk po) ⟨W, g, H, b.own, ρ, W⟩ (fun i hi => hi) W g H σ ρ Dn st ?_
    cases q : evSs M.Gam M.call b σ g with
    | no => rw [q] at o; exact o
    | ok r g' =>
      rw [q] at o
      intro W' H' ρ' s'
      have z := o W' H' ρ' ⟨s.r0, s.ext.trans s.r0 s'.ext, s'.rg, s'.rs, fun i sv a h1 h2 h3 => fresh_of s.ext (s'.fr i sv a h1 h2 h3), fun i hi => by rw [s'.ag i fun z => hi (u1 i z)]; exact s.ag i hi, s'.ln.trans s.ln, s.low.trans s'.ext.le⟩
      obtain ⟨fl, σ'⟩ := r
      cases fl with
      | nx => exact z
      | br => exact z
      | ct => exact z
      | ret rv =>
        intro v hv
        refine z v ?_
        cases rv with
        | v d => exact hv
        | f fr =>
          obtain ⟨a, e1, e2, e3⟩ := hv
          exact ⟨a, e1, fresh_of s.ext e2, e3⟩
    | ex c ds g' =>
      rw [q] at o
      intro W' H' cls dx ρ' e r xx ag ln
      have rs' : RelS M.C W' g' H' (wipeS σ b.own) ρ' := (s.rs.ext s.rg e).less ln ag
      refine hw F u2 W' g' H' (wipeS σ b.own) ρ' Dn c ds cls dx ⟨s.r0, s.ext.trans s.r0 e, r, rs', fun i sv a h1 h2 h3 => ?_, fun i hi => by rw [ag i fun z => hi (u1 i z)]; exact s.ag i hi, by rw [ln]; exact s.ln, s.low.trans e.le⟩ xx o
      obtain ⟨h4, _⟩ := wipeS_some h1
      rw [ownF_of hσ h4] at h2
      cases h2
  · exact o.elim
end
end VM

namespace VM
open PySem L2 SeqAt PyProof.Rows
/-! ### isinstance of the error that a suite holds -/
/-- the error's own dict, if it has one, is tracked -/
def DOk (H : Hp) (d : Option Addr) : Prop := d = none ∨ ∃ x fs, d = some x ∧ H x = some (.xd fs)
def rIsX (K : PySem.W.Frag) (a : Addr) (cls : Value) (d : Option Addr) : List V → Hp → VK → Prop := fun xs H Q => ∃ (D : Addr) (c : V) (cv : Value) (b : Bool), cls = .ref D ∧ IsX K D ∧ DOk H d ∧ xs = [.ref a, c] ∧ ClsV c cv ∧ PySem.W.kitOne K (.ref D) cv = some b ∧ Q (.bl b) H
theorem inst_of {X : Cx} {pins : List (Addr × Obj)} {σ : L2.St} {H : Hp} {s : Shared} {a D : Addr} {oe : Obj} {d : Option Addr} (I : Inv X pins σ H s) (ho : s.heap.get? a = some oe) (hz : Zc (.ref D) d oe) (hf : ∃ vs, oe.data = .fields vs) (hd : DOk H d) : ∃ od, PySem.W.InstAt s.heap a oe D od := by
  obtain ⟨oc, odx, odt, osl⟩ := oe
  obtain ⟨e1, e2⟩ := hz
  obtain ⟨vs, e3⟩ := hf
  dsimp only at e1 e2 e3
  subst e1 e2 e3
  rcases hd with e | ⟨x, fs, e, hx⟩
  · subst e
    exact ⟨none, ho, rfl, rfl, trivial⟩
  · subst e
    obtain ⟨_, ⟨od, _, _, hg, _⟩, _⟩ := (show ObjOk X.prog X.w H s.heap x (.xd fs) from I.hok x _ hx)
    exact ⟨some od, ho, rfl, rfl, hg⟩
theorem call_isX {X : Cx} {K : PySem.W.Frag} (hK : X.K = K) {a : Addr} {cls : Value} {d : Option Addr} {oe : Obj} {pn : List (Addr × Obj)} (hz : Zc cls d oe) (hf : ∃ vs, oe.data = .fields vs) : CallR (X.suite a ((a, oe) :: pn)) (.builtin "isinstance") (rIsX K a cls d) := by
  subst hK
  intro pins s σ H xs us Q I r h
  obtain ⟨D, c, cv, b, rfl, T, hd, rfl, hc, e, q⟩ := h
  obtain ⟨u1, u2, rfl, r1, r2⟩ := vals2 r
  have e2 := hc.eq r2
  subst e2
  cases (show u1 = Value.ref a from r1)
  obtain ⟨ho, _⟩ := I.pin (a, oe) (List.mem_append.mpr (.inl List.mem_cons_self))
  obtain ⟨od, J⟩ := inst_of I ho hz hf hd
  exact PySem.W.kia_one (PySem.W.kitx_exc T.cl T.ga T.gg T.ex T.ca T.cn T.ct T.cm) I.kIn J e (fun z => nomatch z) fun tk => ⟨.bl b, H, I.tok tk, rfl, q⟩
section
variable {M : Cf} {ini : Nat → Option Nat} {S : Sc}
theorem mxT_bl {Y : Cx} {e : Expr} {ρ : L2.St} {H : Hp} {Q : Bool → Hp → Prop} (hp : plainT e = true) (h : mxE Y e ρ H (fun v H1 => ∃ b, v = .bl b ∧ Q b H1)) : mxT Y e ρ H Q := by
  intro pins s I
  refine isTrue_plain (thn (h pins s I) fun v s1 ⟨x, H1, I1, r1, b, e1, q1⟩ => ?_) (plainT_of hp _)
  subst e1
  exact tru_ok pins s1 ρ H1 _ v Q I1 r1 ⟨b, rfl, q1⟩
variable {X : Cx} {Wx : WX} {F : Frm} {W : Wd} {g : Gs} {H : Hp} {σ : Sg} {ρ : L2.St} {i : Nat} {n : Str} {a A : Addr} {oe : Obj} {pn : List (Addr × Obj)} {dx : Option Addr}
theorem isN_mx (G : GoodS M ini S X Wx) (hv : visB S i n = true) (hz : Zc (.ref A) dx oe) (hf : ∃ vs, oe.data = .fields vs) (hρ : ρ[i]? = some (some (.ref a))) (T : IsX M.C.K A) (hd : DOk H dx) {c : Str} {cv : V} {cu : Value} {b : Bool} {e : Expr} (he : isiN S n c e = true)
    (hc : ∀ p : Pos, PE (X.suite a ((a, oe) :: pn)) (.Name c p) (tC cv)) (cl : ClsV cv cu) (k : PySem.W.kitOne M.C.K (.ref A) cu = some b) : mxT (X.suite a ((a, oe) :: pn)) e ρ H (fun b' H' => b' = b ∧ H' = H) := by
  obtain ⟨v1, v2, v3, v4⟩ := visB_of G.G hv
  unfold isiN at he
  split at he
  · simp only [Bool.and_eq_true, decide_eq_true_eq] at he
    obtain ⟨⟨⟨⟨rfl, h2⟩, rfl⟩, rfl⟩, h5⟩ := he
    refine mxT_bl rfl ?_
    refine mxE_of (pe_callB (X := X.suite a ((a, oe) :: pn)) (call_isX G.G.K hz hf) (globB_of G.G h2).1 (bt_of G.G (by decide)) rfl (pa_cons (pe_var (X := X.suite a ((a, oe) :: pn)) v1 v2 v3 v4) (pa_cons (hc _) pa_nil)) (by decide) (by decide) rfl rfl) ?_
    exact ⟨.ref a, hρ, A, cv, cu, b, rfl, T, hd, rfl, cl, k, b, rfl, rfl, rfl⟩
  · cases he
theorem isA_mx (G : GoodS M ini S X Wx) (hv : visB S i n = true) (hz : Zc (.ref A) dx oe) (hf : ∃ vs, oe.data = .fields vs) (hρ : ρ[i]? = some (some (.ref a))) {dd : Addr} {flds : List (Str × V)} {v : V} {f : Str} (T : XfC X.K A) (hno : PySem.W.findIn X.K (.ref A) f = some none)
    (hdx : dx = some dd) (hd : H dd = some (.xd flds)) (hl : flds.lookup f = some v) (r : RelG M.C W g H) {d : D} (hr : Rep M.C W d v) {ty : Ty} (hty : ty ∈ bTys) {b : Bool} (hb : isT M.Gam g d ty = some b) {e : Expr} (he : isiA S n f (tyS ty) e = true) :
    mxT (X.suite a ((a, oe) :: pn)) e ρ H (fun b' H' => b' = b ∧ H' = H) := by
  obtain ⟨v1, v2, v3, v4⟩ := visB_of G.G hv
  unfold isiA at he
  split at he
  · rename_i x _ m _ gg _ dn q1 _
    simp only [Bool.and_eq_true, decide_eq_true_eq] at he
    obtain ⟨⟨⟨⟨⟨rfl, h2⟩, rfl⟩, rfl⟩, rfl⟩, h5⟩ := he
    have ht : tyB M { S with cm := false } ty (.Name (tyS ty) q1) = true := by
      show (globB S (tyS ty) && _) = true
      rw [h5]
      cases ty with
      | cls c => exact absurd hty (by simp [bTys])
      | _ => rfl
    obtain ⟨_, cv, cu, t1, t2⟩ := tyB_of (S := { S with cm := false }) (G.suite a ((a, oe) :: pn)).G ht
    obtain ⟨tv, k1, k2⟩ := ty_of G.G.ci r (.inl hr) ⟨ty, b, hb⟩
    refine mxT_bl rfl ?_
    refine mxE_of (pe_callB (X := X.suite a ((a, oe) :: pn)) call_isi (globB_of G.G h2).1 (bt_of G.G (by decide)) rfl (pa_cons (pe_xf T hno hz hf (pe_var (X := X.suite a ((a, oe) :: pn)) v1 v2 v3 v4)) (pa_cons t2 pa_nil)) (by decide) (by decide) rfl rfl) ?_
    refine ⟨.ref a, hρ, rfl, rfl, dd, flds, v, hdx, hd, hl, v, cv, tv, cu, b, rfl, t1.cls, ?_, ?_, b, rfl, rfl, rfl⟩
    · show _
      have := k1
      rw [← G.G.K] at this
      exact this
    · have := k2 ty b cv cu hb t1
      rw [← G.G.K] at this
      exact this
  · cases he
theorem ret_mx {Y : Cx} {w : Str} {k : Int} {ss : List Stmt} {Dn : Ends} {ρ : L2.St} {H : Hp} (h : retB w k ss = true) (q : ∀ p, H p = none → Dn.rt (.ref p) (upd H p (.tup [.str w, .int k]))) : mxSs Y ss Dn ρ H := by
  unfold retB at h
  split at h
  · rw [Bool.and_eq_true, decide_eq_true_eq, decide_eq_true_eq] at h
    obtain ⟨rfl, rfl⟩ := h
    exact mxSs_of (pss_one (ps_ret (pe_tup (pa_cons pe_str (pa_cons pe_int pa_nil))))) ⟨by show 2 ≤ sizeLine; decide, q⟩
  · cases h
theorem not_mx {Y : Cx} {p : Expr → Bool} {e : Expr} {ρ : L2.St} {H : Hp} {b : Bool} (h : notP p e = true) (k : ∀ x, p x = true → mxT Y x ρ H (fun b' H' => b' = b ∧ H' = H)) : mxT Y e ρ H (fun b' H' => b' = !b ∧ H' = H) := by
  unfold notP at h
  split at h
  · refine mxT_of (pt_not pt_mx) ?_
    exact fun pins s I => thn (k _ h pins s I) fun u s1 ⟨H1, I1, e1, e2⟩ => ⟨H1, I1, by rw [e1], e2⟩
  · cases h
theorem or2_mx {Y : Cx} {x y : Expr} {p : Pos} {b c : Bool} {ρ : L2.St} {H : Hp} (hx : mxT Y x ρ H (fun b' H' => b' = b ∧ H' = H)) (hy : mxT Y y ρ H (fun b' H' => b' = c ∧ H' = H)) : mxT Y (.BoolOp .Or [x, y] p) ρ H (fun b' H' => b' = (b || c) ∧ H' = H) := by
  refine mxT_ofW (mxW_of (pw_or pt_mx (pw_or1 pt_mx)) ?_)
  refine fun pins s I => thn (hx pins s I) fun u s1 ⟨H1, I1, e1, e2⟩ => ⟨H1, I1, ?_⟩
  subst e1 e2
  cases u with
  | true => exact ⟨rfl, rfl⟩
  | false => exact hy
theorem or3_mx {Y : Cx} {x y z : Expr} {p : Pos} {b c d : Bool} {ρ : L2.St} {H : Hp} (hx : mxT Y x ρ H (fun b' H' => b' = b ∧ H' = H)) (hy : mxT Y y ρ H (fun b' H' => b' = c ∧ H' = H)) (hz : mxT Y z ρ H (fun b' H' => b' = d ∧ H' = H)) :
    mxT Y (.BoolOp .Or [x, y, z] p) ρ H (fun b' H' => b' = (b || (c || d)) ∧ H' = H) := by
  refine mxT_ofW (mxW_of (pw_or pt_mx (pw_or pt_mx (pw_or1 pt_mx))) ?_)
  refine fun pins s I => thn (hx pins s I) fun u s1 ⟨H1, I1, e1, e2⟩ => ⟨H1, I1, ?_⟩
  subst e1 e2
  cases u with
  | true => exact ⟨rfl, rfl⟩
  | false =>
    refine fun pins s I => thn (hy pins s I) fun u s1 ⟨H1, I1, e1, e2⟩ => ⟨H1, I1, ?_⟩
    subst e1 e2
    cases u with
    | true => exact ⟨rfl, rfl⟩
    | false => exact hz
theorem isT_bool_int {g : Gs} {d : D} {b : Bool} (h : isT M.Gam g d .bool = some b) : ∃ b', isT M.Gam g d .int = some b' := by
  cases d <;> first
    | exact ⟨_, rfl⟩
    | (cases h; done)
    | skip
  rename_i m
  unfold isT at h ⊢
  dsimp only at h ⊢
  cases q : g.cell m with
  | none => rw [q] at h; cases h
  | some c => cases c <;> exact ⟨_, rfl⟩
theorem snd_htold {h c1 c3 f : Nat} {x : Str} {np hp : Pos} {ss : List Stmt} {hds : List ExceptHandler} {hs : Hs} (hx : x = M.nm.cls h) (hg : globB S x = true) (hc : h ∈ M.xcs) (hn : hnB S i n = true) (hv : visB S i n = true) (h1 : c1 ∈ M.xcs) (h3 : c3 ∈ M.xcs)
    (hb : toldB S n (M.nm.cls c1) (M.nm.cls c3) (M.C.fld f) ss = true) (hr : SndH M ini S hds hs) : SndH M ini S (.ExceptHandler (some (.Name x np)) (some n) ss hp :: hds) (.told h i c1 c3 f hs) := by
  intro X Wx G
  obtain ⟨B, hB⟩ := G.G.xc.at_ h hc
  obtain ⟨B1, hB1⟩ := G.G.xc.at_ c1 h1
  obtain ⟨B3, hB3⟩ := G.G.xc.at_ c3 h3
  obtain ⟨l, hl, hw⟩ := hr X Wx G
  unfold hnB at hn
  rw [Bool.and_eq_true, beq_iff_eq, beq_iff_eq] at hn
  unfold toldB at hb
  split at hb
  · skip
    simp only [Bool.and_eq_true, decide_eq_true_eq] at hb
    obtain ⟨⟨⟨⟨⟨⟨⟨⟨⟨t1, t2⟩, t3⟩, t4⟩, t5⟩, t6⟩, t7⟩, rfl⟩, rfl⟩, rfl⟩ := hb
    obtain ⟨v1, v2, v3, v4⟩ := visB_of G.G hv
    refine ⟨⟨.ref B, some i, tSu X _⟩ :: l, .named (ClsNames G.G hx hg hB) (by rw [G.G.N]; exact G.G.nd) (by rw [G.G.N]; exact hn.1) (by unfold Env.kindOf; rw [G.G.sc]; exact hn.2) tSu_ok hl, fun F hU W g H σ ρ Dn c ds cls dx s xx o => ?_⟩
    have ui : i ∈ F.U := hU i (List.mem_cons_self ..)
    have u2 : ∀ i ∈ hs.own, i ∈ F.U := fun i hi => hU i (List.mem_cons_of_mem _ hi)
    have o : OkS M F Wx (if isC M.Gam c h then (if i < σ.length then (match lookF f (xfOf M.Gam c) ds with
        | some d => (match toldD M.Gam g c c1 c3 d with
          | some r => .ok (.ret (.v r), σ.set i none) g
          | none => .no)
        | none => .no) else .no) else evHs M.Gam M.call hs c ds σ g) Dn := o
    obtain ⟨A, hA, rfl, hdat⟩ := id xx
    refine ⟨isC M.Gam c h, by rw [G.G.K]; exact G.G.xc.exm c h A B hA hB, fun ee a ha oe pn hz hf => ?_, fun ee => ?_⟩
    · rw [ee] at o
      rw [if_pos rfl] at o
      split at o
      · rename_i hi
        cases ql : lookF f (xfOf M.Gam c) ds with
        | none => rw [ql] at o; exact o.elim
        | some d =>
          rw [ql] at o
          dsimp only at o
          have hρ : (ρ.set i (some (V.ref a)))[i]? = some (some (.ref a)) := List.getElem?_set_self (by rw [← s.rs.len]; exact hi)
          have hdat : ∃ dd flds v, dx = some dd ∧ H dd = some (.xd flds) ∧ XfC X.K A ∧ PySem.W.findIn X.K (.ref A) (M.C.fld f) = some none ∧ flds.lookup (M.C.fld f) = some v ∧ Rep M.C W d v := by
            rcases hdat with ⟨z, _, _⟩ | ⟨dd, flds, ws, rfl, hnn, hd, hm, hw⟩
            · have z : xfOf M.Gam c = [] := z
              rw [z] at ql
              cases ql
            · obtain ⟨v, k1, k2, k3⟩ := lookX (L := fun f => flds.lookup (M.C.fld f)) ql hm hw
              obtain ⟨T, hno⟩ := G.G.xc.fld c A hA hnn
              exact ⟨dd, flds, v, rfl, hd, by rw [G.G.K]; exact T, by rw [G.G.K]; exact hno f k3, k1, k2⟩
          obtain ⟨dd, flds, v, rfl, hd, T, hno, hlk, hrep⟩ := hdat
          obtain ⟨TX, kv⟩ := G.G.xc.isx c A hA
          have dok : DOk H (some dd) := .inr ⟨dd, flds, rfl, hd⟩
          have fin : ∀ {W' : Wd} {H' : Hp} {r : D} {w : V}, St1 M.C F W' g H' σ ρ → Rep M.C W' r w → OkS M F Wx (.ok (.ret (.v r), σ.set i none) g) Dn → Dn.rt w H' := fun {W' H' r w} s' hw' o' => OkS.ok (fl := .ret (.v r)) (s'.drop ui) o' w hw'
          have tup2 : ∀ {x y : D} {vx vy : V}, Rep M.C W x vx → Rep M.C W y vy → OkS M F Wx (.ok (.ret (.v (.tup [x, y])), σ.set i none) g) Dn → ∀ p, H p = none → Dn.rt (.ref p) (upd H p (.tup [vx, vy])) := fun {x y vx vy} r1 r2 o' p hp => by
            have s' := s.go (Ext.lay (o := .tup [vx, vy]) s.rg hp) (s.rg.lay hp)
            exact fin s' (tup_rep (.inl (.inl put_same)) (.cons (Rep.le (Wd.le_put (s.rg.nf hp)) _ _ r1) (.cons (Rep.le (Wd.le_put (s.rg.nf hp)) _ _ r2) .nil))) o'
          have c1k : PySem.W.kitOne M.C.K (.ref A) (.ref B1) = some (isC M.Gam c c1) := G.G.xc.kit c c1 A B1 hA hB1
          have c3k : PySem.W.kitOne M.C.K (.ref A) (.ref B3) = some (isC M.Gam c c3) := G.G.xc.kit c c3 A B3 hA hB3
          have gl : ∀ {k : Nat} {BB : Addr}, M.C.xA k = some BB → ∀ {e : Expr} {nn : Str}, isiN S nn (M.nm.cls k) e = true → ∀ p : Pos, PE (X.suite a ((a, oe) :: pn)) (.Name (M.nm.cls k) p) (tC (.ref BB)) := fun {k BB} hk {e nn} he p => by
            have hg2 : globB S (M.nm.cls k) = true := by
              unfold isiN at he
              split at he
              · simp only [Bool.and_eq_true, decide_eq_true_eq] at he
                rw [← he.1.2]
                exact he.2
              · cases he
            obtain ⟨g1, g2⟩ := globB_of G.G hg2
            exact pe_glob (X := X.suite a ((a, oe) :: pn)) (v := .ref BB) g1 (by show X.mg _ = _; rw [G.G.mg]; exact G.G.xc.mg k BB hk) rfl g2
          have m1 := not_mx (b := isC M.Gam c c1) t1 fun e he => isN_mx (ρ := ρ.set i (some (.ref a))) (H := H) (pn := pn) G hv hz hf hρ TX dok he (gl hB1 he) (.own _) c1k
          have m2 := not_mx (b := true) t2 fun e he => isN_mx (ρ := ρ.set i (some (.ref a))) (H := H) (pn := pn) G hv hz hf hρ TX dok he (fun p => by
            have hg2 : globB S "ValueError" = true := by
              unfold isiN at he
              split at he
              · simp only [Bool.and_eq_true, decide_eq_true_eq] at he
                rw [← he.1.2]
                exact he.2
              · cases he
            obtain ⟨g1, g2⟩ := globB_of G.G hg2
            exact pe_bltn (X := X.suite a ((a, oe) :: pn)) (v := .ty "ValueError") g1 (bt_of G.G (by decide)) rfl rfl (by decide) g2) (.ty "ValueError") kv
          have m3 := isN_mx (ρ := ρ.set i (some (.ref a))) (H := H) (pn := pn) (b := isC M.Gam c c3) G hv hz hf hρ TX dok t3 (gl hB3 t3) (.own _) c3k
          refine mxSs_of (pss_cons (ps_if pt_mx pss_mx pss_nil) (pss_cons (ps_if pt_mx pss_mx pss_nil) (pss_one (ps_ret (pe_tup (pa_cons pe_str (pa_cons (pe_xf T hno hz hf (pe_var (X := X.suite a ((a, oe) :: pn)) v1 v2 v3 v4)) pa_nil))))))) ?_
          refine fun pins s' I' => thn (or3_mx m1 m2 m3 pins s' I') fun b0 s1 ⟨H1, I1, e1, e2⟩ => ⟨H1, I1, ?_⟩
          subst e1 e2
          unfold toldD at o
          cases q1 : (!isC M.Gam c c1 || (!true || isC M.Gam c c3)) with
          | true =>
            have q1' : (!isC M.Gam c c1 || isC M.Gam c c3) = true := by simpa using q1
            rw [if_pos q1'] at o
            exact ret_mx t4 (tup2 (x := .str "other") (y := .int 0) rfl rfl o)
          | false =>
            have q1' : ¬ (!isC M.Gam c c1 || isC M.Gam c c3) = true := by simpa using q1
            rw [if_neg q1'] at o
            cases qb : isT M.Gam g d .bool with
            | none => rw [qb] at o; exact o.elim
            | some bb =>
              rw [qb] at o
              obtain ⟨bi, qi⟩ := isT_bool_int qb
              have n1 := isA_mx (ρ := ρ.set i (some (.ref a))) (pn := pn) G hv hz hf hρ T hno rfl hd hlk s.rg hrep (ty := .bool) (by decide) qb t5
              have n2 := not_mx (b := bi) t6 fun e he => isA_mx (ρ := ρ.set i (some (.ref a))) (pn := pn) G hv hz hf hρ T hno rfl hd hlk s.rg hrep (ty := .int) (by decide) qi he
              refine fun pins s' I' => thn (or2_mx n1 n2 pins s' I') fun b0 s1 ⟨H1, I1, e1, e2⟩ => ⟨H1, I1, ?_⟩
              subst e1 e2
              cases bb with
              | true => exact ret_mx t7 (tup2 (x := .str "other") (y := .int 1) rfl rfl o)
              | false =>
                rw [qi] at o
                cases bi with
                | false => exact ret_mx t7 (tup2 (x := .str "other") (y := .int 1) rfl rfl o)
                | true =>
                  refine ⟨.ref a, hρ, rfl, rfl, dd, flds, v, rfl, hd, hlk, by show 2 ≤ sizeLine; decide, ?_⟩
                  exact tup2 (x := .str "refused") rfl hrep o
      · exact o.elim
    · rw [ee] at o
      rw [if_neg Bool.false_ne_true] at o
      exact hw F u2 W g H σ ρ Dn c ds _ dx s xx o
  · cases hb
end
end VM

set_option maxHeartbeats 8000000
namespace VM
open PySem L2 SeqAt PyProof.Rows
section
variable {M : Cf} {ini : Nat → Option Nat} {B : Tb}
theorem noTup_stores {tg e : Expr} {env : Env} (h : (match tg, e with
    | .Tuple .., .Tuple .. => false
    | _, _ => true) = true) (hp : plainTg tg = true) : swappedStores [tg] e env = pure none := by
  cases tg <;> first
    | (cases hp; done)
    | (cases e <;> first
        | rfl
        | (cases h; done))
mutual
theorem okS_ok (T : TbOk M B) : ∀ {x : VM.S} {S : Sc} {s : Stmt}, okS B S x s = true → SndS M ini S s x
  | .setm i f, S, s, h => by
    unfold okS at h
    split at h
    · exact snd_setm (okA_ok T h)
    · cases h
  | .setam i f x, S, s, h => by
    unfold okS at h
    split at h
    · simp only [Bool.and_eq_true, decide_eq_true_eq] at h
      exact snd_setam h.1.1.1 (by rw [T.fld]; exact h.1.1.2) (by rw [T.flds]; simpa using h.1.2) (okE_ok T h.2)
    · cases h
  | .exp x, S, s, h => by
    unfold okS at h
    split at h
    · rw [Bool.and_eq_true] at h
      exact snd_exp (okE_ok T h.1) (fun X => noComp_of h.2)
    · cases h
  | .ret x, S, s, h => by
    unfold okS at h
    split at h
    · exact snd_ret (okE_ok T h)
    · cases h
  | .retf f, S, s, h => by
    unfold okS at h
    split at h
    · exact snd_retf (okF_ok T h)
    · cases h
  | .retm i, S, s, h => by
    unfold okS at h
    split at h
    · exact snd_retm h
    · cases h
  | .retn, S, s, h => by
    unfold okS at h
    split at h
    · exact snd_retn
    · cases h
  | .if_ c a b, S, s, h => by
    unfold okS at h
    split at h
    · simp only [Bool.and_eq_true] at h
      exact snd_if (okT_ok T h.1.1).1 (okSs_ok T h.1.2) (okSs_ok T h.2)
    · cases h
  | .whl c b, S, s, h => by
    unfold okS at h
    split at h
    · rw [Bool.and_eq_true] at h
      exact snd_whl (okT_ok T h.1).1 (okSs_ok T h.2)
    · cases h
  | .for_ t it b, S, s, h => by
    unfold okS at h
    split at h
    · simp only [Bool.and_eq_true] at h
      exact snd_for (okIv_ok T h.1.1.1.2) (okTg_ok h.1.1.1.1) (okSs_ok T h.1.1.2) h.1.2 h.2
    · cases h
  | .brk, S, s, h => by
    unfold okS at h
    split at h
    · exact snd_brk
    · cases h
  | .cnt, S, s, h => by
    unfold okS at h
    split at h
    · exact snd_cnt
    · cases h
  | .pass, S, s, h => by
    unfold okS at h
    split at h
    · exact snd_pass
    · cases h
  | .seti (.e x) i e, S, s, h => by
    unfold okS at h
    split at h
    · simp only [Bool.and_eq_true] at h
      exact snd_setiE (okE_ok T h.1.1.1) (okE_ok T h.1.1.2) (okE_ok T h.1.2) h.2
    · cases h
  | .seti (.m k) i e, S, s, h => by
    unfold okS at h
    split at h
    · rename_i o j _ e' _
      simp only [Bool.and_eq_true] at h
      have hm := h.1.1.1
      cases o with
      | Name y p => exact snd_setiM hm (okE_ok T h.1.1.2) (okE_ok T h.1.2) h.2
      | _ => cases hm
    · cases h
  | .set t x, S, s, h => by
    unfold okS at h
    split at h
    · split at h
      · split at h
        · split at h
          · exact snd_setfz (okA_ok T h)
          · cases h
        · cases h
      · split at h
        · split at h
          · exact snd_setng (okA_ok T h)
          · cases h
        · cases h
      · simp only [Bool.and_eq_true] at h
        exact snd_set (okTg_ok h.1.1.1.1) (okE_ok T h.1.1.1.2) h.1.1.2 h.1.2 (fun env => noTup_stores h.2 h.1.2)
    · cases h
  | .mut p m es, S, s, h => by
    unfold okS at h
    split at h
    · rename_i o n apos xs cpos _
      simp only [Bool.and_eq_true, Bool.or_eq_true, decide_eq_true_eq, Bool.not_eq_true'] at h
      obtain ⟨⟨⟨⟨⟨⟨⟨h1, h2⟩, rfl⟩, h4⟩, h5⟩, h6⟩, h7⟩, h8⟩ := h
      cases xs with
      | nil => cases h7
      | cons e es' =>
        cases p with
        | e a => exact snd_mutE h4 (okE_ok T h1) h5 (okEs_ok T h2) (okEs_star h2) h6 h8
        | m k =>
          cases o with
          | Name y p => exact snd_mutM h4 h1 (okEs_ok T h2) (okEs_star h2) h6 h8
          | _ => cases h1
    · cases h
  | .seta .., _, _, h => by cases h
  | .pop .., _, _, h => by cases h
  | .aug .., _, _, h => by cases h
  | .auga .., _, _, h => by cases h
  | .dels .., _, _, h => by cases h
  | .raise c es, S, s, h => by
    unfold okS at h
    split at h
    · rename_i x p xs pos pos'
      simp only [Bool.and_eq_true, decide_eq_true_eq] at h
      obtain ⟨⟨⟨⟨⟨h1, h2⟩, h3⟩, h4⟩, h5⟩, h6⟩ := h
      have hc : c ∈ M.xcs := by rw [T.xcs]; simpa using h4
      cases xs with
      | nil =>
        cases es with
        | nil => exact snd_raise0 (by rw [T.nm]; exact h2) h3 hc h5
        | cons => unfold okEs at h1; cases h1
      | cons e es' =>
        refine snd_raise (by rw [T.nm]; exact h2) h3 hc h5 (okEs_ok T h1) ?_ (okEs_star h1)
        rw [T.Gam]
        intro z
        rw [z] at h6
        cases h6
    · cases h
  | .try_ b hs, S, s, h => by
    unfold okS at h
    split at h
    · rw [Bool.and_eq_true] at h
      exact snd_try (okSs_ok T h.1) (okHs_ok T h.2)
    · cases h
  | .frz .., _, _, h => by cases h
  | .fzg .., _, _, h => by cases h
theorem okSs_ok (T : TbOk M B) : ∀ {x : Ss} {S : Sc} {ss : List Stmt}, okSs B S x ss = true → SndSs M ini S ss x
  | .nil, S, [], _ => snd_ssnil
  | .nil, S, _ :: _, h => by cases h
  | .cons x xs, S, ss, h => by
    unfold okSs at h
    split at h
    · exact snd_ssfrz (okSs_ok T h)
    · exact snd_ssfzg (okSs_ok T h)
    · split at h
      · rw [Bool.and_eq_true] at h
        exact snd_sscons (okS_ok T h.1) (okSs_ok T h.2)
      · cases h
theorem okHs_ok (T : TbOk M B) : ∀ {x : Hs} {S : Sc} {hds : List ExceptHandler}, okHs B S x hds = true → SndH M ini S hds x
  | .nil, S, hds, h => by
    unfold okHs at h
    cases hds with
    | nil => exact snd_hnil
    | cons => cases h
  | .cons k i b hs, S, hds, h => by
    unfold okHs at h
    split at h
    · rename_i x np n s0 ss hp hds'
      simp only [Bool.and_eq_true, decide_eq_true_eq] at h
      obtain ⟨⟨⟨⟨⟨h1, h2⟩, h3⟩, h4⟩, h5⟩, h6⟩ := h
      have hc : k ∈ M.xcs := by rw [T.xcs]; simpa using h3
      cases i with
      | none =>
        cases n with
        | none => exact snd_hbare (by rw [T.nm]; exact h1) h2 hc (okSs_ok T h4) (okHs_ok T h6)
        | some => cases h5
      | some i =>
        cases n with
        | none => cases h5
        | some n => exact snd_hnamed (by rw [T.nm]; exact h1) h2 hc h5 (okSs_ok T h4) (okHs_ok T h6)
    · cases h
  | .get k i j tup fs hs, S, hds, h => by
    unfold okHs at h
    split at h
    · simp only [Bool.and_eq_true, decide_eq_true_eq, Bool.not_eq_true'] at h
      obtain ⟨⟨⟨⟨⟨⟨⟨⟨h1, h2⟩, h3⟩, h4⟩, h5⟩, h6⟩, h7⟩, h8⟩, h9⟩ := h
      have hc : k ∈ M.xcs := by rw [T.xcs]; simpa using h3
      refine snd_hget (by rw [T.nm]; exact h1) h2 hc h4 h5 h6 ?_ ?_ (okHs_ok T h9)
      · rw [show M.C.fld = B.fld from funext T.fld]; exact h7
      · intro z
        rw [z] at h8
        cases h8
    · cases h
  | .told k i c1 c3 f hs, S, hds, h => by
    unfold okHs at h
    split at h
    · simp only [Bool.and_eq_true, decide_eq_true_eq] at h
      obtain ⟨⟨⟨⟨⟨⟨⟨⟨h1, h2⟩, h3⟩, h4⟩, h5⟩, h6⟩, h7⟩, h8⟩, h9⟩ := h
      have hc : k ∈ M.xcs := by rw [T.xcs]; simpa using h3
      have hc1 : c1 ∈ M.xcs := by rw [T.xcs]; simpa using h6
      have hc3 : c3 ∈ M.xcs := by rw [T.xcs]; simpa using h7
      refine snd_htold (by rw [T.nm]; exact h1) h2 hc h4 h5 hc1 hc3 ?_ (okHs_ok T h9)
      rw [T.nm, show M.C.fld = B.fld from funext T.fld]
      exact h8
    · cases h
end
end
end VM

namespace VM
open PySem L2 SeqAt PyProof.Rows
section
variable {M : Cf} {ini : Nat → Option Nat} {B : Tb} {P : Program} {w : World} {base : Heap}
/-- a def of the module: its text is that of its syntax -/
def DefAt (M : Cf) (B : Tb) (f : Nat) (a : Addr) (fd : FuncData) (ps : List Str) (d : Fn) : Prop := ∃ x qual st N, Fun M.C.K x qual st a fd ∧ FnScope N ps (defScope st) ∧ M.Gam.fn f = some d ∧ d.np = ps.length ∧ d.ns = N.length ∧
  okSs B ⟨true, true, N, defScope st⟩ d.body (defBody st) = true ∧ Binds M.C.K fd ps []
structure AllDefs (M : Cf) (ini : Nat → Option Nat) (B : Tb) (P : Program) (w : World) (base : Heap) : Prop where
  wd : w = M.C.wd
  ex : ∀ c A, M.C.xA c = some A → ExL M P w base c A
  eqs : ∀ c A, M.C.cA c = some A → ∃ f fd ps, FnOk P w M.C.K M.C.mg base CX0 1 f fd ps (spEqT A) ∧ EqC M.C.K A f ∧ Binds M.C.K fd ps []
  gl : ∀ f a, M.C.fA f = some a → ini f = none ∧ ∃ fd ps d, DefAt M B f a fd ps d
  me : ∀ c m f A, M.Gam.meth c m = some f → M.C.cA c = some A → ini f = none ∧ ∃ a fd ps d, L2.Cls M.C.K A ∧ Meth M.C.K A (M.nm.mth m) a ∧ DefAt M B f a fd ps d
  nw : ∀ c kc f A, M.Gam.cls c = some kc → kc.init = some f → M.C.cA c = some A → ∃ a fd ps d, Mk M.C.K A a ∧ DefAt M B f a fd ps d ∧ (kc.kind = .froz → ini f = some c ∧ 0 ∉ d.body.own) ∧ (kc.kind = .mut → ini f = none)
abbrev Cf.at (M : Cf) (ini : Nat → Option Nat) (n : Nat) : Cf := { M with call := callN M.Gam ini n }
theorem LawK.at (L : LawK M) (n : Nat) : LawK (M.at ini n) := ⟨L.ci, L.fx, L.mf, L.con, L.fnm, L.clm, L.cl, L.na, L.bt, L.cx, ⟨L.xc.mg, L.xc.at_, L.xc.exm, L.xc.fld, L.xc.isx, L.xc.kit⟩⟩
theorem TbOk.at (T : TbOk M B) (n : Nat) : TbOk (M.at ini n) B := ⟨T.nm, T.fld, T.flds, T.clss, T.fns, T.mths, T.xcs, T.Gam, T.fa⟩
theorem callN_run {f : Nat} {d : Fn} (h : M.Gam.fn f = some d) (hi : ini f = none) (n : Nat) (ds : List D) (g : Gs) : callN M.Gam ini (n + 1) f ds g = runF M.Gam (callN M.Gam ini n) d ds g := by
  show (match M.Gam.fn f with
    | none => Out.no
    | some d => match ini f with
      | some c => runI M.Gam (callN M.Gam ini n) d c ds g
      | none => runF M.Gam (callN M.Gam ini n) d ds g) = _
  rw [h, hi]
theorem callN_ini {f c : Nat} {d : Fn} (h : M.Gam.fn f = some d) (hi : ini f = some c) (n : Nat) (ds : List D) (g : Gs) : callN M.Gam ini (n + 1) f ds g = runI M.Gam (callN M.Gam ini n) d c ds g := by
  show (match M.Gam.fn f with
    | none => Out.no
    | some d => match ini f with
      | some c => runI M.Gam (callN M.Gam ini n) d c ds g
      | none => runF M.Gam (callN M.Gam ini n) d ds g) = _
  rw [h, hi]
theorem inX_at {A : Addr} {sp : Sp} {k n : Nat} (h : InX M P w base A sp k) : InX (M.at ini n) P w base A sp k := ⟨h.o, h.at_⟩
theorem exL_at {c n : Nat} {A : Addr} (h : ExL M P w base c A) : ExL (M.at ini n) P w base c A := by
  rcases h with h | ⟨f, h, i, a⟩ | ⟨f, g, h, i, a⟩
  · exact .inl h
  · exact .inr (.inl ⟨f, h, inX_at i, a⟩)
  · exact .inr (.inr ⟨f, g, h, inX_at i, a⟩)
theorem fnOk_none {CX : CXT} {k : Nat} {a : Addr} {fd : FuncData} {ps : List Str} {sp : Sp} (h : ∀ vs H Q E, sp vs H Q E → False) : FnOk P w M.C.K M.C.mg base CX k a fd ps sp :=
  ⟨fun vs H Q E z => (h vs H Q E z).elim, fun _ _ _ _ _ _ _ _ _ _ _ _ _ z => (h _ _ _ _ z).elim⟩
theorem def_at (L : LawK M) (T : TbOk M B) {n k : Nat} (D : DefsOk (M.at ini n) P w base k) {f : Nat} {a : Addr} {fd : FuncData} {ps : List Str} {d : Fn} (h : DefAt M B f a fd ps d) (hi : ini f = none) :
    FnOk P w M.C.K M.C.mg base (L2.CX P w) (k + 2) a fd ps (spOf (M.at ini (n + 1)) f) := by
  obtain ⟨x, qual, st, N, F, FS, hf, h1, h2, hb, B⟩ := h
  exact def_step (M := M.at ini n) (ini := ini) (L.at n) D F FS (fun ds g => callN_run hf hi n ds g) h1 h2 (okSs_ok (T.at n) hb)
theorem ini_at (L : LawK M) (T : TbOk M B) {n k : Nat} (D : DefsOk (M.at ini n) P w base k) {f c : Nat} {a : Addr} {fd : FuncData} {ps : List Str} {d : Fn} (h : DefAt M B f a fd ps d) (hi : ini f = some c) (h0 : 0 ∉ d.body.own) :
    FnOk P w M.C.K M.C.mg base (L2.CX P w) (k + 2) a fd ps (spIni (M.at ini (n + 1)) c f) := by
  obtain ⟨x, qual, st, N, F, FS, hf, h1, h2, hb, B⟩ := h
  exact ini_step (M := M.at ini n) (ini := ini) (L.at n) D F FS (fun ds g => callN_ini hf hi n ds g) h1 h2 h0 (okSs_ok (T.at n) hb)
/-- all defs keep their promises, to every depth -/
theorem all_defs (L : LawK M) (T : TbOk M B) (AD : AllDefs M ini B P w base) : ∀ n, DefsOk (M.at ini n) P w base (2 * n + 1)
  | 0 => by
    have no : ∀ f vs H Q E, spOf (M.at ini 0) f vs H Q E → False := fun f vs H Q E ⟨W, g, ds, _, _, o⟩ => o
    have no2 : ∀ c f vs H Q E, spIni (M.at ini 0) c f vs H Q E → False := fun c f vs H Q E ⟨W, g, ds, x, dx, A, H0, rest, _, _, _, _, _, _, _, _, o⟩ => o
    exact {
      one := Nat.le_refl _
      wd := AD.wd
      ex := fun c A h => exL_at (AD.ex c A h)
      eqs := AD.eqs
      gl := fun f a hA => by
        obtain ⟨_, fd, ps, d, _, _, _, _, _, _, _, _, _, _, b⟩ := AD.gl f a hA
        exact ⟨fd, ps, fnOk_none (no f), b⟩
      me := fun c m f A h1 h2 => by
        obtain ⟨_, a, fd, ps, d, k1, k2, _, _, _, _, _, _, _, _, _, _, b⟩ := AD.me c m f A h1 h2
        exact ⟨a, fd, ps, k1, k2, fnOk_none (no f), b⟩
      nw := fun c kc f A h1 h2 h3 => by
        obtain ⟨a, fd, ps, d, k1, ⟨_, _, _, _, _, _, _, _, _, _, b⟩, _⟩ := AD.nw c kc f A h1 h2 h3
        exact ⟨a, fd, ps, k1, b, fun _ => fnOk_none (no2 c f), fun _ => fnOk_none (no f)⟩ }
  | n + 1 => by
    have D := all_defs L T AD n
    exact {
      one := Nat.succ_le_succ (Nat.zero_le _)
      wd := AD.wd
      ex := fun c A h => exL_at (AD.ex c A h)
      eqs := AD.eqs
      gl := fun f a hA => by
        obtain ⟨hi, fd, ps, d, h⟩ := AD.gl f a hA
        have b := h
        obtain ⟨_, _, _, _, _, _, _, _, _, _, b⟩ := b
        exact ⟨fd, ps, def_at L T D h hi, b⟩
      me := fun c m f A h1 h2 => by
        obtain ⟨hi, a, fd, ps, d, k1, k2, h⟩ := AD.me c m f A h1 h2
        have b := h
        obtain ⟨_, _, _, _, _, _, _, _, _, _, b⟩ := b
        exact ⟨a, fd, ps, k1, k2, def_at L T D h hi, b⟩
      nw := fun c kc f A h1 h2 h3 => by
        obtain ⟨a, fd, ps, d, k1, h, hf, hm⟩ := AD.nw c kc f A h1 h2 h3
        have b := h
        obtain ⟨_, _, _, _, _, _, _, _, _, _, b⟩ := b
        exact ⟨a, fd, ps, k1, b, fun z => ini_at L T D h (hf z).1 (hf z).2, fun z => def_at L T D h (hm z)⟩ }
end
end VM

namespace VM
open PySem L2 SeqAt PyProof.Rows
/-! ### the names of a law's ids -/
def nameOf (l : List (Nat × Str)) (i : Nat) : Str := match l.lookup i with
  | some s => s
  | none => ⟨#[0, i]⟩
def tabOk (l : List (Nat × Str)) : Bool := decide ((l.map (·.2)).Nodup) && l.all fun p => decide (p.2.cps[0]? ≠ some 0)
theorem lookup_mem {α : Type} : ∀ {l : List (Nat × α)} {i : Nat} {s : α}, l.lookup i = some s → (i, s) ∈ l
  | [], _, _, h => by cases h
  | (k, v) :: r, i, s, h => by
    rw [List.lookup_cons] at h
    by_cases q : i = k
    · subst q
      rw [beq_self_eq_true] at h
      cases h
      exact List.mem_cons_self ..
    · rw [beq_eq_false_iff_ne.mpr q] at h
      exact List.mem_cons_of_mem _ (lookup_mem h)
theorem nodup_snd {l : List (Nat × Str)} (h : (l.map (·.2)).Nodup) : ∀ {i j : Nat} {s : Str}, (i, s) ∈ l → (j, s) ∈ l → i = j := by
  induction l with
  | nil => intro i j s a; cases a
  | cons p r ih =>
    rw [List.map_cons, List.nodup_cons] at h
    intro i j s a b
    rcases List.mem_cons.mp a with a' | a'
    · rcases List.mem_cons.mp b with b' | b'
      · rw [← a'] at b'
        cases b'
        rfl
      · subst a'
        exact absurd (List.mem_map.mpr (Exists.intro (j, s) ⟨b', rfl⟩) : s ∈ r.map (·.2)) h.1
    · rcases List.mem_cons.mp b with b' | b'
      · subst b'
        exact absurd (List.mem_map.mpr (Exists.intro (i, s) ⟨a', rfl⟩) : s ∈ r.map (·.2)) h.1
      · exact ih h.2 a' b'
theorem nameOf_inj {l : List (Nat × Str)} (h : tabOk l = true) (x y : Nat) (e : nameOf l x = nameOf l y) : x = y := by
  unfold tabOk at h
  rw [Bool.and_eq_true, decide_eq_true_eq, List.all_eq_true] at h
  obtain ⟨h1, h2⟩ := h
  unfold nameOf at e
  have zero : ∀ (i : Nat), (⟨#[0, i]⟩ : Str).cps[0]? = some 0 := fun i => rfl
  split at e
  · rename_i s hx
    split at e
    · rename_i t hy
      subst e
      exact nodup_snd h1 (lookup_mem hx) (lookup_mem hy)
    · subst e
      have := h2 _ (lookup_mem hx)
      rw [decide_eq_true_eq] at this
      exact absurd (zero y) this
  · split at e
    · rename_i t hy
      subst e
      have := h2 _ (lookup_mem hy)
      rw [decide_eq_true_eq] at this
      exact absurd (zero x) this
    · injection e with e
      injection e with e
      cases e
      rfl
theorem nameOf_ne {l : List (Nat × Str)} {s : Str} (h : (decide (s.cps[0]? ≠ some 0) && !(l.map (·.2)).contains s) = true) (i : Nat) : nameOf l i ≠ s := by
  rw [Bool.and_eq_true, decide_eq_true_eq, Bool.not_eq_true'] at h
  unfold nameOf
  split
  · rename_i t ht
    rintro rfl
    have : (l.map (·.2)).contains t = true := List.contains_iff_mem.mpr (List.mem_map.mpr ⟨_, lookup_mem ht, rfl⟩)
    rw [this] at h
    cases h.2
  · rintro rfl
    exact h.1 rfl
theorem cl_of {K : PySem.W.Frag} {D : Addr} (h : PySem.W.hasDictIn K D = true) : (PySem.W.clsIn K D).isSome = true := by
  unfold PySem.W.hasDictIn at h
  cases q : PySem.W.clsIn K D with
  | none => rw [q] at h; cases h
  | some c => rfl
/-! ### rows of facts -/
def AllQ {α : Type} (P : Nat → α → Prop) : List (Nat × α) → Prop
  | [] => True
  | p :: r => P p.1 p.2 ∧ AllQ P r
theorem AllQ.look {α : Type} {P : Nat → α → Prop} : ∀ {l : List (Nat × α)}, AllQ P l → ∀ {i : Nat} {a : α}, l.lookup i = some a → P i a
  | [], _, _, _, h => by cases h
  | (k, v) :: r, q, i, s, h => by
    rw [List.lookup_cons] at h
    by_cases z : i = k
    · subst z
      rw [beq_self_eq_true] at h
      cases h
      exact q.1
    · rw [beq_eq_false_iff_ne.mpr z] at h
      exact AllQ.look q.2 h
theorem fns_ok {α : Type} {l : List (Nat × α)} {ns : List Nat} (h : (ns.all fun n => (l.lookup n).isSome) = true) : ∀ n ∈ ns, ∃ a, l.lookup n = some a := fun n hn => by
  have := List.all_eq_true.mp h n hn
  exact Option.isSome_iff_exists.mp this
section
variable (M : Cf) (ini : Nat → Option Nat) (B : Tb)
def FnRow (f : Nat) (a : Addr) : Prop := M.C.mg (M.nm.fn f) = some (.ref a) ∧ PySem.W.keepIn M.C.K (.ref a) = true ∧ ini f = none ∧ ∃ fd ps d, DefAt M B f a fd ps d
structure ClsRow (c : Nat) (A : Addr) : Prop where
  mg : M.C.mg (M.nm.cls c) = some (.ref A)
  cls : L2.Cls M.C.K A
  ha : PySem.W.findIn M.C.K (.ref A) "__class__" = some (some (.builtin "object.__class__"))
  hn : PySem.W.specialIn M.C.K (.builtin "object.__class__") "__get__" = some (some (.builtin "getset_descriptor.__get__"))
  htk : PySem.W.takesIn M.C.K (.builtin "object.__class__") = some true
  hm : PySem.W.mroIn M.C.K A (.type "object") = some true
  cb : ∀ t ∈ bTys, PySem.W.kitOne M.C.K (.ref A) (.type (tyN t)) = some false
  bc : ∀ n ∈ bNames, PySem.W.kitOne M.C.K (.type n) (.ref A) = some false
  na : ∀ f ∈ M.flds, NoAttr M.C.K A (M.C.fld f)
  me : ∀ m f, M.Gam.meth c m = some f → ini f = none ∧ ∃ a fd ps d, Meth M.C.K A (M.nm.mth m) a ∧ DefAt M B f a fd ps d
  nw : ∀ kc f, M.Gam.cls c = some kc → kc.init = some f → ∃ a fd ps d, Mk M.C.K A a ∧ DefAt M B f a fd ps d ∧ (kc.kind = .froz → ini f = some c ∧ 0 ∉ d.body.own) ∧ (kc.kind = .mut → ini f = none)
  eqs : ∀ P base, ∃ f fd ps, FnOk P M.C.wd M.C.K M.C.mg base CX0 1 f fd ps (spEqT A) ∧ EqC M.C.K A f ∧ Binds M.C.K fd ps []
structure ExcRow (c : Nat) (A : Addr) : Prop where
  mg : M.C.mg (M.nm.cls c) = some (.ref A)
  fld : xfOf M.Gam c ≠ [] → XfC M.C.K A ∧ ∀ f ∈ xfOf M.Gam c, PySem.W.findIn M.C.K (.ref A) (M.C.fld f) = some none
  ex : ∀ P base, ExL M P M.C.wd base c A
  isx : IsX M.C.K A
  kv : PySem.W.kitOne M.C.K (.ref A) (.type "ValueError") = some true
def ConRow (x : Nat) (d : D) : Prop := ∃ u v, M.C.mg (M.nm.con x) = some u ∧ RelV v u ∧ ∀ W, Rep M.C W d v
/-- all that a law's end must tell -/
structure LawRows (ft ct xt : List (Nat × Addr)) (kt : List (Nat × D)) : Prop where
  fA : M.C.fA = fun n => ft.lookup n
  cA : M.C.cA = fun n => ct.lookup n
  xA : M.C.xA = fun n => xt.lookup n
  con : M.Gam.con = fun n => kt.lookup n
  fr : AllQ (FnRow M ini B) ft
  cr : AllQ (ClsRow M ini B) ct
  xr : AllQ (ExcRow M) xt
  kr : AllQ (ConRow M) kt
  fns : (M.fns.all fun n => (ft.lookup n).isSome) = true
  clss : (M.clss.all fun n => (ct.lookup n).isSome) = true
  xcs : (M.xcs.all fun n => (xt.lookup n).isSome) = true
  cc : ∀ c A t T, M.C.cA c = some A → M.C.cA t = some T → PySem.W.kitOne M.C.K (.ref A) (.ref T) = some (isC M.Gam c t)
  exm : ∀ c h A B, M.C.xA c = some A → M.C.xA h = some B → PySem.W.exmOne M.C.K (.ref A) (.ref B) = some (isC M.Gam c h)
  kix : ∀ c h A B, M.C.xA c = some A → M.C.xA h = some B → PySem.W.kitOne M.C.K (.ref A) (.ref B) = some (isC M.Gam c h)
  mf : ∀ m ∈ M.mths, ∀ f, M.C.fld f ≠ M.nm.mth m
  bt : ∀ b ∈ bNms, M.C.mg b = none
end
section
variable {M : Cf} {ini : Nat → Option Nat} {B : Tb} {ft ct xt : List (Nat × Addr)} {kt : List (Nat × D)}
theorem LawRows.lawK (R : LawRows M ini B ft ct xt kt) : LawK M := by
  have cr : ∀ {c A}, M.C.cA c = some A → ClsRow M ini B c A := fun {c A} h => R.cr.look (by rw [R.cA] at h; exact h)
  have xr : ∀ {c A}, M.C.xA c = some A → ExcRow M c A := fun {c A} h => R.xr.look (by rw [R.xA] at h; exact h)
  refine ⟨⟨fun c A h {H a dx fs} e => ?_, R.cc, fun c A t h ht => (cr h).cb t ht, fun n t T hn h => (cr h).bc n hn⟩, fun f hf => by rw [R.fA]; exact fns_ok R.fns f hf, R.mf, fun x d h => R.kr.look (by rw [R.con] at h; exact h), fun f a h => ?_, fun c A h => (cr h).mg,
    fun c A h {H a dx fs} _ => (cr h).cls, fun c A h {H a dx fs} _ => (cr h).na, R.bt, fun c hc => by rw [R.cA]; exact fns_ok R.clss c hc, ⟨fun c A h => (xr h).mg, fun c hc => by rw [R.xA]; exact fns_ok R.xcs c hc, R.exm, fun c A h => (xr h).fld, fun c A h => ⟨(xr h).isx, (xr h).kv⟩, R.kix⟩⟩
  · have z := cr h
    exact .ins e z.cls z.ha z.hn z.htk z.hm
  · have z := R.fr.look (by rw [R.fA] at h; exact h)
    exact ⟨z.1, z.2.1⟩
theorem LawRows.all (R : LawRows M ini B ft ct xt kt) (P : Program) (base : Heap) : AllDefs M ini B P M.C.wd base := by
  have cr : ∀ {c A}, M.C.cA c = some A → ClsRow M ini B c A := fun {c A} h => R.cr.look (by rw [R.cA] at h; exact h)
  have xr : ∀ {c A}, M.C.xA c = some A → ExcRow M c A := fun {c A} h => R.xr.look (by rw [R.xA] at h; exact h)
  exact {
    wd := rfl
    ex := fun c A h => (xr h).ex P base
    eqs := fun c A h => (cr h).eqs P base
    gl := fun f a h => (R.fr.look (by rw [R.fA] at h; exact h)).2.2
    me := fun c m f A h1 h2 => by
      obtain ⟨hi, a, fd, ps, d, k1, k2⟩ := (cr h2).me m f h1
      exact ⟨hi, a, fd, ps, d, (cr h2).cls, k1, k2⟩
    nw := fun c kc f A h1 h2 h3 => (cr h3).nw kc f h1 h2 }

/-! ### the law -/
def spLawV (K : PySem.W.Frag) : Sp := fun vs H Q _ => ∃ (a : Addr) (ns : List Int), vs = [.ref a] ∧ SqL K H a (ns.map V.int) ∧ ns.length ≤ 63 ∧ ∀ H', Q (.bl true) H'
def g1 : Gs := ⟨1, fun _ => none⟩
theorem ints_rep {C : Ct} {W : Wd} : ∀ ns : List Int, RepL C W (ns.map D.int) (ns.map V.int)
  | [] => .nil
  | n :: ns => .cons rfl (ints_rep ns)
theorem law_fn (R : LawRows M ini B ft ct xt kt) (T : TbOk M B) {P : Program} {base : Heap} {f : Nat} {a : Addr} {fd : FuncData} {ps : List Str} {d : Fn} (h : DefAt M B f a fd ps d) (hi : ini f = none) {n : Nat}
    (pure : ∀ ns : List Int, ns.length ≤ 63 → ∃ g', callN M.Gam ini (n + 1) f [.kst (ns.map D.int)] g1 = .ok (.v (.bl true)) g') :
    FnOk P M.C.wd M.C.K M.C.mg base (L2.CX P M.C.wd) (2 * n + 3) a fd ps (spLawV M.C.K) := by
  refine (def_at R.lawK T (all_defs R.lawK T (R.all P base) n) h hi).imp fun vs H Q E hs => ?_
  obtain ⟨p, ns, rfl, hq, hl, q⟩ := hs
  obtain ⟨g', hg⟩ := pure ns hl
  refine ⟨⟨H, fun _ => none⟩, g1, [.kst (ns.map D.int)], ?_, .cons ?_ .nil, ?_⟩
  · exact ⟨fun b u e => .inl e, (fun n c e => by cases e), (fun n m b e => absurd rfl e), (fun n _ => ⟨rfl, rfl⟩), (fun n b e => by cases e)⟩
  · show Rep M.C _ (.kst (ns.map D.int)) (.ref p)
    rw [Rep.eq_11]
    exact ⟨p, _, rfl, hq, ints_rep ns⟩
  · show VM.Ok M.C _ _ g1 H (callN M.Gam ini (n + 1) f [.kst (ns.map D.int)] g1) E _
    rw [hg]
    intro W' H' _ _ v hv
    have hv : v = .bl true := hv
    rw [hv]
    exact q H'
theorem cx_none {P : Program} {w : World} {H : Hp} {s : Shared} {e : Value} {s' : Shared} (h : L2.CX P w [] H s (fun _ _ _ => False) e s') : False := by
  obtain ⟨_, _, _, _, _, _, _, _, _, _, _, _, z⟩ := h
  exact z
end

/-! ### rows, one behind the other -/
def AllM {α : Type} (P : α → Prop) : List α → Prop
  | [] => True
  | x :: r => P x ∧ AllM P r
theorem AllM.mem {α : Type} {P : α → Prop} : ∀ {l : List α}, AllM P l → ∀ x ∈ l, P x
  | [], _, _, h => by cases h
  | y :: r, q, x, h => by
    rcases List.mem_cons.mp h with h | h
    · rw [h]; exact q.1
    · exact AllM.mem q.2 x h
theorem kr_nil {K : PySem.W.Frag} {w : World} {a : Addr} : KRows K w a [] [] := fun i z u h => by simp at h
theorem kr_cons {K : PySem.W.Frag} {w : World} {a : Addr} {z : Str} {u : V} {ks : List D} {us : List V} (h : KDct K w a z u) (t : KRows K w a ks us) : KRows K w a (.str z :: ks) (u :: us) := fun i y v h1 h2 => by
  cases i with
  | zero =>
    cases h1
    cases h2
    exact h
  | succ i => exact t i y v h1 h2
theorem ktup_rep {C : Ct} {W : Wd} {a : Addr} {od : Option Addr} {its : Array Value} {n : Nat} {sl : Array (Option Value)} {ds : List D} {vs : List V} (h : C.K.lookup a = some ⟨.type "tuple", od, .seq its n, sl⟩) (hz : vs.length ≤ 1000) (v : L2.Vals vs its.toList) (r : RepL C W ds vs) : Rep C W (.tup ds) (.ref a) :=
  tup_rep (.inr ⟨_, its, n, h, rfl, rfl, by
    have := v.length
    have e : its.toList.length = its.size := Array.length_toList
    have : its.size ≤ 1000 := by omega
    exact Nat.le_trans this (by decide), v⟩) r
end VM

set_option maxHeartbeats 0
namespace VL
open PySem L2 VM
def f_is_whole : Fn := ⟨1, 1, (.cons (.ret (.and_ (.isi (.e (.v 0)) [.int]) (.not_ (.e (.isi (.e (.v 0)) [.bool])))))
  .nil)⟩
def f_is_integer : Fn := ⟨3, 3, (.cons (.ret (.and_ (.call 111 (.cons (.v 0) .nil)) (.chn .le .le (.v 1) (.v 0) (.v 2))))
  .nil)⟩
def f_is_name_c1 : VM.E := (.cmp .inn (.e (.v 1)) (.e (.gc 1)))
def f_is_name : Fn := ⟨1, 2, (.cons (.if_ (.or_ (.not_ (.e (.isi (.e (.v 0)) [.str]))) (.not_ (.e (.chn .le .le (.cst (.int 1)) (.len (.e (.v 0))) (.cst (.int 8)))))) (.cons (.ret (.cst (.bl false)))
  .nil) .nil)
  (.cons (.ret (.bi .all (.cons (.e (.fz (.comp f_is_name_c1 (.n 1) (.e (.e (.v 0))) [1] .none))) .nil)))
  .nil))⟩
def f_is_step : Fn := ⟨1, 1, (.cons (.if_ (.or_ (.not_ (.e (.isi (.e (.v 0)) [.tuple]))) (.e (.cmp .eq (.e (.v 0)) (.e (.tup .nil))))) (.cons (.ret (.cst (.bl false)))
  .nil) .nil)
  (.cons (.if_ (.e (.cmp .eq (.e (.idx (.e (.v 0)) (.cst (.int 0)))) (.e (.cst (.str "end"))))) (.cons (.ret (.cmp .eq (.e (.len (.e (.v 0)))) (.e (.cst (.int 1)))))
  .nil) .nil)
  (.cons (.if_ (.or_ (.e (.cmp .lt (.e (.len (.e (.v 0)))) (.e (.cst (.int 2))))) (.not_ (.e (.call 112 (.cons (.idx (.e (.v 0)) (.cst (.int 1))) (.cons (.cst (.int 0)) (.cons (.bin .sub (.e (.gc 13)) (.e (.cst (.int 1)))) .nil))))))) (.cons (.ret (.cst (.bl false)))
  .nil) .nil)
  (.cons (.if_ (.e (.cmp .eq (.e (.idx (.e (.v 0)) (.cst (.int 0)))) (.e (.cst (.str "put"))))) (.cons (.ret (.cmp .eq (.e (.len (.e (.v 0)))) (.e (.cst (.int 2)))))
  .nil) .nil)
  (.cons (.if_ (.e (.cmp .ne (.e (.len (.e (.v 0)))) (.e (.cst (.int 3))))) (.cons (.ret (.cst (.bl false)))
  .nil) .nil)
  (.cons (.if_ (.e (.cmp .eq (.e (.idx (.e (.v 0)) (.cst (.int 0)))) (.e (.cst (.str "wish"))))) (.cons (.ret (.call 112 (.cons (.idx (.e (.v 0)) (.cst (.int 2))) (.cons (.cst (.int 0)) (.cons (.gc 14) .nil)))))
  .nil) .nil)
  (.cons (.ret (.and_ (.cmp .inn (.e (.idx (.e (.v 0)) (.cst (.int 0)))) (.e (.tup (.cons (.cst (.str "answer")) (.cons (.cst (.str "take")) .nil))))) (.call 1 (.cons (.idx (.e (.v 0)) (.cst (.int 2))) .nil))))
  .nil)))))))⟩
def f_run_text_b1 : Ss := (.cons (.if_ (.not_ (.e (.call 123 (.cons (.v 2) .nil)))) (.cons (.raise 5 (.cons (.v 1) .nil))
  .nil) .nil)
  .nil)
def f_run_text_c2 : VM.E := (.bi .str (.cons (.e (.v 3)) .nil))
def f_run_text_c3 : VM.E := (.bm (.e (.cst (.str " "))) .join (.cons (.e (.fz (.comp f_run_text_c2 (.n 3) (.e (.e (.v 2))) [3] .none))) .nil))
def f_run_text : Fn := ⟨1, 4, (.cons (.if_ (.not_ (.e (.isi (.e (.v 0)) [.list]))) (.cons (.raise 5 (.cons (.neg (.cst (.int 1))) .nil))
  .nil) .nil)
  (.cons (.for_ (.t (.cons (.n 1) (.cons (.n 2) .nil))) (.enum (.e (.v 0))) f_run_text_b1)
  (.cons (.ret (.bm (.e (.cst (.str "\n"))) .join (.cons (.e (.fz (.comp f_run_text_c3 (.n 2) (.e (.e (.v 0))) [2] .none))) .nil)))
  .nil)))⟩
def f_read_run_c1 : VM.E := (.bm (.e (.v 1)) .get (.cons (.e (.v 8)) (.cons (.e (.v 8)) .nil)))
def f_read_run_b2 : Ss := (.cons (.set (.n 5) (.fz (.split (.v 4) (.cst (.str " ")))))
  (.cons (.set (.n 6) (.bi .tuple (.cons (.e (.bin .add (.e (.fz (.lst (.cons (.idx (.e (.v 5)) (.cst (.int 0))) .nil)))) (.e (.fz (.comp f_read_run_c1 (.n 8) (.e (.e (.sl (.e (.v 5)) (.some (.cst (.int 1))) .none))) [8] .none))))) .nil)))
  (.cons (.if_ (.not_ (.e (.call 123 (.cons (.v 6) .nil)))) (.cons (.raise 7 (.cons (.v 3) .nil))
  .nil) .nil)
  (.cons (.mut (.m 2) .append (.cons (.v 6) .nil))
  .nil))))
def f_read_run : Fn := ⟨1, 9, (.cons (.if_ (.not_ (.e (.isi (.e (.v 0)) [.str]))) (.cons (.raise 7 (.cons (.neg (.cst (.int 1))) .nil))
  .nil) .nil)
  (.cons (.if_ (.e (.cmp .eq (.e (.v 0)) (.e (.cst (.str ""))))) (.cons (.retf (.lst .nil))
  .nil) .nil)
  (.cons (.set (.n 1) (.fz (.dcomp (.bi .str (.cons (.e (.v 7)) .nil)) (.v 7) (.n 7) (.rng (.bin .add (.e (.gc 14)) (.e (.cst (.int 1))))) [7] .none)))
  (.cons (.setm 2 (.lst .nil))
  (.cons (.for_ (.t (.cons (.n 3) (.cons (.n 4) .nil))) (.enum (.e (.fz (.split (.v 0) (.cst (.str "\n")))))) f_read_run_b2)
  (.cons (.retm 2)
  .nil))))))⟩
def f__law_mix : Fn := ⟨2, 2, (.cons (.set (.n 0) (.bin .mod (.e (.bi .int (.cons (.e (.bin .mul (.e (.bin .add (.e (.bin .add (.e (.bin .add (.e (.v 0)) (.e (.bin .mul (.e (.bin .mul (.e (.cst (.int 7919))) (.e (.v 1)))) (.e (.v 1)))))) (.e (.bin .mul (.e (.cst (.int 104729))) (.e (.v 1)))))) (.e (.cst (.int 1))))) (.e (.cst (.int 48271))))) .nil))) (.e (.cst (.int 2147483647)))))
  (.cons (.set (.n 0) (.bin .mod (.e (.bi .int (.cons (.e (.bin .mul (.e (.v 0)) (.e (.bin .add (.e (.bin .fdiv (.e (.v 0)) (.e (.cst (.int 1009))))) (.e (.cst (.int 69621))))))) .nil))) (.e (.cst (.int 2147483647)))))
  (.cons (.ret (.bin .mod (.e (.bi .int (.cons (.e (.bin .mul (.e (.v 0)) (.e (.bin .add (.e (.bin .fdiv (.e (.v 0)) (.e (.cst (.int 2003))))) (.e (.cst (.int 40692))))))) .nil))) (.e (.cst (.int 2147483399)))))
  .nil)))⟩
def f__law_draws_b1 : Ss := (.cons (.set (.n 2) (.call 555 (.cons (.bin .add (.e (.v 2)) (.e (.bin .mod (.e (.bi .int (.cons (.e (.v 3)) .nil))) (.e (.cst (.int 2147483647)))))) (.cons (.cst (.int 5)) .nil))))
  .nil)
def f__law_draws : Fn := ⟨1, 4, (.cons (.set (.n 1) (.fz (.list (.e (.sl (.e (.v 0)) .none (.some (.cst (.int 63))))))))
  (.cons (.set (.n 2) (.cst (.int 29)))
  (.cons (.for_ (.n 3) (.e (.e (.v 1))) f__law_draws_b1)
  (.cons (.retf (.dlit (.cons (.cst (.str "cells")) (.v 1) (.cons (.cst (.str "at")) (.cst (.int 0)) (.cons (.cst (.str "rest")) (.cst (.int 0)) (.cons (.cst (.str "seed")) (.v 2) (.cons (.cst (.str "count")) (.cst (.int 0)) .nil)))))))
  .nil))))⟩
def f__law_draw : Fn := ⟨2, 4, (.cons (.if_ (.e (.cmp .gt (.e (.idx (.e (.v 0)) (.cst (.str "rest")))) (.e (.cst (.int 0))))) (.cons (.set (.n 2) (.bin .mod (.e (.bi .int (.cons (.e (.idx (.e (.v 0)) (.cst (.str "rest")))) .nil))) (.e (.v 1))))
  (.cons (.seti (.e (.v 0)) (.cst (.str "rest")) (.bin .fdiv (.e (.idx (.e (.v 0)) (.cst (.str "rest")))) (.e (.v 1))))
  (.cons (.ret (.v 2))
  .nil))) .nil)
  (.cons (.if_ (.e (.cmp .lt (.e (.idx (.e (.v 0)) (.cst (.str "at")))) (.e (.len (.e (.idx (.e (.v 0)) (.cst (.str "cells")))))))) (.cons (.set (.n 3) (.idx (.e (.idx (.e (.v 0)) (.cst (.str "cells")))) (.idx (.e (.v 0)) (.cst (.str "at")))))
  (.cons (.seti (.e (.v 0)) (.cst (.str "at")) (.bin .add (.e (.idx (.e (.v 0)) (.cst (.str "at")))) (.e (.cst (.int 1)))))
  (.cons (.if_ (.e (.cmp .ge (.e (.v 3)) (.e (.bin .pow (.e (.cst (.int 10))) (.e (.cst (.int 18))))))) (.cons (.seti (.e (.v 0)) (.cst (.str "rest")) (.bin .fdiv (.e (.v 3)) (.e (.v 1))))
  (.cons (.ret (.bin .mod (.e (.bi .int (.cons (.e (.v 3)) .nil))) (.e (.v 1))))
  .nil)) .nil)
  (.cons (.ret (.bin .mod (.e (.bi .int (.cons (.e (.call 555 (.cons (.bin .mod (.e (.bi .int (.cons (.e (.v 3)) .nil))) (.e (.cst (.int 2147483647)))) (.cons (.idx (.e (.v 0)) (.cst (.str "at"))) .nil)))) .nil))) (.e (.v 1))))
  .nil)))) .nil)
  (.cons (.seti (.e (.v 0)) (.cst (.str "count")) (.bin .add (.e (.idx (.e (.v 0)) (.cst (.str "count")))) (.e (.cst (.int 1)))))
  (.cons (.ret (.bin .mod (.e (.bi .int (.cons (.e (.call 555 (.cons (.idx (.e (.v 0)) (.cst (.str "seed"))) (.cons (.idx (.e (.v 0)) (.cst (.str "count"))) .nil)))) .nil))) (.e (.v 1))))
  .nil))))⟩
def f__law_sign : Fn := ⟨1, 2, (.cons (.set (.n 1) (.cst (.str " !\"#$&'()*+,-./0123456789:;<=>?@ABCDEFGHIJKLMNOPQRSTUVWXYZ[\\]^_`")))
  (.cons (.set (.n 1) (.bin .add (.e (.v 1)) (.e (.cst (.str "abcdefghijklmnopqrstuvwxyz{|}~\n")))))
  (.cons (.ret (.idx (.e (.v 1)) (.call 13 (.cons (.v 0) (.cons (.cst (.int 95)) .nil)))))
  .nil)))⟩
def f__law_name_c1 : VM.E := (.idx (.e (.v 1)) (.call 13 (.cons (.v 0) (.cons (.cst (.int 26)) .nil))))
def f__law_name : Fn := ⟨1, 3, (.cons (.if_ (.e (.cmp .eq (.e (.call 13 (.cons (.v 0) (.cons (.cst (.int 4)) .nil)))) (.e (.cst (.int 0))))) (.cons (.ret (.idx (.e (.fz (.lst (.cons (.cst (.str "end")) (.cons (.cst (.str "put")) (.cons (.cst (.str "wish")) (.cons (.cst (.str "take")) (.cons (.cst (.str "answer")) .nil)))))))) (.call 13 (.cons (.v 0) (.cons (.cst (.int 5)) .nil)))))
  .nil) .nil)
  (.cons (.set (.n 1) (.cst (.str "abcdefghijklmnopqrstuvwxyz")))
  (.cons (.ret (.bm (.e (.cst (.str ""))) .join (.cons (.e (.fz (.comp f__law_name_c1 (.n 2) (.rng (.bin .add (.e (.cst (.int 1))) (.e (.call 13 (.cons (.v 0) (.cons (.cst (.int 8)) .nil)))))) [2] .none))) .nil)))
  .nil)))⟩
def f__law_line : Fn := ⟨1, 3, (.cons (.set (.n 1) (.idx (.e (.fz (.lst (.cons (.cst (.str "wish")) (.cons (.cst (.str "answer")) (.cons (.cst (.str "take")) (.cons (.cst (.str "end")) (.cons (.cst (.str "put")) .nil)))))))) (.call 13 (.cons (.v 0) (.cons (.cst (.int 5)) .nil)))))
  (.cons (.if_ (.e (.cmp .eq (.e (.v 1)) (.e (.cst (.str "end"))))) (.cons (.ret (.v 1))
  .nil) .nil)
  (.cons (.set (.n 2) (.bin .add (.e (.bin .add (.e (.v 1)) (.e (.cst (.str " "))))) (.e (.bi .str (.cons (.e (.call 13 (.cons (.v 0) (.cons (.cst (.int 6)) .nil)))) .nil)))))
  (.cons (.if_ (.e (.cmp .eq (.e (.v 1)) (.e (.cst (.str "put"))))) (.cons (.ret (.v 2))
  .nil) .nil)
  (.cons (.if_ (.e (.cmp .eq (.e (.v 1)) (.e (.cst (.str "wish"))))) (.cons (.ret (.bin .add (.e (.bin .add (.e (.v 2)) (.e (.cst (.str " "))))) (.e (.bi .str (.cons (.e (.call 13 (.cons (.v 0) (.cons (.cst (.int 30)) .nil)))) .nil)))))
  .nil) .nil)
  (.cons (.ret (.bin .add (.e (.bin .add (.e (.v 2)) (.e (.cst (.str " "))))) (.e (.call 16 (.cons (.v 0) .nil)))))
  .nil))))))⟩
def f__law_number : Fn := ⟨1, 2, (.cons (.set (.n 1) (.call 13 (.cons (.v 0) (.cons (.cst (.int 8)) .nil))))
  (.cons (.if_ (.e (.cmp .eq (.e (.v 1)) (.e (.cst (.int 0))))) (.cons (.ret (.bin .add (.e (.cst (.str "0"))) (.e (.bi .str (.cons (.e (.call 13 (.cons (.v 0) (.cons (.cst (.int 30)) .nil)))) .nil)))))
  .nil) .nil)
  (.cons (.if_ (.e (.cmp .eq (.e (.v 1)) (.e (.cst (.int 1))))) (.cons (.ret (.bin .add (.e (.cst (.str "+"))) (.e (.bi .str (.cons (.e (.call 13 (.cons (.v 0) (.cons (.cst (.int 6)) .nil)))) .nil)))))
  .nil) .nil)
  (.cons (.if_ (.e (.cmp .eq (.e (.v 1)) (.e (.cst (.int 2))))) (.cons (.ret (.bin .add (.e (.cst (.str "-"))) (.e (.bi .str (.cons (.e (.call 13 (.cons (.v 0) (.cons (.cst (.int 6)) .nil)))) .nil)))))
  .nil) .nil)
  (.cons (.if_ (.e (.cmp .eq (.e (.v 1)) (.e (.cst (.int 3))))) (.cons (.ret (.bi .str (.cons (.e (.call 13 (.cons (.v 0) (.cons (.cst (.int 40)) .nil)))) .nil)))
  .nil) .nil)
  (.cons (.if_ (.e (.cmp .eq (.e (.v 1)) (.e (.cst (.int 4))))) (.cons (.ret (.bin .mul (.e (.idx (.e (.cst (.str "123456789"))) (.call 13 (.cons (.v 0) (.cons (.cst (.int 9)) .nil))))) (.e (.bin .add (.e (.cst (.int 1))) (.e (.call 13 (.cons (.v 0) (.cons (.cst (.int 5000)) .nil))))))))
  .nil) .nil)
  (.cons (.if_ (.e (.cmp .eq (.e (.v 1)) (.e (.cst (.int 5))))) (.cons (.ret (.cst (.str "")))
  .nil) .nil)
  (.cons (.if_ (.e (.cmp .eq (.e (.v 1)) (.e (.cst (.int 6))))) (.cons (.ret (.cst (.str "1_2")))
  .nil) .nil)
  (.cons (.ret (.bin .add (.e (.bi .str (.cons (.e (.call 13 (.cons (.v 0) (.cons (.cst (.int 10)) .nil)))) .nil))) (.e (.cst (.str ".")))))
  .nil)))))))))⟩
def f__law_changed : Fn := ⟨2, 4, (.cons (.set (.n 2) (.call 13 (.cons (.v 0) (.cons (.cst (.int 12)) .nil))))
  (.cons (.set (.n 3) (.call 13 (.cons (.v 0) (.cons (.bin .add (.e (.len (.e (.v 1)))) (.e (.cst (.int 1)))) .nil))))
  (.cons (.if_ (.e (.cmp .eq (.e (.v 2)) (.e (.cst (.int 0))))) (.cons (.ret (.bin .add (.e (.bin .add (.e (.sl (.e (.v 1)) .none (.some (.v 3)))) (.e (.call 563 (.cons (.v 0) .nil))))) (.e (.sl (.e (.v 1)) (.some (.v 3)) .none))))
  .nil) .nil)
  (.cons (.if_ (.e (.cmp .eq (.e (.v 2)) (.e (.cst (.int 1))))) (.cons (.ret (.bin .add (.e (.sl (.e (.v 1)) .none (.some (.v 3)))) (.e (.sl (.e (.v 1)) (.some (.bin .add (.e (.v 3)) (.e (.cst (.int 1))))) .none))))
  .nil) .nil)
  (.cons (.if_ (.e (.cmp .eq (.e (.v 2)) (.e (.cst (.int 2))))) (.cons (.ret (.bin .add (.e (.bin .add (.e (.sl (.e (.v 1)) .none (.some (.v 3)))) (.e (.call 563 (.cons (.v 0) .nil))))) (.e (.sl (.e (.v 1)) (.some (.bin .add (.e (.v 3)) (.e (.cst (.int 1))))) .none))))
  .nil) .nil)
  (.cons (.if_ (.e (.cmp .eq (.e (.v 2)) (.e (.cst (.int 3))))) (.cons (.ret (.bin .add (.e (.bin .add (.e (.sl (.e (.v 1)) .none (.some (.v 3)))) (.e (.cst (.str " "))))) (.e (.sl (.e (.v 1)) (.some (.v 3)) .none))))
  .nil) .nil)
  (.cons (.if_ (.e (.cmp .eq (.e (.v 2)) (.e (.cst (.int 4))))) (.cons (.ret (.bin .add (.e (.cst (.str "put "))) (.e (.call 564 (.cons (.v 0) .nil)))))
  .nil) .nil)
  (.cons (.if_ (.e (.cmp .eq (.e (.v 2)) (.e (.cst (.int 5))))) (.cons (.ret (.bin .add (.e (.bin .add (.e (.bin .add (.e (.cst (.str "wish "))) (.e (.bi .str (.cons (.e (.call 13 (.cons (.v 0) (.cons (.cst (.int 6)) .nil)))) .nil))))) (.e (.cst (.str " "))))) (.e (.call 564 (.cons (.v 0) .nil)))))
  .nil) .nil)
  (.cons (.if_ (.e (.cmp .eq (.e (.v 2)) (.e (.cst (.int 6))))) (.cons (.ret (.bin .add (.e (.bin .add (.e (.bin .add (.e (.cst (.str "take "))) (.e (.call 564 (.cons (.v 0) .nil))))) (.e (.cst (.str " "))))) (.e (.call 16 (.cons (.v 0) .nil)))))
  .nil) .nil)
  (.cons (.if_ (.e (.cmp .eq (.e (.v 2)) (.e (.cst (.int 7))))) (.cons (.ret (.bm (.e (.v 1)) .upper .nil))
  .nil) .nil)
  (.cons (.if_ (.e (.cmp .eq (.e (.v 2)) (.e (.cst (.int 8))))) (.cons (.ret (.bin .add (.e (.bin .add (.e (.v 1)) (.e (.cst (.str " "))))) (.e (.idx (.e (.fz (.lst (.cons (.cst (.str "0")) (.cons (.cst (.str "a")) (.cons (.cst (.str "end")) (.cons (.cst (.str "")) .nil))))))) (.call 13 (.cons (.v 0) (.cons (.cst (.int 4)) .nil)))))))
  .nil) .nil)
  (.cons (.if_ (.e (.cmp .eq (.e (.v 2)) (.e (.cst (.int 9))))) (.cons (.ret (.sl (.e (.v 1)) .none (.some (.bin .add (.e (.bm (.e (.v 1)) .rfind (.cons (.e (.cst (.str " "))) .nil))) (.e (.cst (.int 1)))))))
  .nil) .nil)
  (.cons (.if_ (.e (.cmp .eq (.e (.v 2)) (.e (.cst (.int 10))))) (.cons (.ret (.bin .add (.e (.bin .add (.e (.bin .add (.e (.cst (.str "answer "))) (.e (.bi .str (.cons (.e (.call 13 (.cons (.v 0) (.cons (.cst (.int 6)) .nil)))) .nil))))) (.e (.cst (.str " "))))) (.e (.idx (.e (.fz (.lst (.cons (.cst (.str "abcdefghi")) (.cons (.cst (.str "aB")) (.cons (.cst (.str "a1")) (.cons (.cst (.str "")) (.cons (.cst (.str "1")) .nil)))))))) (.call 13 (.cons (.v 0) (.cons (.cst (.int 5)) .nil)))))))
  .nil) .nil)
  (.cons (.ret (.idx (.e (.fz (.lst (.cons (.cst (.str "")) (.cons (.cst (.str " ")) (.cons (.cst (.str "  ")) (.cons (.cst (.str "ends")) (.cons (.cst (.str "put")) (.cons (.cst (.str "stop")) (.cons (.cst (.str "wish 0")) .nil)))))))))) (.call 13 (.cons (.v 0) (.cons (.cst (.int 7)) .nil)))))
  .nil))))))))))))))⟩
def f__law_place_b1 : Ss := (.cons (.if_ (.e (.cmp .nin (.e (.v 3)) (.e (.cst (.str "0123456789"))))) (.cons (.ret (.neg (.cst (.int 1))))
  .nil) .nil)
  (.cons (.set (.n 2) (.bin .sub (.e (.bin .add (.e (.bin .mul (.e (.v 2)) (.e (.cst (.int 10))))) (.e (.bi .ord (.cons (.e (.v 3)) .nil))))) (.e (.cst (.int 48)))))
  .nil))
def f__law_place : Fn := ⟨2, 4, (.cons (.if_ (.or_ (.e (.cmp .eq (.e (.v 0)) (.e (.cst (.str ""))))) (.or_ (.e (.cmp .gt (.e (.len (.e (.v 0)))) (.e (.cst (.int 2))))) (.and_ (.e (.cmp .eq (.e (.idx (.e (.v 0)) (.cst (.int 0)))) (.e (.cst (.str "0"))))) (.e (.cmp .gt (.e (.len (.e (.v 0)))) (.e (.cst (.int 1)))))))) (.cons (.ret (.neg (.cst (.int 1))))
  .nil) .nil)
  (.cons (.set (.n 2) (.cst (.int 0)))
  (.cons (.for_ (.n 3) (.e (.e (.v 0))) f__law_place_b1)
  (.cons (.if_ (.e (.cmp .ge (.e (.v 2)) (.e (.v 1)))) (.cons (.ret (.neg (.cst (.int 1))))
  .nil) .nil)
  (.cons (.ret (.v 2))
  .nil)))))⟩
def f__law_is_name_b1 : Ss := (.cons (.if_ (.e (.cmp .nin (.e (.v 1)) (.e (.cst (.str "abcdefghijklmnopqrstuvwxyz"))))) (.cons (.ret (.cst (.bl false)))
  .nil) .nil)
  .nil)
def f__law_is_name : Fn := ⟨1, 2, (.cons (.if_ (.or_ (.e (.cmp .lt (.e (.len (.e (.v 0)))) (.e (.cst (.int 1))))) (.e (.cmp .gt (.e (.len (.e (.v 0)))) (.e (.cst (.int 8)))))) (.cons (.ret (.cst (.bl false)))
  .nil) .nil)
  (.cons (.for_ (.n 1) (.e (.e (.v 0))) f__law_is_name_b1)
  (.cons (.ret (.cst (.bl true)))
  .nil)))⟩
def f__law_read : Fn := ⟨1, 3, (.cons (.set (.n 1) (.fz (.split (.v 0) (.cst (.str " ")))))
  (.cons (.if_ (.and_ (.e (.cmp .eq (.e (.idx (.e (.v 1)) (.cst (.int 0)))) (.e (.cst (.str "end"))))) (.e (.cmp .eq (.e (.len (.e (.v 1)))) (.e (.cst (.int 1)))))) (.cons (.ret (.tup (.cons (.cst (.str "end")) .nil)))
  .nil) .nil)
  (.cons (.if_ (.or_ (.e (.cmp .lt (.e (.len (.e (.v 1)))) (.e (.cst (.int 2))))) (.e (.cmp .lt (.e (.call 565 (.cons (.idx (.e (.v 1)) (.cst (.int 1))) (.cons (.cst (.int 6)) .nil)))) (.e (.cst (.int 0)))))) (.cons (.ret (.cst .non))
  .nil) .nil)
  (.cons (.set (.n 2) (.call 565 (.cons (.idx (.e (.v 1)) (.cst (.int 1))) (.cons (.cst (.int 6)) .nil))))
  (.cons (.if_ (.and_ (.e (.cmp .eq (.e (.idx (.e (.v 1)) (.cst (.int 0)))) (.e (.cst (.str "put"))))) (.e (.cmp .eq (.e (.len (.e (.v 1)))) (.e (.cst (.int 2)))))) (.cons (.ret (.tup (.cons (.cst (.str "put")) (.cons (.v 2) .nil))))
  .nil) .nil)
  (.cons (.if_ (.e (.cmp .ne (.e (.len (.e (.v 1)))) (.e (.cst (.int 3))))) (.cons (.ret (.cst .non))
  .nil) .nil)
  (.cons (.if_ (.and_ (.e (.cmp .eq (.e (.idx (.e (.v 1)) (.cst (.int 0)))) (.e (.cst (.str "wish"))))) (.e (.cmp .ge (.e (.call 565 (.cons (.idx (.e (.v 1)) (.cst (.int 2))) (.cons (.cst (.int 30)) .nil)))) (.e (.cst (.int 0)))))) (.cons (.ret (.tup (.cons (.cst (.str "wish")) (.cons (.v 2) (.cons (.call 565 (.cons (.idx (.e (.v 1)) (.cst (.int 2))) (.cons (.cst (.int 30)) .nil))) .nil)))))
  .nil) .nil)
  (.cons (.if_ (.and_ (.e (.cmp .inn (.e (.idx (.e (.v 1)) (.cst (.int 0)))) (.e (.fz (.lst (.cons (.cst (.str "answer")) (.cons (.cst (.str "take")) .nil))))))) (.e (.call 31 (.cons (.idx (.e (.v 1)) (.cst (.int 2))) .nil)))) (.cons (.ret (.tup (.cons (.idx (.e (.v 1)) (.cst (.int 0))) (.cons (.v 2) (.cons (.idx (.e (.v 1)) (.cst (.int 2))) .nil)))))
  .nil) .nil)
  (.cons (.ret (.cst .non))
  .nil)))))))))⟩
def f__law_due_b1 : Ss := (.cons (.set (.n 4) (.call 106 (.cons (.idx (.e (.v 2)) (.v 3)) .nil)))
  (.cons (.if_ (.e (.cmp .is_ (.e (.v 4)) (.e (.cst .non)))) (.cons (.ret (.tup (.cons (.cst (.str "refused")) (.cons (.v 3) .nil))))
  .nil) .nil)
  (.cons (.mut (.m 1) .append (.cons (.v 4) .nil))
  .nil)))
def f__law_due : Fn := ⟨1, 5, (.cons (.if_ (.e (.cmp .eq (.e (.v 0)) (.e (.cst (.str ""))))) (.cons (.ret (.tup (.cons (.cst (.str "told")) (.cons (.fz (.lst .nil)) .nil))))
  .nil) .nil)
  (.cons (.setm 1 (.lst .nil))
  (.cons (.set (.n 2) (.fz (.split (.v 0) (.cst (.str "\n")))))
  (.cons (.for_ (.n 3) (.rng (.len (.e (.v 2)))) f__law_due_b1)
  (.cons (.frz 1)
  (.cons (.ret (.tup (.cons (.cst (.str "told")) (.cons (.v 1) .nil))))
  .nil))))))⟩
def f__law_is_plain_b1 : Ss := (.cons (.if_ (.or_ (.e (.isi (.e (.v 2)) [.bool])) (.not_ (.e (.isi (.e (.v 2)) [.int, .str])))) (.cons (.ret (.cst (.bl false)))
  .nil) .nil)
  .nil)
def f__law_is_plain_b2 : Ss := (.cons (.if_ (.not_ (.e (.isi (.e (.v 1)) [.tuple]))) (.cons (.ret (.cst (.bl false)))
  .nil) .nil)
  (.cons (.for_ (.n 2) (.e (.e (.v 1))) f__law_is_plain_b1)
  .nil))
def f__law_is_plain : Fn := ⟨1, 3, (.cons (.if_ (.not_ (.e (.isi (.e (.v 0)) [.list]))) (.cons (.ret (.cst (.bl false)))
  .nil) .nil)
  (.cons (.for_ (.n 1) (.e (.e (.v 0))) f__law_is_plain_b2)
  (.cons (.ret (.cst (.bl true)))
  .nil)))⟩
def f__law_asked : Fn := ⟨1, 3, (.cons (.try_ (.cons (.set (.n 1) (.call 561 (.cons (.v 0) .nil)))
  .nil) (.told 7 2 3 5 14 .nil))
  (.cons (.if_ (.not_ (.e (.call 566 (.cons (.v 1) .nil)))) (.cons (.ret (.tup (.cons (.cst (.str "other")) (.cons (.cst (.int 2)) .nil))))
  .nil) .nil)
  (.cons (.ret (.tup (.cons (.cst (.str "told")) (.cons (.v 1) .nil))))
  .nil)))⟩
def f_law_c1 : VM.E := (.call 559 (.cons (.v 1) .nil))
def f_law_b2 : Ss := (.cons (.if_ (.e (.cmp .gt (.e (.v 2)) (.e (.cst (.int 0))))) (.cons (.set (.n 7) (.call 13 (.cons (.v 1) (.cons (.v 2) .nil))))
  (.cons (.set (.n 8) (.call 73 (.cons (.v 1) (.cons (.idx (.m 4) (.v 7)) .nil))))
  (.cons (.if_ (.or_ (.e (.cmp .lt (.e (.len (.e (.v 8)))) (.e (.cst (.int 40))))) (.not_ (.e (.v 5)))) (.cons (.seti (.m 4) (.v 7) (.v 8))
  (.cons (.set (.n 5) (.or_ (.v 5) (.cmp .ge (.e (.len (.e (.v 8)))) (.e (.cst (.int 40))))))
  .nil)) .nil)
  .nil))) .nil)
  .nil)
def f_law : Fn := ⟨1, 13, (.cons (.set (.n 1) (.ng (.call 560 (.cons (.v 0) .nil))))
  (.cons (.set (.n 2) (.call 13 (.cons (.v 1) (.cons (.cst (.int 10)) .nil))))
  (.cons (.if_ (.e (.cmp .eq (.e (.call 13 (.cons (.v 1) (.cons (.cst (.int 8)) .nil)))) (.e (.cst (.int 0))))) (.cons (.set (.n 2) (.call 13 (.cons (.v 1) (.cons (.cst (.int 201)) .nil))))
  .nil) .nil)
  (.cons (.set (.n 3) (.call 13 (.cons (.v 1) (.cons (.cst (.int 4)) .nil))))
  (.cons (.setm 4 (.comp f_law_c1 (.n 6) (.rng (.v 2)) [6] .none))
  (.cons (.set (.n 5) (.cst (.bl false)))
  (.cons (.for_ (.n 6) (.rng (.v 3)) f_law_b2)
  (.cons (.set (.n 9) (.bm (.e (.cst (.str "\n"))) .join (.cons (.m 4) .nil)))
  (.cons (.if_ (.e (.cmp .eq (.e (.call 13 (.cons (.v 1) (.cons (.cst (.int 8)) .nil)))) (.e (.cst (.int 0))))) (.cons (.set (.n 9) (.bin .add (.e (.v 9)) (.e (.cst (.str "\n")))))
  .nil) .nil)
  (.cons (.set (.n 10) (.call 42 (.cons (.v 9) .nil)))
  (.cons (.set (.n 11) (.call 339 (.cons (.v 9) .nil)))
  (.cons (.if_ (.e (.cmp .ne (.e (.v 11)) (.e (.v 10)))) (.cons (.ret (.cst (.bl false)))
  .nil) .nil)
  (.cons (.if_ (.and_ (.e (.cmp .eq (.e (.idx (.e (.v 10)) (.cst (.int 0)))) (.e (.cst (.str "told"))))) (.e (.cmp .ne (.e (.call 558 (.cons (.fz (.list (.e (.idx (.e (.v 10)) (.cst (.int 1)))))) .nil))) (.e (.v 9))))) (.cons (.ret (.cst (.bl false)))
  .nil) .nil)
  (.cons (.if_ (.e (.cmp .eq (.e (.call 13 (.cons (.v 1) (.cons (.cst (.int 8)) .nil)))) (.e (.cst (.int 0))))) (.cons (.frz 4)
  (.cons (.set (.n 12) (.idx (.e (.fz (.lst (.cons (.cst .non) (.cons (.cst (.int 0)) (.cons (.cst (.bl true)) (.cons (.v 4) (.cons (.tup (.cons (.cst (.str "end")) .nil)) (.cons (.fz (.dlit (.cons (.cst (.str "end")) (.cst (.int 0)) .nil))) (.cons (.neg (.cst (.int 1))) .nil)))))))))) (.call 13 (.cons (.v 1) (.cons (.cst (.int 7)) .nil)))))
  (.cons (.if_ (.e (.cmp .ne (.e (.call 339 (.cons (.v 12) .nil))) (.e (.tup (.cons (.cst (.str "refused")) (.cons (.neg (.cst (.int 1))) .nil)))))) (.cons (.ret (.cst (.bl false)))
  .nil) .nil)
  .nil))) .nil)
  (.cons (.ret (.cmp .eq (.e (.call 339 (.cons (.v 9) .nil))) (.e (.v 10))))
  .nil)))))))))))))))⟩
def fnTab : List (Nat × Fn) := [(111, f_is_whole), (112, f_is_integer), (1, f_is_name), (123, f_is_step), (558, f_run_text), (561, f_read_run), (555, f__law_mix), (560, f__law_draws), (13, f__law_draw), (563, f__law_sign), (16, f__law_name), (559, f__law_line), (564, f__law_number), (73, f__law_changed), (565, f__law_place), (31, f__law_is_name), (106, f__law_read), (42, f__law_due), (566, f__law_is_plain), (339, f__law_asked), (64, f_law)]
def conTab : List (Nat × D) := [(1, (.str "abcdefghijklmnopqrstuvwxyz")), (13, (.int 6)), (14, (.int 29))]
def clsTab : List (Nat × Cls) := [(3, ⟨.exc, [], [4], none, []⟩), (5, ⟨.exc, [11], [3, 4], none, []⟩), (7, ⟨.exc, [14], [3, 4], none, []⟩)]
def iniTab : List (Nat × Nat) := []
def Gam : Prog := ⟨fun n => fnTab.lookup n, fun n => conTab.lookup n, fun n => clsTab.lookup n⟩
def ini (n : Nat) : Option Nat := iniTab.lookup n
def fnNm : List (Nat × Str) := [(1, ("is_name" : Str)), (13, ("_law_draw" : Str)), (16, ("_law_name" : Str)), (31, ("_law_is_name" : Str)), (42, ("_law_due" : Str)), (64, ("law" : Str)), (73, ("_law_changed" : Str)), (106, ("_law_read" : Str)), (111, ("is_whole" : Str)), (112, ("is_integer" : Str)), (123, ("is_step" : Str)), (339, ("_law_asked" : Str)), (555, ("_law_mix" : Str)), (558, ("run_text" : Str)), (559, ("_law_line" : Str)), (560, ("_law_draws" : Str)), (561, ("read_run" : Str)), (563, ("_law_sign" : Str)), (564, ("_law_number" : Str)), (565, ("_law_place" : Str)), (566, ("_law_is_plain" : Str))]
def conNm : List (Nat × Str) := [(1, ("LETTERS" : Str)), (13, ("MOST_CACHES" : Str)), (14, ("MOST_INDEX" : Str))]
def clsNm : List (Nat × Str) := [(3, ("CopyError" : Str)), (5, ("NoRun" : Str)), (7, ("NoText" : Str))]
def mthNm : List (Nat × Str) := []
def fldNm : List (Nat × Str) := [(11, ("index" : Str)), (14, ("line" : Str))]
def fnIds : List Nat := [111, 112, 1, 123, 558, 561, 555, 560, 13, 563, 16, 559, 564, 73, 565, 31, 106, 42, 566, 339, 64]
def clsIds : List Nat := []
def excIds : List Nat := [3, 5, 7]
def mthIds : List Nat := []
def fldIds : List Nat := []
abbrev nmL : Nm := ⟨nameOf fnNm, nameOf conNm, nameOf clsNm, nameOf mthNm⟩
def B0 : Tb := ⟨nmL, nameOf fldNm, fldIds, clsIds, fnIds, mthIds, excIds, Gam⟩
abbrev top (i : Nat) : Stmt := PySem.Challenge.pw_copybooks_k82_read_run.main.body.getD i (.Pass ⟨0, 0, 0, 0⟩)
abbrev s_NoRun___init__ : Stmt := inClass (top 2) 0
theorem sc_NoRun___init__ : FnScope ["self", "index"] ["self", "index"] (defScope s_NoRun___init__) := ⟨rfl, rfl, rfl, by decide +kernel, rfl, by decide +kernel, by decide +kernel⟩
abbrev s_NoText___init__ : Stmt := inClass (top 3) 0
theorem sc_NoText___init__ : FnScope ["self", "line"] ["self", "line"] (defScope s_NoText___init__) := ⟨rfl, rfl, rfl, by decide +kernel, rfl, by decide +kernel, by decide +kernel⟩
abbrev s_is_whole : Stmt := top 8
theorem sc_is_whole : FnScope ["value"] ["value"] (defScope s_is_whole) := ⟨rfl, rfl, rfl, by decide +kernel, rfl, by decide +kernel, by decide +kernel⟩
theorem ck_is_whole : okSs B0 ⟨true, true, ["value"], defScope s_is_whole⟩ f_is_whole.body (defBody s_is_whole) = true := by decide +kernel
abbrev s_is_integer : Stmt := top 9
theorem sc_is_integer : FnScope ["value", "least", "greatest"] ["value", "least", "greatest"] (defScope s_is_integer) := ⟨rfl, rfl, rfl, by decide +kernel, rfl, by decide +kernel, by decide +kernel⟩
theorem ck_is_integer : okSs B0 ⟨true, true, ["value", "least", "greatest"], defScope s_is_integer⟩ f_is_integer.body (defBody s_is_integer) = true := by decide +kernel
abbrev s_is_name : Stmt := top 10
theorem sc_is_name : FnScope ["value", "letter"] ["value"] (defScope s_is_name) := ⟨rfl, rfl, rfl, by decide +kernel, rfl, by decide +kernel, by decide +kernel⟩
theorem ck_is_name : okSs B0 ⟨true, true, ["value", "letter"], defScope s_is_name⟩ f_is_name.body (defBody s_is_name) = true := by decide +kernel
abbrev s_is_step : Stmt := top 11
theorem sc_is_step : FnScope ["value"] ["value"] (defScope s_is_step) := ⟨rfl, rfl, rfl, by decide +kernel, rfl, by decide +kernel, by decide +kernel⟩
theorem ck_is_step : okSs B0 ⟨true, true, ["value"], defScope s_is_step⟩ f_is_step.body (defBody s_is_step) = true := by decide +kernel
abbrev s_run_text : Stmt := top 13
theorem sc_run_text : FnScope ["run", "index", "step", "part"] ["run"] (defScope s_run_text) := ⟨rfl, rfl, rfl, by decide +kernel, rfl, by decide +kernel, by decide +kernel⟩
theorem ck_run_text : okSs B0 ⟨true, true, ["run", "index", "step", "part"], defScope s_run_text⟩ f_run_text.body (defBody s_run_text) = true := by decide +kernel
abbrev s_read_run : Stmt := top 14
theorem sc_read_run : FnScope ["text", "numbers", "run", "index", "line", "words", "step", "number", "word"] ["text"] (defScope s_read_run) := ⟨rfl, rfl, rfl, by decide +kernel, rfl, by decide +kernel, by decide +kernel⟩
theorem ck_read_run : okSs B0 ⟨true, true, ["text", "numbers", "run", "index", "line", "words", "step", "number", "word"], defScope s_read_run⟩ f_read_run.body (defBody s_read_run) = true := by decide +kernel
abbrev s__law_mix : Stmt := top 16
theorem sc__law_mix : FnScope ["_law_number_here", "_law_k"] ["_law_number_here", "_law_k"] (defScope s__law_mix) := ⟨rfl, rfl, rfl, by decide +kernel, rfl, by decide +kernel, by decide +kernel⟩
theorem ck__law_mix : okSs B0 ⟨true, true, ["_law_number_here", "_law_k"], defScope s__law_mix⟩ f__law_mix.body (defBody s__law_mix) = true := by decide +kernel
abbrev s__law_draws : Stmt := top 17
theorem sc__law_draws : FnScope ["_law_script", "_law_cells", "_law_seed", "_law_cell"] ["_law_script"] (defScope s__law_draws) := ⟨rfl, rfl, rfl, by decide +kernel, rfl, by decide +kernel, by decide +kernel⟩
theorem ck__law_draws : okSs B0 ⟨true, true, ["_law_script", "_law_cells", "_law_seed", "_law_cell"], defScope s__law_draws⟩ f__law_draws.body (defBody s__law_draws) = true := by decide +kernel
abbrev s__law_draw : Stmt := top 18
theorem sc__law_draw : FnScope ["_law_draws_here", "_law_many", "_law_digit", "_law_cell"] ["_law_draws_here", "_law_many"] (defScope s__law_draw) := ⟨rfl, rfl, rfl, by decide +kernel, rfl, by decide +kernel, by decide +kernel⟩
theorem ck__law_draw : okSs B0 ⟨true, true, ["_law_draws_here", "_law_many", "_law_digit", "_law_cell"], defScope s__law_draw⟩ f__law_draw.body (defBody s__law_draw) = true := by decide +kernel
abbrev s__law_sign : Stmt := top 19
theorem sc__law_sign : FnScope ["_law_draws_here", "_law_signs"] ["_law_draws_here"] (defScope s__law_sign) := ⟨rfl, rfl, rfl, by decide +kernel, rfl, by decide +kernel, by decide +kernel⟩
theorem ck__law_sign : okSs B0 ⟨true, true, ["_law_draws_here", "_law_signs"], defScope s__law_sign⟩ f__law_sign.body (defBody s__law_sign) = true := by decide +kernel
abbrev s__law_name : Stmt := top 20
theorem sc__law_name : FnScope ["_law_draws_here", "_law_letters", "_law_k"] ["_law_draws_here"] (defScope s__law_name) := ⟨rfl, rfl, rfl, by decide +kernel, rfl, by decide +kernel, by decide +kernel⟩
theorem ck__law_name : okSs B0 ⟨true, true, ["_law_draws_here", "_law_letters", "_law_k"], defScope s__law_name⟩ f__law_name.body (defBody s__law_name) = true := by decide +kernel
abbrev s__law_line : Stmt := top 21
theorem sc__law_line : FnScope ["_law_draws_here", "_law_word", "_law_line_here"] ["_law_draws_here"] (defScope s__law_line) := ⟨rfl, rfl, rfl, by decide +kernel, rfl, by decide +kernel, by decide +kernel⟩
theorem ck__law_line : okSs B0 ⟨true, true, ["_law_draws_here", "_law_word", "_law_line_here"], defScope s__law_line⟩ f__law_line.body (defBody s__law_line) = true := by decide +kernel
abbrev s__law_number : Stmt := top 22
theorem sc__law_number : FnScope ["_law_draws_here", "_law_way"] ["_law_draws_here"] (defScope s__law_number) := ⟨rfl, rfl, rfl, by decide +kernel, rfl, by decide +kernel, by decide +kernel⟩
theorem ck__law_number : okSs B0 ⟨true, true, ["_law_draws_here", "_law_way"], defScope s__law_number⟩ f__law_number.body (defBody s__law_number) = true := by decide +kernel
abbrev s__law_changed : Stmt := top 23
theorem sc__law_changed : FnScope ["_law_draws_here", "_law_line_here", "_law_way", "_law_at"] ["_law_draws_here", "_law_line_here"] (defScope s__law_changed) := ⟨rfl, rfl, rfl, by decide +kernel, rfl, by decide +kernel, by decide +kernel⟩
theorem ck__law_changed : okSs B0 ⟨true, true, ["_law_draws_here", "_law_line_here", "_law_way", "_law_at"], defScope s__law_changed⟩ f__law_changed.body (defBody s__law_changed) = true := by decide +kernel
abbrev s__law_place : Stmt := top 24
theorem sc__law_place : FnScope ["_law_word", "_law_limit", "_law_value", "_law_sign_here"] ["_law_word", "_law_limit"] (defScope s__law_place) := ⟨rfl, rfl, rfl, by decide +kernel, rfl, by decide +kernel, by decide +kernel⟩
theorem ck__law_place : okSs B0 ⟨true, true, ["_law_word", "_law_limit", "_law_value", "_law_sign_here"], defScope s__law_place⟩ f__law_place.body (defBody s__law_place) = true := by decide +kernel
abbrev s__law_is_name : Stmt := top 25
theorem sc__law_is_name : FnScope ["_law_word", "_law_sign_here"] ["_law_word"] (defScope s__law_is_name) := ⟨rfl, rfl, rfl, by decide +kernel, rfl, by decide +kernel, by decide +kernel⟩
theorem ck__law_is_name : okSs B0 ⟨true, true, ["_law_word", "_law_sign_here"], defScope s__law_is_name⟩ f__law_is_name.body (defBody s__law_is_name) = true := by decide +kernel
abbrev s__law_read : Stmt := top 26
theorem sc__law_read : FnScope ["_law_line_here", "_law_words", "_law_i"] ["_law_line_here"] (defScope s__law_read) := ⟨rfl, rfl, rfl, by decide +kernel, rfl, by decide +kernel, by decide +kernel⟩
theorem ck__law_read : okSs B0 ⟨true, true, ["_law_line_here", "_law_words", "_law_i"], defScope s__law_read⟩ f__law_read.body (defBody s__law_read) = true := by decide +kernel
abbrev s__law_due : Stmt := top 27
theorem sc__law_due : FnScope ["_law_text", "_law_run", "_law_lines", "_law_k", "_law_step"] ["_law_text"] (defScope s__law_due) := ⟨rfl, rfl, rfl, by decide +kernel, rfl, by decide +kernel, by decide +kernel⟩
theorem ck__law_due : okSs B0 ⟨true, true, ["_law_text", "_law_run", "_law_lines", "_law_k", "_law_step"], defScope s__law_due⟩ f__law_due.body (defBody s__law_due) = true := by decide +kernel
abbrev s__law_is_plain : Stmt := top 28
theorem sc__law_is_plain : FnScope ["_law_told", "_law_step", "_law_part"] ["_law_told"] (defScope s__law_is_plain) := ⟨rfl, rfl, rfl, by decide +kernel, rfl, by decide +kernel, by decide +kernel⟩
theorem ck__law_is_plain : okSs B0 ⟨true, true, ["_law_told", "_law_step", "_law_part"], defScope s__law_is_plain⟩ f__law_is_plain.body (defBody s__law_is_plain) = true := by decide +kernel
abbrev s__law_asked : Stmt := top 29
theorem sc__law_asked : FnScope ["_law_thing", "_law_run", "e"] ["_law_thing"] (defScope s__law_asked) := ⟨rfl, rfl, rfl, by decide +kernel, rfl, by decide +kernel, by decide +kernel⟩
theorem ck__law_asked : okSs B0 ⟨true, true, ["_law_thing", "_law_run", "e"], defScope s__law_asked⟩ f__law_asked.body (defBody s__law_asked) = true := by decide +kernel
abbrev s_law : Stmt := top 30
theorem sc_law : FnScope ["_law_script", "_law_draws_here", "_law_size", "_law_changes", "_law_lines", "_law_long", "_law_k", "_law_at", "_law_changed_here", "_law_text", "_law_due_here", "_law_asked_here", "_law_none"] ["_law_script"] (defScope s_law) := ⟨rfl, rfl, rfl, by decide +kernel, rfl, by decide +kernel, by decide +kernel⟩
theorem ck_law : okSs B0 ⟨true, true, ["_law_script", "_law_draws_here", "_law_size", "_law_changes", "_law_lines", "_law_long", "_law_k", "_law_at", "_law_changed_here", "_law_text", "_law_due_here", "_law_asked_here", "_law_none"], defScope s_law⟩ f_law.body (defBody s_law) = true := by decide +kernel
end VL

set_option maxHeartbeats 0
namespace VL
open PySem L2 VM
abbrev MK (K : PySem.W.Frag) (w : World) (mg : Str → Option Value) (ft ct xt : List (Nat × Addr)) : Cf := ⟨⟨K, w, mg, fun n => ct.lookup n, fun n => xt.lookup n, fun n => ft.lookup n, nameOf fldNm, nameOf_inj (by decide +kernel)⟩, Gam, nmL, fldIds, clsIds, fnIds, mthIds, excIds, fun _ _ _ => .no⟩
section
variable {P : Program} {w : World} {K : PySem.W.Frag} {mg : Str → Option Value} {base : Heap}
theorem ok_exc_NoRun {C f : Addr} {fd : FuncData} (F : Fun K "__init__" "NoRun.__init__" s_NoRun___init__ f fd) : FnOk P w K mg base CX0 1 f fd ["self", "index"] (spX1 K C "index") := by
  refine F.ok sc_NoRun___init__ (fun vs H Q E h => ?_) (fun cdv A outer s H vs Q E hr h => ?_)
  · obtain ⟨a, v, rfl, _⟩ := h
    rfl
  obtain ⟨a, v, rfl, T, hf, ha, q⟩ := h
  refine ⟨_, pss_one (ps_ost (pv 0) (pv 1)), ?_⟩
  exact ⟨_, rfl, _, rfl, a, C, rfl, T, hf, .inl ⟨ha, fun dx hdx ne => q dx hdx ne⟩⟩
theorem ok_exc_NoText {C f : Addr} {fd : FuncData} (F : Fun K "__init__" "NoText.__init__" s_NoText___init__ f fd) : FnOk P w K mg base CX0 1 f fd ["self", "line"] (spX1 K C "line") := by
  refine F.ok sc_NoText___init__ (fun vs H Q E h => ?_) (fun cdv A outer s H vs Q E hr h => ?_)
  · obtain ⟨a, v, rfl, _⟩ := h
    rfl
  obtain ⟨a, v, rfl, T, hf, ha, q⟩ := h
  refine ⟨_, pss_one (ps_ost (pv 0) (pv 1)), ?_⟩
  exact ⟨_, rfl, _, rfl, a, C, rfl, T, hf, .inl ⟨ha, fun dx hdx ne => q dx hdx ne⟩⟩
end
theorem rows {K : PySem.W.Frag} {w : World} {h : Heap} {mg : Str → Option Value} (X : K.In h) (G : h.Ns mainGlobals mg) {f0 f1 f2 f3 f4 f5 f6 f7 f8 f9 f10 f11 f12 f13 f14 f15 f16 f17 f18 f19 f20 CCopyError CNoRun xNoRun CNoText xNoText : Addr} {d0od d0an : Option Addr} {d0sl : Array (Option Value)} {d0oc d0kV d0dc d0pm d0cd d0ct : Value} {d1od d1an : Option Addr} {d1sl : Array (Option Value)} {d1oc d1kV d1dc d1pm d1cd d1ct : Value} {d2od d2an : Option Addr} {d2sl : Array (Option Value)} {d2oc d2kV d2dc d2pm d2cd d2ct : Value} {d3od d3an : Option Addr} {d3sl : Array (Option Value)} {d3oc d3kV d3dc d3pm d3cd d3ct : Value} {d4od d4an : Option Addr} {d4sl : Array (Option Value)} {d4oc d4kV d4dc d4pm d4cd d4ct : Value} {d5od d5an : Option Addr} {d5sl : Array (Option Value)} {d5oc d5kV d5dc d5pm d5cd d5ct : Value} {d6od d6an : Option Addr} {d6sl : Array (Option Value)} {d6oc d6kV d6dc d6pm d6cd d6ct : Value} {d7od d7an : Option Addr} {d7sl : Array (Option Value)} {d7oc d7kV d7dc d7pm d7cd d7ct : Value} {d8od d8an : Option Addr} {d8sl : Array (Option Value)} {d8oc d8kV d8dc d8pm d8cd d8ct : Value} {d9od d9an : Option Addr} {d9sl : Array (Option Value)} {d9oc d9kV d9dc d9pm d9cd d9ct : Value} {d10od d10an : Option Addr} {d10sl : Array (Option Value)} {d10oc d10kV d10dc d10pm d10cd d10ct : Value} {d11od d11an : Option Addr} {d11sl : Array (Option Value)} {d11oc d11kV d11dc d11pm d11cd d11ct : Value} {d12od d12an : Option Addr} {d12sl : Array (Option Value)} {d12oc d12kV d12dc d12pm d12cd d12ct : Value} {d13od d13an : Option Addr} {d13sl : Array (Option Value)} {d13oc d13kV d13dc d13pm d13cd d13ct : Value} {d14od d14an : Option Addr} {d14sl : Array (Option Value)} {d14oc d14kV d14dc d14pm d14cd d14ct : Value} {d15od d15an : Option Addr} {d15sl : Array (Option Value)} {d15oc d15kV d15dc d15pm d15cd d15ct : Value} {d16od d16an : Option Addr} {d16sl : Array (Option Value)} {d16oc d16kV d16dc d16pm d16cd d16ct : Value} {d17od d17an : Option Addr} {d17sl : Array (Option Value)} {d17oc d17kV d17dc d17pm d17cd d17ct : Value} {d18od d18an : Option Addr} {d18sl : Array (Option Value)} {d18oc d18kV d18dc d18pm d18cd d18ct : Value} {d19od d19an : Option Addr} {d19sl : Array (Option Value)} {d19oc d19kV d19dc d19pm d19cd d19ct : Value} {d20od d20an : Option Addr} {d20sl : Array (Option Value)} {d20oc d20kV d20dc d20pm d20cd d20ct : Value} {xNoRunnm xNoRunqn : Str} {xNoRunnN : Addr} {xNoRunbs xNoRunbm : List Value} {xNoRunsn : List Str} {xNoRunsb : List Value} {xNoRunab : Bool} {xNoRunco : Option Bool} {xNoRundd : Option Addr} {xNoRunu0 xNoRunu1 xNoRunu2 xNoRunu3 xNoRunu5 : Option Value} {xNoRunod xNoRunan : Option Addr} {xNoRunsl : Array (Option Value)} {xNoRunoc xNoRunkV xNoRundc xNoRunpm xNoRuncd xNoRunct : Value} {xNoTextnm xNoTextqn : Str} {xNoTextnN : Addr} {xNoTextbs xNoTextbm : List Value} {xNoTextsn : List Str} {xNoTextsb : List Value} {xNoTextab : Bool} {xNoTextco : Option Bool} {xNoTextdd : Option Addr} {xNoTextu0 xNoTextu1 xNoTextu2 xNoTextu3 xNoTextu5 : Option Value} {xNoTextod xNoTextan : Option Addr} {xNoTextsl : Array (Option Value)} {xNoTextoc xNoTextkV xNoTextdc xNoTextpm xNoTextcd xNoTextct : Value} {kLETTERSt : Tok} {kMOST_CACHESt : Tok} {kMOST_INDEXt : Tok}
    (a0 : PySem.W.nsIn K mainGlobals "is_whole" = some (some (.ref f0)))
    (d0l : K.lookup f0 = some ⟨d0oc, d0od, .func (PySem.W.fnOf "is_whole" "is_whole" (defArgs s_is_whole) (defBody s_is_whole) (defScope s_is_whole) .none d0kV d0dc d0pm d0an d0cd d0ct), d0sl⟩)
    (d0c : PySem.W.codeIn K d0cd "is_whole" = true)
    (d0k : PySem.W.keepIn K (.ref f0) = true)
    (a1 : PySem.W.nsIn K mainGlobals "is_integer" = some (some (.ref f1)))
    (d1l : K.lookup f1 = some ⟨d1oc, d1od, .func (PySem.W.fnOf "is_integer" "is_integer" (defArgs s_is_integer) (defBody s_is_integer) (defScope s_is_integer) .none d1kV d1dc d1pm d1an d1cd d1ct), d1sl⟩)
    (d1c : PySem.W.codeIn K d1cd "is_integer" = true)
    (d1k : PySem.W.keepIn K (.ref f1) = true)
    (a2 : PySem.W.nsIn K mainGlobals "is_name" = some (some (.ref f2)))
    (d2l : K.lookup f2 = some ⟨d2oc, d2od, .func (PySem.W.fnOf "is_name" "is_name" (defArgs s_is_name) (defBody s_is_name) (defScope s_is_name) .none d2kV d2dc d2pm d2an d2cd d2ct), d2sl⟩)
    (d2c : PySem.W.codeIn K d2cd "is_name" = true)
    (d2k : PySem.W.keepIn K (.ref f2) = true)
    (a3 : PySem.W.nsIn K mainGlobals "is_step" = some (some (.ref f3)))
    (d3l : K.lookup f3 = some ⟨d3oc, d3od, .func (PySem.W.fnOf "is_step" "is_step" (defArgs s_is_step) (defBody s_is_step) (defScope s_is_step) .none d3kV d3dc d3pm d3an d3cd d3ct), d3sl⟩)
    (d3c : PySem.W.codeIn K d3cd "is_step" = true)
    (d3k : PySem.W.keepIn K (.ref f3) = true)
    (a4 : PySem.W.nsIn K mainGlobals "run_text" = some (some (.ref f4)))
    (d4l : K.lookup f4 = some ⟨d4oc, d4od, .func (PySem.W.fnOf "run_text" "run_text" (defArgs s_run_text) (defBody s_run_text) (defScope s_run_text) .none d4kV d4dc d4pm d4an d4cd d4ct), d4sl⟩)
    (d4c : PySem.W.codeIn K d4cd "run_text" = true)
    (d4k : PySem.W.keepIn K (.ref f4) = true)
    (a5 : PySem.W.nsIn K mainGlobals "read_run" = some (some (.ref f5)))
    (d5l : K.lookup f5 = some ⟨d5oc, d5od, .func (PySem.W.fnOf "read_run" "read_run" (defArgs s_read_run) (defBody s_read_run) (defScope s_read_run) .none d5kV d5dc d5pm d5an d5cd d5ct), d5sl⟩)
    (d5c : PySem.W.codeIn K d5cd "read_run" = true)
    (d5k : PySem.W.keepIn K (.ref f5) = true)
    (a6 : PySem.W.nsIn K mainGlobals "_law_mix" = some (some (.ref f6)))
    (d6l : K.lookup f6 = some ⟨d6oc, d6od, .func (PySem.W.fnOf "_law_mix" "_law_mix" (defArgs s__law_mix) (defBody s__law_mix) (defScope s__law_mix) .none d6kV d6dc d6pm d6an d6cd d6ct), d6sl⟩)
    (d6c : PySem.W.codeIn K d6cd "_law_mix" = true)
    (d6k : PySem.W.keepIn K (.ref f6) = true)
    (a7 : PySem.W.nsIn K mainGlobals "_law_draws" = some (some (.ref f7)))
    (d7l : K.lookup f7 = some ⟨d7oc, d7od, .func (PySem.W.fnOf "_law_draws" "_law_draws" (defArgs s__law_draws) (defBody s__law_draws) (defScope s__law_draws) .none d7kV d7dc d7pm d7an d7cd d7ct), d7sl⟩)
    (d7c : PySem.W.codeIn K d7cd "_law_draws" = true)
    (d7k : PySem.W.keepIn K (.ref f7) = true)
    (a8 : PySem.W.nsIn K mainGlobals "_law_draw" = some (some (.ref f8)))
    (d8l : K.lookup f8 = some ⟨d8oc, d8od, .func (PySem.W.fnOf "_law_draw" "_law_draw" (defArgs s__law_draw) (defBody s__law_draw) (defScope s__law_draw) .none d8kV d8dc d8pm d8an d8cd d8ct), d8sl⟩)
    (d8c : PySem.W.codeIn K d8cd "_law_draw" = true)
    (d8k : PySem.W.keepIn K (.ref f8) = true)
    (a9 : PySem.W.nsIn K mainGlobals "_law_sign" = some (some (.ref f9)))
    (d9l : K.lookup f9 = some ⟨d9oc, d9od, .func (PySem.W.fnOf "_law_sign" "_law_sign" (defArgs s__law_sign) (defBody s__law_sign) (defScope s__law_sign) .none d9kV d9dc d9pm d9an d9cd d9ct), d9sl⟩)
    (d9c : PySem.W.codeIn K d9cd "_law_sign" = true)
    (d9k : PySem.W.keepIn K (.ref f9) = true)
    (a10 : PySem.W.nsIn K mainGlobals "_law_name" = some (some (.ref f10)))
    (d10l : K.lookup f10 = some ⟨d10oc, d10od, .func (PySem.W.fnOf "_law_name" "_law_name" (defArgs s__law_name) (defBody s__law_name) (defScope s__law_name) .none d10kV d10dc d10pm d10an d10cd d10ct), d10sl⟩)
    (d10c : PySem.W.codeIn K d10cd "_law_name" = true)
    (d10k : PySem.W.keepIn K (.ref f10) = true)
    (a11 : PySem.W.nsIn K mainGlobals "_law_line" = some (some (.ref f11)))
    (d11l : K.lookup f11 = some ⟨d11oc, d11od, .func (PySem.W.fnOf "_law_line" "_law_line" (defArgs s__law_line) (defBody s__law_line) (defScope s__law_line) .none d11kV d11dc d11pm d11an d11cd d11ct), d11sl⟩)
    (d11c : PySem.W.codeIn K d11cd "_law_line" = true)
    (d11k : PySem.W.keepIn K (.ref f11) = true)
    (a12 : PySem.W.nsIn K mainGlobals "_law_number" = some (some (.ref f12)))
    (d12l : K.lookup f12 = some ⟨d12oc, d12od, .func (PySem.W.fnOf "_law_number" "_law_number" (defArgs s__law_number) (defBody s__law_number) (defScope s__law_number) .none d12kV d12dc d12pm d12an d12cd d12ct), d12sl⟩)
    (d12c : PySem.W.codeIn K d12cd "_law_number" = true)
    (d12k : PySem.W.keepIn K (.ref f12) = true)
    (a13 : PySem.W.nsIn K mainGlobals "_law_changed" = some (some (.ref f13)))
    (d13l : K.lookup f13 = some ⟨d13oc, d13od, .func (PySem.W.fnOf "_law_changed" "_law_changed" (defArgs s__law_changed) (defBody s__law_changed) (defScope s__law_changed) .none d13kV d13dc d13pm d13an d13cd d13ct), d13sl⟩)
    (d13c : PySem.W.codeIn K d13cd "_law_changed" = true)
    (d13k : PySem.W.keepIn K (.ref f13) = true)
    (a14 : PySem.W.nsIn K mainGlobals "_law_place" = some (some (.ref f14)))
    (d14l : K.lookup f14 = some ⟨d14oc, d14od, .func (PySem.W.fnOf "_law_place" "_law_place" (defArgs s__law_place) (defBody s__law_place) (defScope s__law_place) .none d14kV d14dc d14pm d14an d14cd d14ct), d14sl⟩)
    (d14c : PySem.W.codeIn K d14cd "_law_place" = true)
    (d14k : PySem.W.keepIn K (.ref f14) = true)
    (a15 : PySem.W.nsIn K mainGlobals "_law_is_name" = some (some (.ref f15)))
    (d15l : K.lookup f15 = some ⟨d15oc, d15od, .func (PySem.W.fnOf "_law_is_name" "_law_is_name" (defArgs s__law_is_name) (defBody s__law_is_name) (defScope s__law_is_name) .none d15kV d15dc d15pm d15an d15cd d15ct), d15sl⟩)
    (d15c : PySem.W.codeIn K d15cd "_law_is_name" = true)
    (d15k : PySem.W.keepIn K (.ref f15) = true)
    (a16 : PySem.W.nsIn K mainGlobals "_law_read" = some (some (.ref f16)))
    (d16l : K.lookup f16 = some ⟨d16oc, d16od, .func (PySem.W.fnOf "_law_read" "_law_read" (defArgs s__law_read) (defBody s__law_read) (defScope s__law_read) .none d16kV d16dc d16pm d16an d16cd d16ct), d16sl⟩)
    (d16c : PySem.W.codeIn K d16cd "_law_read" = true)
    (d16k : PySem.W.keepIn K (.ref f16) = true)
    (a17 : PySem.W.nsIn K mainGlobals "_law_due" = some (some (.ref f17)))
    (d17l : K.lookup f17 = some ⟨d17oc, d17od, .func (PySem.W.fnOf "_law_due" "_law_due" (defArgs s__law_due) (defBody s__law_due) (defScope s__law_due) .none d17kV d17dc d17pm d17an d17cd d17ct), d17sl⟩)
    (d17c : PySem.W.codeIn K d17cd "_law_due" = true)
    (d17k : PySem.W.keepIn K (.ref f17) = true)
    (a18 : PySem.W.nsIn K mainGlobals "_law_is_plain" = some (some (.ref f18)))
    (d18l : K.lookup f18 = some ⟨d18oc, d18od, .func (PySem.W.fnOf "_law_is_plain" "_law_is_plain" (defArgs s__law_is_plain) (defBody s__law_is_plain) (defScope s__law_is_plain) .none d18kV d18dc d18pm d18an d18cd d18ct), d18sl⟩)
    (d18c : PySem.W.codeIn K d18cd "_law_is_plain" = true)
    (d18k : PySem.W.keepIn K (.ref f18) = true)
    (a19 : PySem.W.nsIn K mainGlobals "_law_asked" = some (some (.ref f19)))
    (d19l : K.lookup f19 = some ⟨d19oc, d19od, .func (PySem.W.fnOf "_law_asked" "_law_asked" (defArgs s__law_asked) (defBody s__law_asked) (defScope s__law_asked) .none d19kV d19dc d19pm d19an d19cd d19ct), d19sl⟩)
    (d19c : PySem.W.codeIn K d19cd "_law_asked" = true)
    (d19k : PySem.W.keepIn K (.ref f19) = true)
    (a20 : PySem.W.nsIn K mainGlobals "law" = some (some (.ref f20)))
    (d20l : K.lookup f20 = some ⟨d20oc, d20od, .func (PySem.W.fnOf "law" "law" (defArgs s_law) (defBody s_law) (defScope s_law) .none d20kV d20dc d20pm d20an d20cd d20ct), d20sl⟩)
    (d20c : PySem.W.codeIn K d20cd "law" = true)
    (d20k : PySem.W.keepIn K (.ref f20) = true)
    (z_len : PySem.W.nsIn K mainGlobals "len" = some none)
    (z_isinstance : PySem.W.nsIn K mainGlobals "isinstance" = some none)
    (z_list : PySem.W.nsIn K mainGlobals "list" = some none)
    (z_tuple : PySem.W.nsIn K mainGlobals "tuple" = some none)
    (z_dict : PySem.W.nsIn K mainGlobals "dict" = some none)
    (z_int : PySem.W.nsIn K mainGlobals "int" = some none)
    (z_bool : PySem.W.nsIn K mainGlobals "bool" = some none)
    (z_str : PySem.W.nsIn K mainGlobals "str" = some none)
    (z_range : PySem.W.nsIn K mainGlobals "range" = some none)
    (z_enumerate : PySem.W.nsIn K mainGlobals "enumerate" = some none)
    (z_zip : PySem.W.nsIn K mainGlobals "zip" = some none)
    (z_all : PySem.W.nsIn K mainGlobals "all" = some none)
    (z_any : PySem.W.nsIn K mainGlobals "any" = some none)
    (z_sum : PySem.W.nsIn K mainGlobals "sum" = some none)
    (z_min : PySem.W.nsIn K mainGlobals "min" = some none)
    (z_max : PySem.W.nsIn K mainGlobals "max" = some none)
    (z_abs : PySem.W.nsIn K mainGlobals "abs" = some none)
    (z_sorted : PySem.W.nsIn K mainGlobals "sorted" = some none)
    (z_repr : PySem.W.nsIn K mainGlobals "repr" = some none)
    (z_ord : PySem.W.nsIn K mainGlobals "ord" = some none)
    (z_ValueError : PySem.W.nsIn K mainGlobals "ValueError" = some none)
    (spn : PySem.W.specialIn K (.builtin "object.__class__") "__get__" = some (some (.builtin "getset_descriptor.__get__")))
    (tkn : PySem.W.takesIn K (.builtin "object.__class__") = some true)
    (CopyErrorm : PySem.W.nsIn K mainGlobals "CopyError" = some (some (.ref CCopyError)))
    (NoRunm : PySem.W.nsIn K mainGlobals "NoRun" = some (some (.ref CNoRun)))
    (NoTextm : PySem.W.nsIn K mainGlobals "NoText" = some (some (.ref CNoText)))
    (CopyErrorex : PySem.W.subIn K (.ref CCopyError) (.type "BaseException") = some true)
    (CopyErrorty : PySem.W.typeIn K (.ref CCopyError) = some (.type "type"))
    (CopyErrorhd : PySem.W.hasDictIn K CCopyError = true)
    (CopyErrorkc : PySem.W.keepIn K (.ref CCopyError) = true)
    (CopyErrorsCopyError : PySem.W.subIn K (.ref CCopyError) (.ref CCopyError) = some true)
    (CopyErrorsNoRun : PySem.W.subIn K (.ref CCopyError) (.ref CNoRun) = some false)
    (CopyErrorsNoText : PySem.W.subIn K (.ref CCopyError) (.ref CNoText) = some false)
    (CopyErrorga : PySem.W.findIn K (.ref CCopyError) "__getattribute__" = some (some (.builtin "BaseException.__getattribute__")))
    (CopyErrorgg : PySem.W.findIn K (.ref CCopyError) "__getattr__" = some none)
    (CopyErrorca : PySem.W.findIn K (.ref CCopyError) "__class__" = some (some (.builtin "object.__class__")))
    (CopyErrorcm : PySem.W.mroIn K CCopyError (.type "object") = some true)
    (CopyErrorkv : PySem.W.kitOne K (.ref CCopyError) (.type "ValueError") = some true)
    (CopyErrorkCopyError : PySem.W.kitOne K (.ref CCopyError) (.ref CCopyError) = some true)
    (CopyErrorkNoRun : PySem.W.kitOne K (.ref CCopyError) (.ref CNoRun) = some false)
    (CopyErrorkNoText : PySem.W.kitOne K (.ref CCopyError) (.ref CNoText) = some false)
    (CopyErrore : PySem.W.excIn K CCopyError [.type "ValueError", .type "Exception", .type "BaseException", .type "object"] "ValueError.__new__" = true)
    (NoRunex : PySem.W.subIn K (.ref CNoRun) (.type "BaseException") = some true)
    (NoRunty : PySem.W.typeIn K (.ref CNoRun) = some (.type "type"))
    (NoRunhd : PySem.W.hasDictIn K CNoRun = true)
    (NoRunkc : PySem.W.keepIn K (.ref CNoRun) = true)
    (NoRunsCopyError : PySem.W.subIn K (.ref CNoRun) (.ref CCopyError) = some true)
    (NoRunsNoRun : PySem.W.subIn K (.ref CNoRun) (.ref CNoRun) = some true)
    (NoRunsNoText : PySem.W.subIn K (.ref CNoRun) (.ref CNoText) = some false)
    (NoRunga : PySem.W.findIn K (.ref CNoRun) "__getattribute__" = some (some (.builtin "BaseException.__getattribute__")))
    (NoRungg : PySem.W.findIn K (.ref CNoRun) "__getattr__" = some none)
    (NoRunca : PySem.W.findIn K (.ref CNoRun) "__class__" = some (some (.builtin "object.__class__")))
    (NoRuncm : PySem.W.mroIn K CNoRun (.type "object") = some true)
    (NoRunkv : PySem.W.kitOne K (.ref CNoRun) (.type "ValueError") = some true)
    (NoRunkCopyError : PySem.W.kitOne K (.ref CNoRun) (.ref CCopyError) = some true)
    (NoRunkNoRun : PySem.W.kitOne K (.ref CNoRun) (.ref CNoRun) = some true)
    (NoRunkNoText : PySem.W.kitOne K (.ref CNoRun) (.ref CNoText) = some false)
    (NoRuno : K.lookup CNoRun = some (excClassObj xNoRunnm xNoRunqn CNoRun xNoRunnN xNoRunbs xNoRunbm true xNoRunsn xNoRunsb xNoRunab xNoRunco xNoRundd xNoRunu0 xNoRunu1 xNoRunu2 xNoRunu3 xNoRunu5 "ValueError.__new__"))
    (NoRunoo : PySem.HandSPX.refsVE xNoRunbm = true)
    (NoRunsa : PySem.W.findIn K (.ref CNoRun) "__setattr__" = some (some (.builtin "object.__setattr__")))
    (NoRuni : PySem.W.findIn K (.ref CNoRun) "__init__" = some (some (.ref xNoRun)))
    (NoRunit : PySem.W.typeIn K (.ref xNoRun) = some (.type "function"))
    (xNoRunl : K.lookup xNoRun = some ⟨xNoRunoc, xNoRunod, .func (PySem.W.fnOf "__init__" "NoRun.__init__" (defArgs s_NoRun___init__) (defBody s_NoRun___init__) (defScope s_NoRun___init__) .none xNoRunkV xNoRundc xNoRunpm xNoRunan xNoRuncd xNoRunct), xNoRunsl⟩)
    (xNoRunc : PySem.W.codeIn K xNoRuncd "NoRun.__init__" = true)
    (xNoRunk : PySem.W.keepIn K (.ref xNoRun) = true)
    (NoRunnindex : PySem.W.findIn K (.ref CNoRun) "index" = some none)
    (NoTextex : PySem.W.subIn K (.ref CNoText) (.type "BaseException") = some true)
    (NoTextty : PySem.W.typeIn K (.ref CNoText) = some (.type "type"))
    (NoTexthd : PySem.W.hasDictIn K CNoText = true)
    (NoTextkc : PySem.W.keepIn K (.ref CNoText) = true)
    (NoTextsCopyError : PySem.W.subIn K (.ref CNoText) (.ref CCopyError) = some true)
    (NoTextsNoRun : PySem.W.subIn K (.ref CNoText) (.ref CNoRun) = some false)
    (NoTextsNoText : PySem.W.subIn K (.ref CNoText) (.ref CNoText) = some true)
    (NoTextga : PySem.W.findIn K (.ref CNoText) "__getattribute__" = some (some (.builtin "BaseException.__getattribute__")))
    (NoTextgg : PySem.W.findIn K (.ref CNoText) "__getattr__" = some none)
    (NoTextca : PySem.W.findIn K (.ref CNoText) "__class__" = some (some (.builtin "object.__class__")))
    (NoTextcm : PySem.W.mroIn K CNoText (.type "object") = some true)
    (NoTextkv : PySem.W.kitOne K (.ref CNoText) (.type "ValueError") = some true)
    (NoTextkCopyError : PySem.W.kitOne K (.ref CNoText) (.ref CCopyError) = some true)
    (NoTextkNoRun : PySem.W.kitOne K (.ref CNoText) (.ref CNoRun) = some false)
    (NoTextkNoText : PySem.W.kitOne K (.ref CNoText) (.ref CNoText) = some true)
    (NoTexto : K.lookup CNoText = some (excClassObj xNoTextnm xNoTextqn CNoText xNoTextnN xNoTextbs xNoTextbm true xNoTextsn xNoTextsb xNoTextab xNoTextco xNoTextdd xNoTextu0 xNoTextu1 xNoTextu2 xNoTextu3 xNoTextu5 "ValueError.__new__"))
    (NoTextoo : PySem.HandSPX.refsVE xNoTextbm = true)
    (NoTextsa : PySem.W.findIn K (.ref CNoText) "__setattr__" = some (some (.builtin "object.__setattr__")))
    (NoTexti : PySem.W.findIn K (.ref CNoText) "__init__" = some (some (.ref xNoText)))
    (NoTextit : PySem.W.typeIn K (.ref xNoText) = some (.type "function"))
    (xNoTextl : K.lookup xNoText = some ⟨xNoTextoc, xNoTextod, .func (PySem.W.fnOf "__init__" "NoText.__init__" (defArgs s_NoText___init__) (defBody s_NoText___init__) (defScope s_NoText___init__) .none xNoTextkV xNoTextdc xNoTextpm xNoTextan xNoTextcd xNoTextct), xNoTextsl⟩)
    (xNoTextc : PySem.W.codeIn K xNoTextcd "NoText.__init__" = true)
    (xNoTextk : PySem.W.keepIn K (.ref xNoText) = true)
    (NoTextnline : PySem.W.findIn K (.ref CNoText) "line" = some none)
    (kLETTERS : PySem.W.nsIn K mainGlobals "LETTERS" = some (some (.str "abcdefghijklmnopqrstuvwxyz" kLETTERSt)))
    (kMOST_CACHES : PySem.W.nsIn K mainGlobals "MOST_CACHES" = some (some (.int 6 kMOST_CACHESt)))
    (kMOST_INDEX : PySem.W.nsIn K mainGlobals "MOST_INDEX" = some (some (.int 29 kMOST_INDEXt)))
    : LawRows (MK K w mg [(111, f0), (112, f1), (1, f2), (123, f3), (558, f4), (561, f5), (555, f6), (560, f7), (13, f8), (563, f9), (16, f10), (559, f11), (564, f12), (73, f13), (565, f14), (31, f15), (106, f16), (42, f17), (566, f18), (339, f19), (64, f20)] [] [(3, CCopyError), (5, CNoRun), (7, CNoText)]) ini B0 [(111, f0), (112, f1), (1, f2), (123, f3), (558, f4), (561, f5), (555, f6), (560, f7), (13, f8), (563, f9), (16, f10), (559, f11), (564, f12), (73, f13), (565, f14), (31, f15), (106, f16), (42, f17), (566, f18), (339, f19), (64, f20)] [] [(3, CCopyError), (5, CNoRun), (7, CNoText)] conTab ∧ ∃ fd ps, DefAt (MK K w mg [(111, f0), (112, f1), (1, f2), (123, f3), (558, f4), (561, f5), (555, f6), (560, f7), (13, f8), (563, f9), (16, f10), (559, f11), (564, f12), (73, f13), (565, f14), (31, f15), (106, f16), (42, f17), (566, f18), (339, f19), (64, f20)] [] [(3, CCopyError), (5, CNoRun), (7, CNoText)]) B0 64 f20 fd ps f_law ∧ ps = (["_law_script"] : List Str) ∧ Fun K "law" "law" s_law f20 fd := by
  let M := MK K w mg [(111, f0), (112, f1), (1, f2), (123, f3), (558, f4), (561, f5), (555, f6), (560, f7), (13, f8), (563, f9), (16, f10), (559, f11), (564, f12), (73, f13), (565, f14), (31, f15), (106, f16), (42, f17), (566, f18), (339, f19), (64, f20)] [] [(3, CCopyError), (5, CNoRun), (7, CNoText)]
  have F_d0 := fun_mk (x := "is_whole") (qual := "is_whole") (st := s_is_whole) d0l d0c d0k
  have b_d0 := F_d0.binds (ps := ["value"]) fun _ _ _ _ _ _ us hl => match us, hl with | [_], _ => rfl
  have D_d0 : DefAt M B0 111 f0 _ ["value"] f_is_whole := ⟨_, _, _, _, F_d0, sc_is_whole, rfl, rfl, rfl, ck_is_whole, b_d0⟩
  have F_d1 := fun_mk (x := "is_integer") (qual := "is_integer") (st := s_is_integer) d1l d1c d1k
  have b_d1 := F_d1.binds (ps := ["value", "least", "greatest"]) fun _ _ _ _ _ _ us hl => match us, hl with | [_, _, _], _ => rfl
  have D_d1 : DefAt M B0 112 f1 _ ["value", "least", "greatest"] f_is_integer := ⟨_, _, _, _, F_d1, sc_is_integer, rfl, rfl, rfl, ck_is_integer, b_d1⟩
  have F_d2 := fun_mk (x := "is_name") (qual := "is_name") (st := s_is_name) d2l d2c d2k
  have b_d2 := F_d2.binds (ps := ["value"]) fun _ _ _ _ _ _ us hl => match us, hl with | [_], _ => rfl
  have D_d2 : DefAt M B0 1 f2 _ ["value"] f_is_name := ⟨_, _, _, _, F_d2, sc_is_name, rfl, rfl, rfl, ck_is_name, b_d2⟩
  have F_d3 := fun_mk (x := "is_step") (qual := "is_step") (st := s_is_step) d3l d3c d3k
  have b_d3 := F_d3.binds (ps := ["value"]) fun _ _ _ _ _ _ us hl => match us, hl with | [_], _ => rfl
  have D_d3 : DefAt M B0 123 f3 _ ["value"] f_is_step := ⟨_, _, _, _, F_d3, sc_is_step, rfl, rfl, rfl, ck_is_step, b_d3⟩
  have F_d4 := fun_mk (x := "run_text") (qual := "run_text") (st := s_run_text) d4l d4c d4k
  have b_d4 := F_d4.binds (ps := ["run"]) fun _ _ _ _ _ _ us hl => match us, hl with | [_], _ => rfl
  have D_d4 : DefAt M B0 558 f4 _ ["run"] f_run_text := ⟨_, _, _, _, F_d4, sc_run_text, rfl, rfl, rfl, ck_run_text, b_d4⟩
  have F_d5 := fun_mk (x := "read_run") (qual := "read_run") (st := s_read_run) d5l d5c d5k
  have b_d5 := F_d5.binds (ps := ["text"]) fun _ _ _ _ _ _ us hl => match us, hl with | [_], _ => rfl
  have D_d5 : DefAt M B0 561 f5 _ ["text"] f_read_run := ⟨_, _, _, _, F_d5, sc_read_run, rfl, rfl, rfl, ck_read_run, b_d5⟩
  have F_d6 := fun_mk (x := "_law_mix") (qual := "_law_mix") (st := s__law_mix) d6l d6c d6k
  have b_d6 := F_d6.binds (ps := ["_law_number_here", "_law_k"]) fun _ _ _ _ _ _ us hl => match us, hl with | [_, _], _ => rfl
  have D_d6 : DefAt M B0 555 f6 _ ["_law_number_here", "_law_k"] f__law_mix := ⟨_, _, _, _, F_d6, sc__law_mix, rfl, rfl, rfl, ck__law_mix, b_d6⟩
  have F_d7 := fun_mk (x := "_law_draws") (qual := "_law_draws") (st := s__law_draws) d7l d7c d7k
  have b_d7 := F_d7.binds (ps := ["_law_script"]) fun _ _ _ _ _ _ us hl => match us, hl with | [_], _ => rfl
  have D_d7 : DefAt M B0 560 f7 _ ["_law_script"] f__law_draws := ⟨_, _, _, _, F_d7, sc__law_draws, rfl, rfl, rfl, ck__law_draws, b_d7⟩
  have F_d8 := fun_mk (x := "_law_draw") (qual := "_law_draw") (st := s__law_draw) d8l d8c d8k
  have b_d8 := F_d8.binds (ps := ["_law_draws_here", "_law_many"]) fun _ _ _ _ _ _ us hl => match us, hl with | [_, _], _ => rfl
  have D_d8 : DefAt M B0 13 f8 _ ["_law_draws_here", "_law_many"] f__law_draw := ⟨_, _, _, _, F_d8, sc__law_draw, rfl, rfl, rfl, ck__law_draw, b_d8⟩
  have F_d9 := fun_mk (x := "_law_sign") (qual := "_law_sign") (st := s__law_sign) d9l d9c d9k
  have b_d9 := F_d9.binds (ps := ["_law_draws_here"]) fun _ _ _ _ _ _ us hl => match us, hl with | [_], _ => rfl
  have D_d9 : DefAt M B0 563 f9 _ ["_law_draws_here"] f__law_sign := ⟨_, _, _, _, F_d9, sc__law_sign, rfl, rfl, rfl, ck__law_sign, b_d9⟩
  have F_d10 := fun_mk (x := "_law_name") (qual := "_law_name") (st := s__law_name) d10l d10c d10k
  have b_d10 := F_d10.binds (ps := ["_law_draws_here"]) fun _ _ _ _ _ _ us hl => match us, hl with | [_], _ => rfl
  have D_d10 : DefAt M B0 16 f10 _ ["_law_draws_here"] f__law_name := ⟨_, _, _, _, F_d10, sc__law_name, rfl, rfl, rfl, ck__law_name, b_d10⟩
  have F_d11 := fun_mk (x := "_law_line") (qual := "_law_line") (st := s__law_line) d11l d11c d11k
  have b_d11 := F_d11.binds (ps := ["_law_draws_here"]) fun _ _ _ _ _ _ us hl => match us, hl with | [_], _ => rfl
  have D_d11 : DefAt M B0 559 f11 _ ["_law_draws_here"] f__law_line := ⟨_, _, _, _, F_d11, sc__law_line, rfl, rfl, rfl, ck__law_line, b_d11⟩
  have F_d12 := fun_mk (x := "_law_number") (qual := "_law_number") (st := s__law_number) d12l d12c d12k
  have b_d12 := F_d12.binds (ps := ["_law_draws_here"]) fun _ _ _ _ _ _ us hl => match us, hl with | [_], _ => rfl
  have D_d12 : DefAt M B0 564 f12 _ ["_law_draws_here"] f__law_number := ⟨_, _, _, _, F_d12, sc__law_number, rfl, rfl, rfl, ck__law_number, b_d12⟩
  have F_d13 := fun_mk (x := "_law_changed") (qual := "_law_changed") (st := s__law_changed) d13l d13c d13k
  have b_d13 := F_d13.binds (ps := ["_law_draws_here", "_law_line_here"]) fun _ _ _ _ _ _ us hl => match us, hl with | [_, _], _ => rfl
  have D_d13 : DefAt M B0 73 f13 _ ["_law_draws_here", "_law_line_here"] f__law_changed := ⟨_, _, _, _, F_d13, sc__law_changed, rfl, rfl, rfl, ck__law_changed, b_d13⟩
  have F_d14 := fun_mk (x := "_law_place") (qual := "_law_place") (st := s__law_place) d14l d14c d14k
  have b_d14 := F_d14.binds (ps := ["_law_word", "_law_limit"]) fun _ _ _ _ _ _ us hl => match us, hl with | [_, _], _ => rfl
  have D_d14 : DefAt M B0 565 f14 _ ["_law_word", "_law_limit"] f__law_place := ⟨_, _, _, _, F_d14, sc__law_place, rfl, rfl, rfl, ck__law_place, b_d14⟩
  have F_d15 := fun_mk (x := "_law_is_name") (qual := "_law_is_name") (st := s__law_is_name) d15l d15c d15k
  have b_d15 := F_d15.binds (ps := ["_law_word"]) fun _ _ _ _ _ _ us hl => match us, hl with | [_], _ => rfl
  have D_d15 : DefAt M B0 31 f15 _ ["_law_word"] f__law_is_name := ⟨_, _, _, _, F_d15, sc__law_is_name, rfl, rfl, rfl, ck__law_is_name, b_d15⟩
  have F_d16 := fun_mk (x := "_law_read") (qual := "_law_read") (st := s__law_read) d16l d16c d16k
  have b_d16 := F_d16.binds (ps := ["_law_line_here"]) fun _ _ _ _ _ _ us hl => match us, hl with | [_], _ => rfl
  have D_d16 : DefAt M B0 106 f16 _ ["_law_line_here"] f__law_read := ⟨_, _, _, _, F_d16, sc__law_read, rfl, rfl, rfl, ck__law_read, b_d16⟩
  have F_d17 := fun_mk (x := "_law_due") (qual := "_law_due") (st := s__law_due) d17l d17c d17k
  have b_d17 := F_d17.binds (ps := ["_law_text"]) fun _ _ _ _ _ _ us hl => match us, hl with | [_], _ => rfl
  have D_d17 : DefAt M B0 42 f17 _ ["_law_text"] f__law_due := ⟨_, _, _, _, F_d17, sc__law_due, rfl, rfl, rfl, ck__law_due, b_d17⟩
  have F_d18 := fun_mk (x := "_law_is_plain") (qual := "_law_is_plain") (st := s__law_is_plain) d18l d18c d18k
  have b_d18 := F_d18.binds (ps := ["_law_told"]) fun _ _ _ _ _ _ us hl => match us, hl with | [_], _ => rfl
  have D_d18 : DefAt M B0 566 f18 _ ["_law_told"] f__law_is_plain := ⟨_, _, _, _, F_d18, sc__law_is_plain, rfl, rfl, rfl, ck__law_is_plain, b_d18⟩
  have F_d19 := fun_mk (x := "_law_asked") (qual := "_law_asked") (st := s__law_asked) d19l d19c d19k
  have b_d19 := F_d19.binds (ps := ["_law_thing"]) fun _ _ _ _ _ _ us hl => match us, hl with | [_], _ => rfl
  have D_d19 : DefAt M B0 339 f19 _ ["_law_thing"] f__law_asked := ⟨_, _, _, _, F_d19, sc__law_asked, rfl, rfl, rfl, ck__law_asked, b_d19⟩
  have F_d20 := fun_mk (x := "law") (qual := "law") (st := s_law) d20l d20c d20k
  have b_d20 := F_d20.binds (ps := ["_law_script"]) fun _ _ _ _ _ _ us hl => match us, hl with | [_], _ => rfl
  have D_d20 : DefAt M B0 64 f20 _ ["_law_script"] f_law := ⟨_, _, _, _, F_d20, sc_law, rfl, rfl, rfl, ck_law, b_d20⟩
  have R_CopyError : ExcRow M 3 CCopyError := ⟨PySem.W.mg_of X G CopyErrorm, fun z => absurd rfl z, fun P base => .inl ⟨rfl, CopyErrore, CopyErrorkc, CopyErrorex, CopyErrorty⟩, ⟨VM.cl_of CopyErrorhd, CopyErrorga, CopyErrorgg, CopyErrorex, CopyErrorca, spn, tkn, CopyErrorcm⟩, CopyErrorkv⟩
  have F_xNoRun := fun_mk (x := "__init__") (qual := "NoRun.__init__") (st := s_NoRun___init__) xNoRunl xNoRunc xNoRunk
  have b_xNoRun := F_xNoRun.binds (ps := ["self", "index"]) fun _ _ _ _ _ _ us hl => match us, hl with | [_, _], _ => rfl
  have o_NoRun : OexC K CNoRun := ⟨⟨_, _, _, _, _, _, _, _, _, _, _, _, _, _, _, NoRuno, NoRunoo⟩, NoRunsa, NoRunex, NoRunty, NoRunkc⟩
  have R_NoRun : ExcRow M 5 CNoRun := {
    mg := PySem.W.mg_of X G NoRunm, fld := fun _ => ⟨⟨NoRunga, NoRungg, NoRunex, NoRunhd⟩, AllM.mem (l := [11]) ⟨NoRunnindex, trivial⟩⟩, isx := ⟨VM.cl_of NoRunhd, NoRunga, NoRungg, NoRunex, NoRunca, spn, tkn, NoRuncm⟩, kv := NoRunkv
    ex := fun P base => .inr (.inl ⟨11, rfl, ⟨o_NoRun, xNoRun, _, _, NoRuni, NoRunit, ok_exc_NoRun F_xNoRun, b_xNoRun, rfl⟩, NoRunnindex⟩) }
  have F_xNoText := fun_mk (x := "__init__") (qual := "NoText.__init__") (st := s_NoText___init__) xNoTextl xNoTextc xNoTextk
  have b_xNoText := F_xNoText.binds (ps := ["self", "line"]) fun _ _ _ _ _ _ us hl => match us, hl with | [_, _], _ => rfl
  have o_NoText : OexC K CNoText := ⟨⟨_, _, _, _, _, _, _, _, _, _, _, _, _, _, _, NoTexto, NoTextoo⟩, NoTextsa, NoTextex, NoTextty, NoTextkc⟩
  have R_NoText : ExcRow M 7 CNoText := {
    mg := PySem.W.mg_of X G NoTextm, fld := fun _ => ⟨⟨NoTextga, NoTextgg, NoTextex, NoTexthd⟩, AllM.mem (l := [14]) ⟨NoTextnline, trivial⟩⟩, isx := ⟨VM.cl_of NoTexthd, NoTextga, NoTextgg, NoTextex, NoTextca, spn, tkn, NoTextcm⟩, kv := NoTextkv
    ex := fun P base => .inr (.inl ⟨14, rfl, ⟨o_NoText, xNoText, _, _, NoTexti, NoTextit, ok_exc_NoText F_xNoText, b_xNoText, rfl⟩, NoTextnline⟩) }
  have R : LawRows M ini B0 [(111, f0), (112, f1), (1, f2), (123, f3), (558, f4), (561, f5), (555, f6), (560, f7), (13, f8), (563, f9), (16, f10), (559, f11), (564, f12), (73, f13), (565, f14), (31, f15), (106, f16), (42, f17), (566, f18), (339, f19), (64, f20)] [] [(3, CCopyError), (5, CNoRun), (7, CNoText)] conTab := {
    fA := rfl, cA := rfl, xA := rfl, con := rfl, fns := rfl, clss := rfl, xcs := rfl
    fr := ⟨⟨PySem.W.mg_of X G a0, d0k, rfl, _, _, _, D_d0⟩, ⟨PySem.W.mg_of X G a1, d1k, rfl, _, _, _, D_d1⟩, ⟨PySem.W.mg_of X G a2, d2k, rfl, _, _, _, D_d2⟩, ⟨PySem.W.mg_of X G a3, d3k, rfl, _, _, _, D_d3⟩, ⟨PySem.W.mg_of X G a4, d4k, rfl, _, _, _, D_d4⟩, ⟨PySem.W.mg_of X G a5, d5k, rfl, _, _, _, D_d5⟩, ⟨PySem.W.mg_of X G a6, d6k, rfl, _, _, _, D_d6⟩, ⟨PySem.W.mg_of X G a7, d7k, rfl, _, _, _, D_d7⟩, ⟨PySem.W.mg_of X G a8, d8k, rfl, _, _, _, D_d8⟩, ⟨PySem.W.mg_of X G a9, d9k, rfl, _, _, _, D_d9⟩, ⟨PySem.W.mg_of X G a10, d10k, rfl, _, _, _, D_d10⟩, ⟨PySem.W.mg_of X G a11, d11k, rfl, _, _, _, D_d11⟩, ⟨PySem.W.mg_of X G a12, d12k, rfl, _, _, _, D_d12⟩, ⟨PySem.W.mg_of X G a13, d13k, rfl, _, _, _, D_d13⟩, ⟨PySem.W.mg_of X G a14, d14k, rfl, _, _, _, D_d14⟩, ⟨PySem.W.mg_of X G a15, d15k, rfl, _, _, _, D_d15⟩, ⟨PySem.W.mg_of X G a16, d16k, rfl, _, _, _, D_d16⟩, ⟨PySem.W.mg_of X G a17, d17k, rfl, _, _, _, D_d17⟩, ⟨PySem.W.mg_of X G a18, d18k, rfl, _, _, _, D_d18⟩, ⟨PySem.W.mg_of X G a19, d19k, rfl, _, _, _, D_d19⟩, ⟨PySem.W.mg_of X G a20, d20k, rfl, _, _, _, D_d20⟩, trivial⟩
    cr := trivial
    xr := ⟨R_CopyError, R_NoRun, R_NoText, trivial⟩
    kr := ⟨⟨_, .str "abcdefghijklmnopqrstuvwxyz", PySem.W.mg_of X G kLETTERS, ⟨_, rfl⟩, fun W => rfl⟩, ⟨_, .int 6, PySem.W.mg_of X G kMOST_CACHES, ⟨_, rfl⟩, fun W => rfl⟩, ⟨_, .int 29, PySem.W.mg_of X G kMOST_INDEX, ⟨_, rfl⟩, fun W => rfl⟩, trivial⟩
    cc := fun c A t T h1 h2 => nomatch h1
    exm := fun c h A B h1 h2 => by
      have k := AllQ.look (P := fun c A => ∀ t T, M.C.xA t = some T → PySem.W.exmOne K (.ref A) (.ref T) = some (isC Gam c t)) (l := [(3, CCopyError), (5, CNoRun), (7, CNoText)]) ⟨fun t T h => AllQ.look (P := fun t T => PySem.W.exmOne K (.ref CCopyError) (.ref T) = some (isC Gam 3 t)) (l := [(3, CCopyError), (5, CNoRun), (7, CNoText)]) ⟨PySem.W.exm_ref CopyErrorex CopyErrorhd CopyErrorty CopyErrorsCopyError, PySem.W.exm_ref NoRunex NoRunhd NoRunty CopyErrorsNoRun, PySem.W.exm_ref NoTextex NoTexthd NoTextty CopyErrorsNoText, trivial⟩ h, fun t T h => AllQ.look (P := fun t T => PySem.W.exmOne K (.ref CNoRun) (.ref T) = some (isC Gam 5 t)) (l := [(3, CCopyError), (5, CNoRun), (7, CNoText)]) ⟨PySem.W.exm_ref CopyErrorex CopyErrorhd CopyErrorty NoRunsCopyError, PySem.W.exm_ref NoRunex NoRunhd NoRunty NoRunsNoRun, PySem.W.exm_ref NoTextex NoTexthd NoTextty NoRunsNoText, trivial⟩ h, fun t T h => AllQ.look (P := fun t T => PySem.W.exmOne K (.ref CNoText) (.ref T) = some (isC Gam 7 t)) (l := [(3, CCopyError), (5, CNoRun), (7, CNoText)]) ⟨PySem.W.exm_ref CopyErrorex CopyErrorhd CopyErrorty NoTextsCopyError, PySem.W.exm_ref NoRunex NoRunhd NoRunty NoTextsNoRun, PySem.W.exm_ref NoTextex NoTexthd NoTextty NoTextsNoText, trivial⟩ h, trivial⟩ h1
      exact k h B h2
    kix := fun c h A B h1 h2 => by
      have k := AllQ.look (P := fun c A => ∀ t T, M.C.xA t = some T → PySem.W.kitOne K (.ref A) (.ref T) = some (isC Gam c t)) (l := [(3, CCopyError), (5, CNoRun), (7, CNoText)]) ⟨fun t T h => AllQ.look (P := fun t T => PySem.W.kitOne K (.ref CCopyError) (.ref T) = some (isC Gam 3 t)) (l := [(3, CCopyError), (5, CNoRun), (7, CNoText)]) ⟨CopyErrorkCopyError, CopyErrorkNoRun, CopyErrorkNoText, trivial⟩ h, fun t T h => AllQ.look (P := fun t T => PySem.W.kitOne K (.ref CNoRun) (.ref T) = some (isC Gam 5 t)) (l := [(3, CCopyError), (5, CNoRun), (7, CNoText)]) ⟨NoRunkCopyError, NoRunkNoRun, NoRunkNoText, trivial⟩ h, fun t T h => AllQ.look (P := fun t T => PySem.W.kitOne K (.ref CNoText) (.ref T) = some (isC Gam 7 t)) (l := [(3, CCopyError), (5, CNoRun), (7, CNoText)]) ⟨NoTextkCopyError, NoTextkNoRun, NoTextkNoText, trivial⟩ h, trivial⟩ h1
      exact k h B h2
    mf := AllM.mem (l := mthIds) trivial
    bt := AllM.mem (l := bNms) ⟨PySem.W.mg_none_of X G z_len, PySem.W.mg_none_of X G z_isinstance, PySem.W.mg_none_of X G z_list, PySem.W.mg_none_of X G z_tuple, PySem.W.mg_none_of X G z_dict, PySem.W.mg_none_of X G z_int, PySem.W.mg_none_of X G z_bool, PySem.W.mg_none_of X G z_str, PySem.W.mg_none_of X G z_range, PySem.W.mg_none_of X G z_enumerate, PySem.W.mg_none_of X G z_zip, PySem.W.mg_none_of X G z_all, PySem.W.mg_none_of X G z_any, PySem.W.mg_none_of X G z_sum, PySem.W.mg_none_of X G z_min, PySem.W.mg_none_of X G z_max, PySem.W.mg_none_of X G z_abs, PySem.W.mg_none_of X G z_sorted, PySem.W.mg_none_of X G z_repr, PySem.W.mg_none_of X G z_ord, PySem.W.mg_none_of X G z_ValueError, trivial⟩ }
  exact ⟨R, _, _, D_d20, rfl, F_d20⟩
end VL

set_option maxRecDepth 20000
namespace VL
open PySem VM
theorem ok_bind {α β : Type} (a : α) (g : Gs) (f : α → Gs → Out β) : (Out.ok a g).bind f = f a g := rfl
theorem ex_bind {α β : Type} (c : Nat) (vs : List D) (g : Gs) (f : α → Gs → Out β) : (Out.ex c vs g).bind f = .ex c vs g := rfl
theorem opt_some {α : Type} (a : α) (g : Gs) : Out.opt (some a) g = .ok a g := rfl
theorem cmp_eqI (g : Gs) (a b : Int) : cmpD g .eq (.int a) (.int b) = some (.bl (decide (a = b))) := rfl
theorem cmp_neI (g : Gs) (a b : Int) : cmpD g .ne (.int a) (.int b) = some (.bl (!decide (a = b))) := rfl
theorem cmp_isN (g : Gs) (x : D) : cmpD g .is_ x .non = some (.bl (match x with
    | .non => true
    | _ => false)) := rfl
theorem cmp_isnN (g : Gs) (x : D) : cmpD g .isn x .non = some (.bl (!(match x with
    | .non => true
    | _ => false))) := rfl
def ssNth : Ss → Nat → VM.S
  | .cons s _, 0 => s
  | .cons _ r, i + 1 => ssNth r i
  | .nil, _ => .pass
def ssDrop : Ss → Nat → Ss
  | b, 0 => b
  | .cons _ r, i + 1 => ssDrop r i
  | .nil, _ + 1 => .nil
theorem ss_next {call : CallT} {b : Ss} {σ σ' : Sg} {g g' : Gs} (i : Nat) (h : evS Gam call (ssNth b i) σ g = .ok (.nx, σ') g') (hb : ssDrop b i = .cons (ssNth b i) (ssDrop b (i + 1)) := by rfl) : evSs Gam call (ssDrop b i) σ g = evSs Gam call (ssDrop b (i + 1)) σ' g' := by
  rw [hb]
  simp only [evSs, h, Out.bind]
theorem ss_ret {call : CallT} {b : Ss} {σ σ' : Sg} {g g' : Gs} {v : RV} (i : Nat) (h : evS Gam call (ssNth b i) σ g = .ok (.ret v, σ') g') (hb : ssDrop b i = .cons (ssNth b i) (ssDrop b (i + 1)) := by rfl) : evSs Gam call (ssDrop b i) σ g = .ok (.ret v, σ') g' := by
  rw [hb]
  simp only [evSs, h, Out.bind]
theorem ss_end {call : CallT} {b : Ss} {σ : Sg} {g : Gs} (i : Nat) (hb : ssDrop b i = .nil := by rfl) : evSs Gam call (ssDrop b i) σ g = .ok (.nx, σ) g := by
  rw [hb]
  rfl
def kont : Fl × Sg → Gs → Out RV := fun r g => match r.1 with
  | .ret v => .ok v g
  | .nx => .ok (.v .non) g
  | _ => .no
theorem runF_eq {call : CallT} {f : Fn} {ds : List D} {g : Gs} (h : ds.length = f.np) : runF Gam call f ds g = (evSs Gam call (ssDrop f.body 0) (ds.map (fun d => some (.val d)) ++ List.replicate (f.ns - f.np) none) g).bind kont := by
  have hz : ∀ b : Ss, ssDrop b 0 = b := fun b => by cases b <;> rfl
  unfold runF
  rw [if_pos h, hz]
  rfl
theorem run_ret {call : CallT} {f : Fn} {ds : List D} {g g' : Gs} {v : RV} {σ' : Sg} (h : ds.length = f.np) (e : evSs Gam call (ssDrop f.body 0) (ds.map (fun d => some (.val d)) ++ List.replicate (f.ns - f.np) none) g = .ok (.ret v, σ') g') : runF Gam call f ds g = .ok v g' := by
  rw [runF_eq h, e]
  rfl
theorem ss_ex {call : CallT} {b : Ss} {σ : Sg} {g g' : Gs} {c : Nat} {ds : List D} (i : Nat) (h : evS Gam call (ssNth b i) σ g = .ex c ds g') (hb : ssDrop b i = .cons (ssNth b i) (ssDrop b (i + 1)) := by rfl) : evSs Gam call (ssDrop b i) σ g = .ex c ds g' := by
  rw [hb]
  simp only [evSs, h, Out.bind]
theorem set_cell (g : Gs) (p : Nat) (c : Cell) : (g.set p c).cell p = some c := if_pos rfl
theorem set_set (g : Gs) (p : Nat) (c d : Cell) : (g.set p c).set p d = g.set p d := by
  unfold Gs.set
  congr 1
  funext m
  by_cases h : m = p <;> simp [h]
theorem bin_add (g : Gs) (a b : Int) : binD g .add (.int a) (.int b) = some (.int (a + b)) := rfl
theorem bin_sub (g : Gs) (a b : Int) : binD g .sub (.int a) (.int b) = some (.int (a - b)) := rfl
theorem bin_mulR (g : Gs) (a b : Int) (h : -18446744073709551616 < b ∧ b < 18446744073709551616) : binD g .mul (.int a) (.int b) = some (.int (a * b)) := by
  show (if mulOk a b = true then some (D.int (a * b)) else none) = _
  rw [if_pos (by unfold mulOk; rw [Bool.or_eq_true]; exact .inr (decide_eq_true h))]
theorem bin_mulL (g : Gs) (a b : Int) (h : -18446744073709551616 < a ∧ a < 18446744073709551616) : binD g .mul (.int a) (.int b) = some (.int (a * b)) := by
  show (if mulOk a b = true then some (D.int (a * b)) else none) = _
  rw [if_pos (by unfold mulOk; rw [Bool.or_eq_true]; exact .inl (decide_eq_true h))]
theorem bin_mod (g : Gs) (a b : Int) (h : 0 < b) : binD g .mod (.int a) (.int b) = some (.int (a % b)) := if_pos h
theorem bin_fdiv (g : Gs) (a b : Int) (h : 0 < b ∧ b < 1073741824) : binD g .fdiv (.int a) (.int b) = some (.int (a / b)) := if_pos h
theorem bi_int (g : Gs) (a : Int) : biD Gam g .int [.int a] = some (.int a) := rfl
theorem cmp_lt (g : Gs) (a b : Int) : cmpD g .lt (.int a) (.int b) = some (.bl (decide (a < b))) := rfl
theorem cmp_gt (g : Gs) (a b : Int) : cmpD g .gt (.int a) (.int b) = some (.bl (decide (b < a))) := rfl
theorem cmp_le (g : Gs) (a b : Int) : cmpD g .le (.int a) (.int b) = some (.bl (!decide (b < a))) := rfl
theorem cmp_ge (g : Gs) (a b : Int) : cmpD g .ge (.int a) (.int b) = some (.bl (!decide (a < b))) := rfl
theorem pow18 (g : Gs) : binD g .pow (.int 10) (.int 18) = some (.int 1000000000000000000) := rfl
theorem loop_fix {body : Sg → Gs → Out R} {tg : Tg} {xs : List D} {Inv : Nat → Sg → Gs → Prop} {Q : RV → Gs → Prop}
    (step : ∀ i x σ g, xs[i]? = some x → Inv i σ g → ∃ σ1, bindT g σ x tg = some σ1 ∧ ((∃ σ' g', body σ1 g = .ok (.nx, σ') g' ∧ Inv (i + 1) σ' g') ∨ (∃ v σ' g', body σ1 g = .ok (.ret v, σ') g' ∧ Q v g'))) :
    ∀ m i σ g, xs.length + 1 ≤ m + i → i ≤ xs.length → Inv i σ g → (∃ σ' g', loopI body tg (.fix xs) m i σ g = .ok (.nx, σ') g' ∧ Inv xs.length σ' g') ∨ (∃ v σ' g', loopI body tg (.fix xs) m i σ g = .ok (.ret v, σ') g' ∧ Q v g')
  | 0, i, σ, g, hm, hi, h => by omega
  | m + 1, i, σ, g, hm, hi, h => by
    have hat : (Src.fix xs).at i g = some xs[i]? := rfl
    by_cases q : i < xs.length
    · have hx : xs[i]? = some xs[i] := List.getElem?_eq_getElem q
      obtain ⟨σ1, hb, hs⟩ := step i xs[i] σ g hx h
      unfold loopI
      rw [hat, hx]
      dsimp only
      rw [hb]
      rcases hs with ⟨σ', g', e, hI⟩ | ⟨v, σ', g', e, hQ⟩
      · have := loop_fix step m (i + 1) σ' g' (by omega) (by omega) hI
        dsimp only
        rw [e]
        exact this
      · right
        dsimp only
        rw [e]
        exact ⟨v, σ', g', rfl, hQ⟩
    · have : i = xs.length := by omega
      subst this
      left
      refine ⟨σ, g, ?_, h⟩
      unfold loopI
      rw [hat, List.getElem?_eq_none (Nat.le_refl _)]
theorem fold_fix {f : List D → D → Gs → Out (List D)} {xs : List D} {Inv : Nat → List D → Gs → Prop}
    (step : ∀ i x acc g, xs[i]? = some x → Inv i acc g → ∃ acc' g', f acc x g = .ok acc' g' ∧ Inv (i + 1) acc' g') :
    ∀ m i acc g, xs.length + 1 ≤ m + i → i ≤ xs.length → Inv i acc g → ∃ acc' g', foldI f (.fix xs) m i acc g = .ok acc' g' ∧ Inv xs.length acc' g'
  | 0, i, σ, g, hm, hi, h => by omega
  | m + 1, i, acc, g, hm, hi, h => by
    have hat : (Src.fix xs).at i g = some xs[i]? := rfl
    by_cases q : i < xs.length
    · have hx : xs[i]? = some xs[i] := List.getElem?_eq_getElem q
      obtain ⟨acc', g', e, hI⟩ := step i xs[i] acc g hx h
      unfold foldI
      rw [hat, hx]
      dsimp only
      rw [e]
      exact fold_fix step m (i + 1) acc' g' (by omega) (by omega) hI
    · have : i = xs.length := by omega
      subst this
      refine ⟨acc, g, ?_, h⟩
      unfold foldI
      rw [hat, List.getElem?_eq_none (Nat.le_refl _)]
theorem str_ext {a b : Str} (h : a.cps.toList = b.cps.toList) : a = b := by
  obtain ⟨x⟩ := a
  obtain ⟨y⟩ := b
  have e : x = y := by
    apply Array.ext'
    exact h
  rw [e]
def isV (s : Option SV) : Prop := s = none ∨ ∃ d, s = some (.val d)
theorem rng_at {n : Int} {i : Nat} {x : D} (h : (rngL 0 n)[i]? = some x) : x = .int i ∧ (i : Int) < n := by
  unfold rngL at h
  rw [List.getElem?_map] at h
  obtain ⟨k, hk, rfl⟩ := Option.map_eq_some_iff.mp h
  obtain ⟨h1, h2⟩ := List.getElem?_eq_some_iff.mp hk
  rw [List.length_range] at h1
  rw [List.getElem_range] at h2
  subst h2
  exact ⟨by simp, by omega⟩
theorem rng_len (n : Int) : (rngL 0 n).length = n.toNat := by
  unfold rngL
  rw [List.length_map, List.length_range, Int.sub_zero]
theorem comp_ok {call : CallT} {elt : VM.E} {tg : Tg} {it : Iv} {own : List Nat} {σ : Sg} {g g0 : Gs} {xs : List D} {Inv : Gs → Prop} {Rr : Nat → D → Prop} (hit : evIt Gam call it σ g = .ok (.fix xs) g0) (hl : xs.length ≤ 50000) (h0 : Inv g0)
    (step : ∀ i x g, xs[i]? = some x → Inv g → ∃ σ' y g', bindT g (wipeS σ own) x tg = some σ' ∧ evE Gam call elt σ' g = .ok y g' ∧ Rr i y ∧ Inv g') :
    ∃ ys g', evF Gam call (.comp elt tg it own .none) σ g = .ok (.l ys) g' ∧ ys.length = xs.length ∧ (∀ i y, ys[i]? = some y → Rr i y) ∧ Inv g' := by
  have L := fold_fix (xs := xs) (f := fun (acc : List D) x g => (match bindT g (wipeS σ own) x tg with
        | some σ' => (evOt Gam call .none σ' g).bind fun t g => if t then (evE Gam call elt σ' g).bind fun y g => if acc.length < sizeM then .ok (acc ++ [y]) g else .no else .ok acc g
        | none => .no).calm) (Inv := fun i acc g => acc.length = i ∧ (∀ j y, acc[j]? = some y → Rr j y) ∧ Inv g)
    (fun i x acc g hx hI => by
      obtain ⟨h1, h2, h3⟩ := hI
      obtain ⟨σ', y, g', e1, e2, e3, e4⟩ := step i x g hx h3
      have hi : i < xs.length := (List.getElem?_eq_some_iff.mp hx).1
      refine ⟨acc ++ [y], g', ?_, by rw [List.length_append, h1]; rfl, fun j z hj => ?_, e4⟩
      · rw [e1]
        simp only [evOt, Out.bind, if_true, e2]
        rw [if_pos (by rw [h1]; show i < 100000; omega)]
        rfl
      · by_cases q : j < acc.length
        · rw [List.getElem?_append_left q] at hj
          exact h2 j z hj
        · have hj2 := (List.getElem?_eq_some_iff.mp hj).1
          rw [List.length_append, List.length_singleton] at hj2
          have : j = i := by omega
          subst this
          rw [List.getElem?_append_right (by omega), h1, Nat.sub_self] at hj
          cases hj
          exact e3)
    (xs.length + 1) 0 [] g0 (by omega) (by omega) ⟨rfl, fun j y hj => by simp at hj, h0⟩
  obtain ⟨ys, g', e, h1, h2, h3⟩ := L
  refine ⟨ys, g', ?_, h1, h2, h3⟩
  have he : evF Gam call (.comp elt tg it own .none) σ g = (evIt Gam call it σ g).bind fun s g => (foldI (fun (acc : List D) x g => (match bindT g (wipeS σ own) x tg with
        | some σ' => (evOt Gam call .none σ' g).bind fun t g => if t then (evE Gam call elt σ' g).bind fun y g => if acc.length < sizeM then .ok (acc ++ [y]) g else .no else .ok acc g
        | none => .no).calm) s s.fuel 0 [] g).bind fun ys g => .ok (.l ys) g := by
    simp only [evF]
    all_goals rfl
  rw [he, hit]
  show (foldI _ (.fix xs) (xs.length + 1) 0 [] g0).bind _ = _
  rw [e]
  rfl
theorem loop_nx {body : Sg → Gs → Out R} {tg : Tg} {xs : List D} {m i : Nat} {σ σ1 σ2 : Sg} {g g2 : Gs} {x : D} (hx : xs[i]? = some x) (hb : bindT g σ x tg = some σ1) (e : body σ1 g = .ok (.nx, σ2) g2) : loopI body tg (.fix xs) (m + 1) i σ g = loopI body tg (.fix xs) m (i + 1) σ2 g2 := by
  have hat : (Src.fix xs).at i g = some xs[i]? := rfl
  rw [loopI, hat, hx]
  dsimp only
  rw [hb]
  dsimp only
  rw [e]
  rfl
theorem loop_rt {body : Sg → Gs → Out R} {tg : Tg} {xs : List D} {m i : Nat} {σ σ1 σ2 : Sg} {g g2 : Gs} {x : D} {v : RV} (hx : xs[i]? = some x) (hb : bindT g σ x tg = some σ1) (e : body σ1 g = .ok (.ret v, σ2) g2) : loopI body tg (.fix xs) (m + 1) i σ g = .ok (.ret v, σ2) g2 := by
  have hat : (Src.fix xs).at i g = some xs[i]? := rfl
  rw [loopI, hat, hx]
  dsimp only
  rw [hb]
  dsimp only
  rw [e]
  rfl
theorem loop_dn {body : Sg → Gs → Out R} {tg : Tg} {xs : List D} {m i : Nat} {σ : Sg} {g : Gs} (hx : xs[i]? = none) : loopI body tg (.fix xs) (m + 1) i σ g = .ok (.nx, σ) g := by
  have hat : (Src.fix xs).at i g = some xs[i]? := rfl
  rw [loopI, hat, hx]
theorem all_true (g : Gs) {ys : List D} (h : ∀ (i : Nat) (y : D), ys[i]? = some y → y = .bl true) : biD Gam g .all [.lst ys] = some (.bl true) := by
  have key : ∀ ys : List D, (∀ (i : Nat) (y : D), ys[i]? = some y → y = .bl true) → boolsL ys = some (List.replicate ys.length true) := by
    intro ys
    induction ys with
    | nil => intro _; rfl
    | cons y ys ih =>
      intro h
      have := h 0 y rfl
      subst this
      show (boolsL ys).map (true :: ·) = _
      rw [ih fun i z hz => h (i + 1) z hz]
      rfl
  show ((seqL g (.lst ys)).bind boolsL).map (fun l => D.bl (l.all id)) = _
  show (boolsL ys).map (fun l => D.bl (l.all id)) = _
  rw [key ys h]
  show some (D.bl ((List.replicate ys.length true).all id)) = _
  rw [List.all_eq_true.mpr fun x hx => by rw [List.eq_of_mem_replicate hx]; rfl]
theorem add_lst (g : Gs) {a b : List D} (h : a.length + b.length ≤ 100000) : binD g .add (.lst a) (.lst b) = some (.lst (a ++ b)) := by
  show (if a.length + b.length ≤ sizeM then some (D.lst (a ++ b)) else none) = _
  rw [if_pos (show a.length + b.length ≤ sizeM from h)]
theorem add_str (g : Gs) {a b : Str} (h : a.cps.size + b.cps.size ≤ 100000) : binD g .add (.str a) (.str b) = some (.str ⟨a.cps ++ b.cps⟩) := by
  show (if a.cps.size + b.cps.size ≤ sizeM then some (D.str ⟨a.cps ++ b.cps⟩) else none) = _
  rw [if_pos (show _ ≤ sizeM from h)]
theorem idx_lst (g : Gs) {xs : List D} {i : Nat} {x : D} (h : xs[i]? = some x) : idxD g (.lst xs) (.int (i : Int)) = some x := by
  have hi := (List.getElem?_eq_some_iff.mp h).1
  show atI xs (i : Int) = _
  unfold atI ixN
  rw [if_pos (by omega), if_pos (by omega)]
  show xs[(i : Int).toNat]? = _
  rw [show (i : Int).toNat = i from by omega]
  exact h
theorem evF_lst {call : CallT} {es : Es} {σ : Sg} {g : Gs} : evF Gam call (.lst es) σ g = (evEs Gam call es σ g).bind fun ds g => .ok (.l ds) g := by simp only [evF]
theorem list_eqA {α : Type} {ys xs : List α} (l : ys.length = xs.length) (h : ∀ (i : Nat) (y : α), ys[i]? = some y → xs[i]? = some y) : ys = xs := List.ext_getElem? fun i => by
  by_cases hi : i < ys.length
  · rw [List.getElem?_eq_getElem hi, h i _ (List.getElem?_eq_getElem hi)]
  · rw [List.getElem?_eq_none (by omega), List.getElem?_eq_none (by omega)]
theorem ss_one {call : CallT} {s : VM.S} {σ : Sg} {g : Gs} : evSs Gam call (.cons s .nil) σ g = evS Gam call s σ g := by
  simp only [evSs]
  cases evS Gam call s σ g with
  | ok r g =>
    obtain ⟨f, σ'⟩ := r
    cases f <;> rfl
  | ex c ds g => rfl
  | no => rfl
theorem if_f {call : CallT} {c : VM.T} {a : Ss} {s : VM.S} {σ : Sg} {g g' : Gs} (h : evT Gam call c σ g = .ok false g') : evS Gam call (.if_ c a (.cons s .nil)) σ g = evS Gam call s σ g' := by
  rw [← ss_one (s := s)]
  simp only [evS, h, Out.bind]
  rfl
theorem if_t {call : CallT} {c : VM.T} {a b : Ss} {σ : Sg} {g g' : Gs} (h : evT Gam call c σ g = .ok true g') : evS Gam call (.if_ c a b) σ g = evSs Gam call a σ g' := by
  simp only [evS, h, Out.bind]
  rfl
theorem if_e {call : CallT} {c : VM.T} {a b : Ss} {σ : Sg} {g g' : Gs} (h : evT Gam call c σ g = .ok false g') : evS Gam call (.if_ c a b) σ g = evSs Gam call b σ g' := by
  simp only [evS, h, Out.bind]
  rfl
theorem list_eq {ys xs : List D} (l : ys.length = xs.length) (h : ∀ (i : Nat) (y : D), ys[i]? = some y → xs[i]? = some y) : ys = xs := List.ext_getElem? fun i => by
  by_cases hi : i < ys.length
  · rw [List.getElem?_eq_getElem hi, h i _ (List.getElem?_eq_getElem hi)]
  · rw [List.getElem?_eq_none (by omega), List.getElem?_eq_none (by omega)]
theorem enum_len : ∀ (k : Nat) (xs : List D), (enumL k xs).length = xs.length
  | _, [] => rfl
  | k, x :: xs => by
    show (enumL (k + 1) xs).length + 1 = xs.length + 1
    rw [enum_len]
theorem enum_at : ∀ (xs : List D) (k i : Nat) {z : D}, (enumL k xs)[i]? = some z → ∃ y, z = .tup [.int ((k + i : Nat) : Int), y] ∧ xs[i]? = some y
  | [], k, i, z, h => by simp [enumL] at h
  | x :: xs, k, 0, z, h => by
    have h : some (D.tup [.int (k : Nat), x]) = some z := h
    cases h
    exact ⟨x, rfl, rfl⟩
  | x :: xs, k, i + 1, z, h => by
    have h : (enumL (k + 1) xs)[i]? = some z := h
    obtain ⟨y, e, h2⟩ := enum_at xs (k + 1) i h
    exact ⟨y, by rw [e]; congr 4; omega, h2⟩
abbrev cd (s : Str) : List Nat := s.cps.toList
theorem cd_len (s : Str) : (cd s).length = s.cps.size := Array.length_toList
def jn (sep : List Nat) : List (List Nat) → List Nat
  | [] => []
  | [p] => p
  | p :: q :: r => p ++ (sep ++ jn sep (q :: r))
def jns (sep : Str) (ss : List Str) : Str := strOf (jn (cd sep) (ss.map cd))
theorem cd_strOf (l : List Nat) : cd (strOf l) = l := rfl
theorem joinS_jn (sep : List Nat) : ∀ ss : List Str, joinS sep (ss.map D.str) = some (jn sep (ss.map cd))
  | [] => rfl
  | [s] => rfl
  | s :: t :: r => by
    show (joinS sep ((t :: r).map D.str)).map (fun u => s.cps.toList ++ sep ++ u) = _
    rw [joinS_jn sep (t :: r)]
    show some (s.cps.toList ++ sep ++ jn sep ((t :: r).map cd)) = some (s.cps.toList ++ (sep ++ jn sep ((t :: r).map cd)))
    rw [List.append_assoc]
theorem join_fact (g : Gs) {sep : Str} {ss : List Str} (h : (jn (cd sep) (ss.map cd)).length ≤ 100000) (h2 : sep.cps.size ≤ 100000) : bmD g (.str sep) .join [.lst (ss.map D.str)] = some (.str (jns sep ss)) := by
  show ((joinS sep.cps.toList (ss.map D.str)).bind fun t => if t.length ≤ sizeM ∧ sep.cps.size ≤ sizeM then some (D.str (strOf t)) else none) = _
  rw [joinS_jn]
  show (if (jn (cd sep) (ss.map cd)).length ≤ sizeM ∧ sep.cps.size ≤ sizeM then some (D.str (strOf (jn (cd sep) (ss.map cd)))) else none) = _
  rw [if_pos ⟨h, h2⟩]
  rfl
end VL

set_option maxRecDepth 20000
local macro_rules | `(tactic| simp! [$ts,*]) => `(tactic| simp only [VM.runF, VM.evSs, VM.evS, VM.evE, VM.evP, VM.evT, VM.evEs, VM.evF, VM.evOe, VM.evPs, VM.evIt, VM.evOt, VM.nx, VM.Out.bind, VM.Out.opt, VM.getV, VM.getM, VM.bindT, VM.bindTs, VM.fullV, VM.seqT, List.length_cons, List.length_nil, List.map_cons, List.map_nil, List.cons_append, List.nil_append, List.getElem?_cons_zero, List.getElem?_cons_succ, List.set_cons_zero, List.set_cons_succ, List.replicate, Nat.sub_self, Nat.reduceAdd, Nat.reduceSub, VL.cmp_isN, VL.cmp_isnN, VL.cmp_eqI, VL.cmp_neI, VM.truthD, if_true, if_false, reduceIte, Bool.not_true, Bool.not_false, Bool.false_eq_true, Option.map_some, Option.map_none, VM.RV.d0, VM.Fr.d0, $ts,*])
local macro_rules | `(tactic| dsimp! [$ts,*]) => `(tactic| simp only [VM.runF, VM.evSs, VM.evS, VM.evE, VM.evP, VM.evT, VM.evEs, VM.evOe, VM.evPs, VM.evIt, VM.evOt, VM.nx, VM.Out.bind, VM.Out.opt, VM.getV, VM.getM, VM.bindT, VM.bindTs, VM.fullV, VM.seqT, List.length_cons, List.length_nil, List.map_cons, List.map_nil, List.cons_append, List.nil_append, List.getElem?_cons_zero, List.getElem?_cons_succ, List.set_cons_zero, List.set_cons_succ, List.replicate, Nat.sub_self, Nat.reduceAdd, Nat.reduceSub, VL.cmp_isN, VL.cmp_isnN, VL.cmp_eqI, VL.cmp_neI, VM.truthD, if_true, if_false, reduceIte, Bool.not_true, Bool.not_false, Bool.false_eq_true, Option.map_some, Option.map_none, VM.RV.d0, VM.Fr.d0, $ts,*])
namespace VL
open PySem VM
/-! ### the pool of draws -/
def pk : List D := [.str "cells", .str "at", .str "rest", .str "seed", .str "count"]
def pv (cs : List Int) (a r s c : Int) : List D := [.lst (cs.map D.int), .int a, .int r, .int s, .int c]
structure PoolAt (b : Nat) (g : Gs) (p : Nat) : Prop where
  lt : p < g.next
  at_ : ∃ (cs : List Int) (a r s c : Int), g.cell p = some (.dct pk (pv cs a r s c)) ∧ 0 ≤ a ∧ a ≤ cs.length ∧ cs.length ≤ 63 ∧ 0 ≤ c ∧ c ≤ b
theorem PoolAt.mono {b b' : Nat} {g : Gs} {p : Nat} (h : PoolAt b g p) (hb : b ≤ b') : PoolAt b' g p := by
  obtain ⟨cs, a, r, s, c, h1, h2, h3, h4, h5, h6⟩ := h.at_
  exact ⟨h.lt, cs, a, r, s, c, h1, h2, h3, h4, h5, by omega⟩
/-- the store stays, numbers may have been given -/
structure Kq (g g' : Gs) : Prop where
  nx : g.next ≤ g'.next
  cell : g'.cell = g.cell
theorem Kq.refl (g : Gs) : Kq g g := ⟨Nat.le_refl _, rfl⟩
theorem Kq.trans {g g' g2 : Gs} (a : Kq g g') (b : Kq g' g2) : Kq g g2 := ⟨Nat.le_trans a.nx b.nx, b.cell.trans a.cell⟩
theorem Kq.bump (g : Gs) : Kq g g.bump := ⟨Nat.le_succ _, rfl⟩
theorem PoolAt.kq {b : Nat} {g g' : Gs} {p : Nat} (h : PoolAt b g p) (k : Kq g g') : PoolAt b g' p := ⟨Nat.lt_of_lt_of_le h.lt k.nx, by rw [k.cell]; exact h.at_⟩
theorem idx_dct (g : Gs) {p : Nat} {k : Str} {ks vs : List D} (h : g.cell p = some (.dct ks vs)) : idxD g (.glo p) (.str k) = keyFind (.str k) ks vs := by
  show (match g.cell p with
    | some (.lst xs) => none
    | some (.dct ks vs) => (keyAt (.str k) ks vs).bind id
    | _ => none) = _
  rw [h]
  rfl
theorem kf_cells (a b c d e : D) : keyFind (.str "cells") pk [a, b, c, d, e] = some a := rfl
theorem kf_at (a b c d e : D) : keyFind (.str "at") pk [a, b, c, d, e] = some b := rfl
theorem kf_rest (a b c d e : D) : keyFind (.str "rest") pk [a, b, c, d, e] = some c := rfl
theorem kf_seed (a b c d e : D) : keyFind (.str "seed") pk [a, b, c, d, e] = some d := rfl
theorem kf_count (a b c d e : D) : keyFind (.str "count") pk [a, b, c, d, e] = some e := rfl
theorem pd_at (a b c d e x : D) : putD (.str "at") x pk [a, b, c, d, e] = some (pk, [a, x, c, d, e]) := rfl
theorem pd_rest (a b c d e x : D) : putD (.str "rest") x pk [a, b, c, d, e] = some (pk, [a, b, x, d, e]) := rfl
theorem pd_count (a b c d e x : D) : putD (.str "count") x pk [a, b, c, d, e] = some (pk, [a, b, c, d, x]) := rfl
theorem modM (g : Gs) (a : Int) : binD g .mod (.int a) (.int 2147483647) = some (.int (a % 2147483647)) := rfl
theorem modM2 (g : Gs) (a : Int) : binD g .mod (.int a) (.int 2147483399) = some (.int (a % 2147483399)) := rfl
theorem div1 (g : Gs) (a : Int) : binD g .fdiv (.int a) (.int 1009) = some (.int (a / 1009)) := rfl
theorem div2 (g : Gs) (a : Int) : binD g .fdiv (.int a) (.int 2003) = some (.int (a / 2003)) := rfl
theorem mulM (g : Gs) (a b : Int) : binD g .mul (.int (a % 2147483647)) (.int b) = some (.int (a % 2147483647 * b)) := bin_mulL _ _ _ ⟨by omega, by omega⟩
theorem mulA (g : Gs) (a : Int) : binD g .mul (.int 7919) (.int a) = some (.int (7919 * a)) := bin_mulL _ _ _ (by decide)
theorem mulB (g : Gs) (a : Int) : binD g .mul (.int 104729) (.int a) = some (.int (104729 * a)) := bin_mulL _ _ _ (by decide)
theorem mulC (g : Gs) (a : Int) : binD g .mul (.int a) (.int 48271) = some (.int (a * 48271)) := bin_mulR _ _ _ (by decide)
theorem mix_ok (n : Nat) (x : Int) {k : Int} (h0 : 0 ≤ k) (h1 : k < 1000000000) (g : Gs) : ∃ y, callN Gam ini (n + 1) 555 [.int x, .int k] g = .ok (.v (.int y)) g := by
  rw [show callN Gam ini (n + 1) 555 [.int x, .int k] g = runF Gam (callN Gam ini n) f__law_mix [.int x, .int k] g from rfl]
  have hk : ∀ g a, binD g .mul (.int a) (.int k) = some (.int (a * k)) := fun g a => bin_mulR _ _ _ ⟨by omega, by omega⟩
  simp! [f__law_mix, mulA, mulB, hk, mulC, modM, modM2, div1, div2, mulM, VL.bin_add, bi_int]
  exact ⟨_, rfl⟩
theorem cells_at {cs : List Int} {a : Int} (h0 : 0 ≤ a) (h : a < cs.length) : ∃ z, ∀ g, idxD g (.lst (cs.map D.int)) (.int a) = some (.int z) := by
  have hb : a.toNat < cs.length := by omega
  refine ⟨cs[a.toNat], fun g => ?_⟩
  show atI (cs.map D.int) a = _
  unfold atI VM.ixN
  rw [List.length_map, if_pos h0, if_pos h]
  show (cs.map D.int)[a.toNat]? = _
  rw [List.getElem?_map, List.getElem?_eq_getElem hb]
  rfl
theorem len_cells (g : Gs) (cs : List Int) : lenD g (.lst (cs.map D.int)) = some cs.length := by
  show some (cs.map D.int).length = _
  rw [List.length_map]
theorem draw_ok (n : Nat) {b : Nat} {g : Gs} {p : Nat} (h : PoolAt b g p) (hb : b < 100000000) {m : Int} (hm : 0 < m) (hm2 : m < 1073741824) :
    ∃ r g', callN Gam ini (n + 2) 13 [.glo p, .int m] g = .ok (.v (.int r)) g' ∧ 0 ≤ r ∧ r < m ∧ PoolAt (b + 1) g' p := by
  rw [show callN Gam ini (n + 2) 13 [.glo p, .int m] g = runF Gam (callN Gam ini (n + 1)) f__law_draw [.glo p, .int m] g from rfl]
  obtain ⟨cs, a, r, s, c, hc, a0, a1, a2, c0, c1⟩ := h.at_
  have hM : ∀ (g : Gs) (x : Int), binD g .fdiv (.int x) (.int m) = some (.int (x / m)) := fun g x => bin_fdiv g x m ⟨hm, hm2⟩
  have hR : ∀ (g : Gs) (x : Int), binD g .mod (.int x) (.int m) = some (.int (x % m)) := fun g x => bin_mod g x m hm
  have r0 : ∀ x : Int, 0 ≤ x % m := fun x => Int.emod_nonneg x (by omega)
  have r1 : ∀ x : Int, x % m < m := fun x => Int.emod_lt_of_pos x hm
  have ix : ∀ (g : Gs) {cs : List Int} {a r s c : Int}, g.cell p = some (.dct pk (pv cs a r s c)) → idxD g (.glo p) (.str "cells") = some (.lst (cs.map D.int)) ∧ idxD g (.glo p) (.str "at") = some (.int a) ∧ idxD g (.glo p) (.str "rest") = some (.int r) ∧ idxD g (.glo p) (.str "seed") = some (.int s) ∧ idxD g (.glo p) (.str "count") = some (.int c) := fun g cs a r s c h => by
    refine ⟨?_, ?_, ?_, ?_, ?_⟩ <;> rw [idx_dct g h] <;> rfl
  obtain ⟨i1, i2, i3, i4, i5⟩ := ix g hc
  have pl : ∀ {b' : Nat} (a' r' c' : Int), 0 ≤ a' → a' ≤ cs.length → 0 ≤ c' → c' ≤ b' → PoolAt b' (g.set p (.dct pk (pv cs a' r' s c'))) p := fun a' r' c' h1 h2 h3 h4 => ⟨h.lt, cs, a', r', s, c', if_pos rfl, h1, h2, a2, h3, h4⟩
  by_cases h1 : 0 < r
  · simp! [f__law_draw, i3, cmp_gt, h1, decide_true, hR, hM, bi_int, hc, pv, pd_rest]
    exact ⟨_, _, rfl, r0 _, r1 _, pl a (r / m) c a0 a1 c0 (by omega)⟩
  · by_cases h2 : a < cs.length
    · obtain ⟨z, hz⟩ := cells_at a0 h2
      let g2 : Gs := g.set p (.dct pk (pv cs (a + 1) r s c))
      have hc2 : g2.cell p = some (.dct pk (pv cs (a + 1) r s c)) := if_pos rfl
      obtain ⟨j1, j2, j3, j4, j5⟩ := ix g2 hc2
      by_cases h3 : z < 1000000000000000000
      · obtain ⟨y, hy⟩ := mix_ok n (z % 2147483647) (k := a + 1) (by omega) (by omega) g2
        have e1 : g.set p (.dct pk [.lst (cs.map D.int), .int (a + 1), .int r, .int s, .int c]) = g2 := rfl
        simp! [f__law_draw, i1, i2, i3, cmp_gt, cmp_lt, cmp_ge, len_cells, pow18, h1, h2, h3, decide_true, decide_false, hz, VL.bin_add, hc, pv, pd_at, e1, j2, hR, hM, bi_int, modM, hy]
        exact ⟨_, _, rfl, r0 _, r1 _, pl (a + 1) r c (by omega) (by omega) c0 (by omega)⟩
      · have e1 : g.set p (.dct pk [.lst (cs.map D.int), .int (a + 1), .int r, .int s, .int c]) = g2 := rfl
        have hc3 : g2.cell p = some (.dct pk [.lst (cs.map D.int), .int (a + 1), .int r, .int s, .int c]) := hc2
        have e2 : g2.set p (.dct pk [.lst (cs.map D.int), .int (a + 1), .int (z / m), .int s, .int c]) = g.set p (.dct pk (pv cs (a + 1) (z / m) s c)) := set_set _ _ _ _
        simp! [f__law_draw, i1, i2, i3, cmp_gt, cmp_lt, cmp_ge, len_cells, pow18, h1, h2, h3, decide_true, decide_false, hz, VL.bin_add, hc, pv, pd_at, e1, hc3, pd_rest, e2, hR, hM, bi_int]
        exact ⟨_, _, rfl, r0 _, r1 _, pl (a + 1) (z / m) c (by omega) (by omega) c0 (by omega)⟩
    · let g2 : Gs := g.set p (.dct pk (pv cs a r s (c + 1)))
      have hc2 : g2.cell p = some (.dct pk (pv cs a r s (c + 1))) := if_pos rfl
      obtain ⟨j1, j2, j3, j4, j5⟩ := ix g2 hc2
      obtain ⟨y, hy⟩ := mix_ok n s (k := c + 1) (by omega) (by omega) g2
      have e1 : g.set p (.dct pk [.lst (cs.map D.int), .int a, .int r, .int s, .int (c + 1)]) = g2 := rfl
      simp! [f__law_draw, i1, i2, i3, i5, cmp_gt, cmp_lt, cmp_ge, len_cells, h1, h2, decide_true, decide_false, VL.bin_add, hc, pv, pd_count, e1, j4, j5, hR, hM, bi_int, hy]
      exact ⟨_, _, rfl, r0 _, r1 _, pl a r (c + 1) a0 a1 (by omega) (by omega)⟩
theorem drawN (n : Nat) {b : Nat} {g : Gs} {p : Nat} (h : PoolAt b g p) (hb : b < 100000000) {m : Nat} (hm : 0 < m) (hm2 : m < 1073741824) :
    ∃ (r : Nat) (g' : Gs), callN Gam ini (n + 2) 13 [.glo p, .int (m : Nat)] g = .ok (.v (.int r)) g' ∧ r < m ∧ PoolAt (b + 1) g' p := by
  obtain ⟨r, g', e, h0, h1, k⟩ := draw_ok n h hb (m := m) (by omega) (by omega)
  exact ⟨r.toNat, g', by rw [show ((r.toNat : Nat) : Int) = r from by omega]; exact e, by omega, k⟩
theorem drawI (n : Nat) {b : Nat} {g : Gs} {p : Nat} (h : PoolAt b g p) (hb : b < 100000000) {m : Int} (hm : 0 < m) (hm2 : m < 1073741824) :
    ∃ (r : Nat) (g' : Gs), callN Gam ini (n + 2) 13 [.glo p, .int m] g = .ok (.v (.int r)) g' ∧ (r : Int) < m ∧ PoolAt (b + 1) g' p := by
  obtain ⟨r, g', e, h0, h1, k⟩ := draw_ok n h hb hm hm2
  exact ⟨r.toNat, g', by rw [show ((r.toNat : Nat) : Int) = r from by omega]; exact e, by omega, k⟩
/-! ### the pool is made -/
theorem draws_ok (n : Nat) (ns : List Int) (g : Gs) : ∃ (cs : List Int) (s : Int), cs.length ≤ 63 ∧ callN Gam ini (n + 2) 560 [.kst (ns.map D.int)] g = .ok (.f (.d pk (pv cs 0 0 s 0))) g := by
  rw [show callN Gam ini (n + 2) 560 [.kst (ns.map D.int)] g = runF Gam (callN Gam ini (n + 1)) f__law_draws [.kst (ns.map D.int)] g from rfl]
  let cs := ns.take 63
  have hsl : slD g (.kst (ns.map D.int)) none (some 63) = some (.lst (cs.map D.int)) := by
    show some (D.lst (cutL (ns.map D.int) none (some 63))) = _
    congr 2
    show ((ns.map D.int).drop 0).take (min 63 (ns.map D.int).length - 0) = _
    rw [List.drop_zero, Nat.sub_zero, ← List.map_take, List.length_map]
    show (ns.take (min 63 ns.length)).map D.int = (ns.take 63).map D.int
    congr 1
    by_cases q : 63 ≤ ns.length
    · rw [Nat.min_eq_left q]
    · rw [Nat.min_eq_right (by omega), List.take_of_length_le (Nat.le_refl _)]
      exact (List.take_of_length_le (by omega)).symm
  have hcs : cs.length ≤ 63 := by
    show (ns.take 63).length ≤ 63
    rw [List.length_take]
    omega
  have hli : evF Gam (callN Gam ini (n + 1)) (.list (.e (.sl (.e (.v 0)) .none (.some (.cst (.int 63)))))) [(some (SV.val (.kst (ns.map D.int)))), none, none, none] g = .ok (.l (cs.map D.int)) g := by
    dsimp! [evF, hsl, seqA, seqL, Out.optL]
  let σ (x : Int) (t : Option SV) : Sg := [(some (SV.val (.kst (ns.map D.int)))), (some (SV.val (.lst (cs.map D.int)))), (some (SV.val (.int x))), t]
  have L := loop_fix (xs := cs.map D.int) (tg := .n 3) (Q := fun _ _ => False) (body := fun σ g => evSs Gam (callN Gam ini (n + 1)) f__law_draws_b1 σ g)
    (Inv := fun i σ' g' => g' = g ∧ ∃ x t, isV t ∧ σ' = σ x t)
    (fun i z σ' g' hz hI => by
      obtain ⟨rfl, x, t, ht, rfl⟩ := hI
      rw [List.getElem?_map] at hz
      obtain ⟨c, _, rfl⟩ := Option.map_eq_some_iff.mp hz
      refine ⟨σ x (some (SV.val (.int c))), by rcases ht with rfl | ⟨d, rfl⟩ <;> rfl, .inl ?_⟩
      obtain ⟨y, hy⟩ := mix_ok n (x + c % 2147483647) (k := 5) (by decide) (by decide) g'
      refine ⟨σ y (some (SV.val (.int c))), g', ?_, rfl, y, _, .inr ⟨_, rfl⟩, rfl⟩
      simp! [f__law_draws_b1, σ, bi_int, modM, VL.bin_add, hy])
    ((cs.map D.int).length + 1) 0 (σ 29 none) g (by omega) (by omega) ⟨rfl, 29, none, .inl rfl, rfl⟩
  rcases L with ⟨_, g', e, rfl, x, t, ht, rfl⟩ | ⟨_, _, _, _, z⟩
  · refine ⟨cs, x, hcs, ?_⟩
    have e : loopI (fun σ g => evSs Gam (callN Gam ini (n + 1)) f__law_draws_b1 σ g) (.n 3) (.fix (cs.map D.int)) (Src.fuel (.fix (cs.map D.int))) 0 [(some (SV.val (.kst (ns.map D.int)))), (some (SV.val (.lst (cs.map D.int)))), (some (SV.val (.int 29))), none] g' = .ok (.nx, σ x t) g' := e
    have so : srcOf (.lst (cs.map D.int)) g' = .ok (.fix (cs.map D.int)) g' := rfl
    have hpr : evF Gam (callN Gam ini (n + 1)) (.dlit (.cons (.cst (.str "cells")) (.v 1) (.cons (.cst (.str "at")) (.cst (.int 0)) (.cons (.cst (.str "rest")) (.cst (.int 0)) (.cons (.cst (.str "seed")) (.v 2) (.cons (.cst (.str "count")) (.cst (.int 0)) .nil)))))) (σ x t) g' = .ok (.d pk (pv cs 0 0 x 0)) g' := by
      simp only [evF, evPr, evE, Out.bind, Out.opt, σ, getV, List.getElem?_cons_zero, List.getElem?_cons_succ]
      rfl
    dsimp! [f__law_draws, hli, Fr.dI, Fr.gI, so, e]
    rw [hpr]
  · exact z.elim
end VL

set_option maxRecDepth 20000
namespace VL
open PySem VM
/-! ### plain texts -/
structure Tx (m : Nat) (s : Str) : Prop where
  len : (cd s).length ≤ m
  asc : ∀ c ∈ cd s, c < 128
theorem Tx.mono {m m' : Nat} {s : Str} (h : Tx m s) (hm : m ≤ m') : Tx m' s := ⟨Nat.le_trans h.len hm, h.asc⟩
theorem Tx.size {m : Nat} {s : Str} (h : Tx m s) : s.cps.size ≤ m := by rw [← cd_len]; exact h.len
def ap (s t : Str) : Str := ⟨s.cps ++ t.cps⟩
theorem cd_ap (s t : Str) : cd (ap s t) = cd s ++ cd t := by
  show (s.cps ++ t.cps).toList = _
  rw [Array.toList_append]
theorem Tx.ap {a b : Nat} {s t : Str} (h : Tx a s) (k : Tx b t) : Tx (a + b) (ap s t) := by
  refine ⟨by rw [cd_ap, List.length_append]; exact Nat.add_le_add h.len k.len, fun c hc => ?_⟩
  rw [cd_ap] at hc
  rcases List.mem_append.mp hc with hc | hc
  · exact h.asc c hc
  · exact k.asc c hc
theorem add_tx (g : Gs) {a b : Nat} {s t : Str} (h : Tx a s) (k : Tx b t) (hz : a + b ≤ 100000) : binD g .add (.str s) (.str t) = some (.str (ap s t)) :=
  add_str g (by have := h.size; have := k.size; omega)
theorem ch_tx {c : Nat} (h : c < 128) : Tx 1 (⟨#[c]⟩ : Str) := ⟨Nat.le_refl _, fun d hd => by
  have hd : d ∈ [c] := hd
  rw [List.mem_singleton.mp hd]
  exact h⟩
theorem strOf_tx {m : Nat} {l : List Nat} (h1 : l.length ≤ m) (h2 : ∀ c ∈ l, c < 128) : Tx m (strOf l) := ⟨h1, h2⟩
theorem cut_mem {l : List Nat} {lo hi : Option Int} {c : Nat} (h : c ∈ cutL l lo hi) : c ∈ l := List.mem_of_mem_drop (List.mem_of_mem_take h)
theorem cut_len (l : List Nat) (lo hi : Option Int) : (cutL l lo hi).length ≤ l.length := by
  unfold cutL
  rw [List.length_take, List.length_drop]
  omega
theorem sl_tx (g : Gs) {m : Nat} {s : Str} (h : Tx m s) (hm : m ≤ 100000) (lo hi : Option Int) : ∃ t, slD g (.str s) lo hi = some (.str t) ∧ Tx m t := by
  refine ⟨strOf (cutL (cd s) lo hi), ?_, strOf_tx (Nat.le_trans (cut_len _ _ _) h.len) fun c hc => h.asc c (cut_mem hc)⟩
  show (if s.cps.size ≤ sizeM then some (D.str (strOf (cutL s.cps.toList lo hi))) else none) = _
  rw [if_pos (by have := h.size; show s.cps.size ≤ 100000; omega)]
theorem at_nat {α : Type} {xs : List α} {i : Nat} (h : i < xs.length) : atI xs (i : Int) = some xs[i] := by
  unfold atI VM.ixN
  rw [if_pos (by omega), if_pos (by omega)]
  show xs[(i : Int).toNat]? = _
  rw [show (i : Int).toNat = i from by omega]
  exact List.getElem?_eq_getElem h
theorem idx_tx (g : Gs) {m : Nat} {s : Str} (h : Tx m s) (hm : m ≤ 100000) {r : Nat} (hr : r < (cd s).length) : ∃ c, c < 128 ∧ idxD g (.str s) (.int (r : Nat)) = some (.str ⟨#[c]⟩) := by
  refine ⟨(cd s)[r], h.asc _ (List.getElem_mem hr), ?_⟩
  show (if s.cps.size ≤ sizeM then (atI (cd s) (r : Int)).map ch else none) = _
  rw [if_pos (by have := h.size; show s.cps.size ≤ 100000; omega), at_nat hr]
  rfl
theorem idxL (g : Gs) (xs : List D) {r : Nat} (h : r < xs.length) : idxD g (.lst xs) (.int (r : Nat)) = some xs[r] := by
  show atI xs (r : Int) = _
  exact at_nat h
/-- one of written texts -/
theorem idx_strs (g : Gs) {ss : List Str} {r : Nat} (h : r < ss.length) : idxD g (.lst (ss.map D.str)) (.int (r : Nat)) = some (.str ss[r]) := by
  rw [idxL g _ (by rw [List.length_map]; exact h), List.getElem_map]
theorem digs_len (n : Nat) : (digs n).length ≤ 2 := by
  unfold digs
  split
  · exact Nat.le_succ 1
  · exact Nat.le_refl 2
theorem digs_asc {n : Nat} (h : n < 100) : ∀ c ∈ digs n, 48 ≤ c ∧ c ≤ 57 := by
  intro c hc
  unfold digs at hc
  split at hc
  · rw [List.mem_singleton] at hc
    omega
  · rcases List.mem_cons.mp hc with rfl | hc
    · omega
    · rw [List.mem_singleton] at hc
      omega
def dg (n : Nat) : Str := strOf (digs n)
theorem dg_tx {n : Nat} (h : n < 100) : Tx 2 (dg n) := strOf_tx (digs_len n) fun c hc => by have := digs_asc h c hc; omega
theorem str_int (g : Gs) {r : Nat} (h : r < 100) : biD Gam g .str [.int (r : Nat)] = some (.str (dg r)) := by
  show (if 0 ≤ (r : Int) ∧ (r : Int) < 100 then some (D.str (strOf (digs (r : Int).toNat))) else none) = _
  rw [if_pos ⟨by omega, by omega⟩, show (r : Int).toNat = r from by omega]
  rfl
/-! ### a comprehension, with a count -/
theorem comp_okI {call : CallT} {elt : VM.E} {tg : Tg} {it : Iv} {own : List Nat} {σ : Sg} {g g0 : Gs} {xs : List D} {Inv : Nat → Gs → Prop} {Rr : Nat → D → Prop} (hit : evIt Gam call it σ g = .ok (.fix xs) g0) (hl : xs.length ≤ 50000) (h0 : Inv 0 g0)
    (step : ∀ i x g, xs[i]? = some x → Inv i g → ∃ σ' y g', bindT g (wipeS σ own) x tg = some σ' ∧ evE Gam call elt σ' g = .ok y g' ∧ Rr i y ∧ Inv (i + 1) g') :
    ∃ ys g', evF Gam call (.comp elt tg it own .none) σ g = .ok (.l ys) g' ∧ ys.length = xs.length ∧ (∀ i y, ys[i]? = some y → Rr i y) ∧ Inv xs.length g' := by
  have L := fold_fix (xs := xs) (f := fun (acc : List D) x g => (match bindT g (wipeS σ own) x tg with
        | some σ' => (evOt Gam call .none σ' g).bind fun t g => if t then (evE Gam call elt σ' g).bind fun y g => if acc.length < sizeM then .ok (acc ++ [y]) g else .no else .ok acc g
        | none => .no).calm) (Inv := fun i acc g => acc.length = i ∧ (∀ j y, acc[j]? = some y → Rr j y) ∧ Inv i g)
    (fun i x acc g hx hI => by
      obtain ⟨h1, h2, h3⟩ := hI
      obtain ⟨σ', y, g', e1, e2, e3, e4⟩ := step i x g hx h3
      have hi : i < xs.length := (List.getElem?_eq_some_iff.mp hx).1
      refine ⟨acc ++ [y], g', ?_, by rw [List.length_append, h1]; rfl, fun j z hj => ?_, e4⟩
      · rw [e1]
        simp only [evOt, Out.bind, if_true, e2]
        rw [if_pos (by rw [h1]; show i < 100000; omega)]
        rfl
      · by_cases q : j < acc.length
        · rw [List.getElem?_append_left q] at hj
          exact h2 j z hj
        · have hj2 := (List.getElem?_eq_some_iff.mp hj).1
          rw [List.length_append, List.length_singleton] at hj2
          have : j = i := by omega
          subst this
          rw [List.getElem?_append_right (by omega), h1, Nat.sub_self] at hj
          cases hj
          exact e3)
    (xs.length + 1) 0 [] g0 (by omega) (by omega) ⟨rfl, fun j y hj => by simp at hj, h0⟩
  obtain ⟨ys, g', e, h1, h2, h3⟩ := L
  refine ⟨ys, g', ?_, h1, h2, h3⟩
  have he : evF Gam call (.comp elt tg it own .none) σ g = (evIt Gam call it σ g).bind fun s g => (foldI (fun (acc : List D) x g => (match bindT g (wipeS σ own) x tg with
        | some σ' => (evOt Gam call .none σ' g).bind fun t g => if t then (evE Gam call elt σ' g).bind fun y g => if acc.length < sizeM then .ok (acc ++ [y]) g else .no else .ok acc g
        | none => .no).calm) s s.fuel 0 [] g).bind fun ys g => .ok (.l ys) g := by
    simp only [evF]
    all_goals rfl
  rw [he, hit]
  show (foldI _ (.fix xs) (xs.length + 1) 0 [] g0).bind _ = _
  rw [e]
  rfl
theorem strs_of {xs : List D} {P : Str → Prop} (h : ∀ (i : Nat) (y : D), xs[i]? = some y → ∃ s, y = .str s ∧ P s) : ∃ ss : List Str, xs = ss.map D.str ∧ ∀ s ∈ ss, P s := by
  induction xs with
  | nil => exact ⟨[], rfl, fun s hs => (List.not_mem_nil hs).elim⟩
  | cons x xs ih =>
    obtain ⟨s, rfl, hs⟩ := h 0 x rfl
    obtain ⟨ss, rfl, h2⟩ := ih fun i y hy => h (i + 1) y hy
    exact ⟨s :: ss, rfl, fun t ht => (List.mem_cons.mp ht).elim (fun e => by rw [e]; exact hs) (h2 t)⟩
def tot (ss : List Str) : Nat := (ss.map fun s => (cd s).length).sum
theorem jn_tot {sep : List Nat} : ∀ ss : List Str, (jn sep (ss.map cd)).length ≤ tot ss + ss.length * sep.length
  | [] => Nat.zero_le _
  | [s] => by
    show (cd s).length ≤ ((cd s).length + 0) + 1 * sep.length
    omega
  | s :: t :: r => by
    have := jn_tot (sep := sep) (t :: r)
    show (cd s ++ (sep ++ jn sep ((t :: r).map cd))).length ≤ ((cd s).length + tot (t :: r)) + ((t :: r).length + 1) * sep.length
    rw [List.length_append, List.length_append, Nat.add_mul, Nat.one_mul]
    omega
theorem tot_le {m : Nat} : ∀ {ss : List Str}, (∀ s ∈ ss, (cd s).length ≤ m) → tot ss ≤ ss.length * m
  | [], _ => Nat.zero_le _
  | s :: r, h => by
    have h1 := h s (List.mem_cons_self ..)
    have h2 := tot_le (m := m) (ss := r) fun t ht => h t (List.mem_cons_of_mem _ ht)
    show (cd s).length + tot r ≤ (r.length + 1) * m
    rw [Nat.add_mul, Nat.one_mul]
    omega
theorem tot_mem : ∀ {ss : List Str} {s : Str}, s ∈ ss → (cd s).length ≤ tot ss
  | [], _, h => by cases h
  | t :: r, s, h => by
    show (cd s).length ≤ (cd t).length + tot r
    rcases List.mem_cons.mp h with rfl | h
    · omega
    · have := tot_mem h
      omega
theorem tot_set : ∀ {ss : List Str} {k : Nat} {t : Str} (hk : k < ss.length), tot (ss.set k t) + (cd ss[k]).length = tot ss + (cd t).length
  | s :: r, 0, t, hk => by
    show ((cd t).length + tot r) + (cd s).length = ((cd s).length + tot r) + (cd t).length
    omega
  | s :: r, k + 1, t, hk => by
    have hk' : k < r.length := by simpa using hk
    have := tot_set (ss := r) (k := k) (t := t) hk'
    show ((cd s).length + tot (r.set k t)) + (cd r[k]).length = ((cd s).length + tot r) + (cd t).length
    omega
theorem jn_mem {sep : List Nat} {c : Nat} : ∀ {ps : List (List Nat)}, c ∈ jn sep ps → c ∈ sep ∨ ∃ p ∈ ps, c ∈ p
  | [], h => by cases h
  | [p], h => .inr ⟨p, List.mem_cons_self .., h⟩
  | p :: q :: r, h => by
    have h : c ∈ p ++ (sep ++ jn sep (q :: r)) := h
    rcases List.mem_append.mp h with h | h
    · exact .inr ⟨p, List.mem_cons_self .., h⟩
    · rcases List.mem_append.mp h with h | h
      · exact .inl h
      · rcases jn_mem h with h | ⟨x, h1, h2⟩
        · exact .inl h
        · exact .inr ⟨x, List.mem_cons_of_mem _ h1, h2⟩
end VL

set_option maxRecDepth 20000
namespace VL
open PySem VM
abbrev sg1 : Str := " !\"#$&'()*+,-./0123456789:;<=>?@ABCDEFGHIJKLMNOPQRSTUVWXYZ[\\]^_`"
abbrev sg2 : Str := "abcdefghijklmnopqrstuvwxyz{|}~\n"
abbrev abc : Str := "abcdefghijklmnopqrstuvwxyz"
theorem txc {s : Str} {m : Nat} (h : ((cd s).length ≤ m ∧ (cd s).all (fun c => decide (c < 128)) = true)) : Tx m s := ⟨h.1, fun c hc => of_decide_eq_true (List.all_eq_true.mp h.2 c hc)⟩
theorem sg_tx : Tx 95 (ap sg1 sg2) := txc (by decide +kernel)
theorem sg_len : (cd (ap sg1 sg2)).length = 95 := by decide +kernel
theorem sign_ok (n : Nat) {b : Nat} {g : Gs} {p : Nat} (h : PoolAt b g p) (hb : b < 10000000) : ∃ s g', callN Gam ini (n + 3) 563 [.glo p] g = .ok (.v (.str s)) g' ∧ Tx 1 s ∧ PoolAt (b + 1) g' p := by
  rw [show callN Gam ini (n + 3) 563 [.glo p] g = runF Gam (callN Gam ini (n + 2)) f__law_sign [.glo p] g from rfl]
  obtain ⟨r, g1, e, h1, k1⟩ := drawN n h (by omega) (m := 95) (by decide) (by decide)
  have e : callN Gam ini (n + 2) 13 [.glo p, .int 95] g = .ok (.v (.int r)) g1 := e
  have a : ∀ g, binD g .add (.str sg1) (.str sg2) = some (.str (ap sg1 sg2)) := fun g => add_tx (a := 100) (b := 100) g (txc (by decide +kernel)) (txc (by decide +kernel)) (by decide)
  obtain ⟨c, hc, i⟩ := idx_tx g1 sg_tx (by decide) (r := r) (by rw [sg_len]; exact h1)
  simp! [f__law_sign, a, e, i]
  exact ⟨_, _, rfl, ch_tx hc, k1⟩
def kindsL : List Str := ["end", "put", "wish", "take", "answer"]
def Nm (s : Str) : Prop := 1 ≤ (cd s).length ∧ (cd s).length ≤ 8 ∧ ∀ c ∈ cd s, 97 ≤ c ∧ c ≤ 122
theorem Nm.tx {s : Str} (h : Nm s) : Tx 8 s := ⟨h.2.1, fun c hc => by have := h.2.2 c hc; omega⟩
theorem kinds_nm : ∀ s ∈ kindsL, Nm s := by
  have : ∀ s ∈ kindsL, 1 ≤ (cd s).length ∧ (cd s).length ≤ 8 ∧ (cd s).all (fun c => decide (97 ≤ c) && decide (c ≤ 122)) = true := by decide +kernel
  intro s hs
  obtain ⟨h1, h2, h3⟩ := this s hs
  refine ⟨h1, h2, fun c hc => ?_⟩
  have := List.all_eq_true.mp h3 c hc
  rw [Bool.and_eq_true, decide_eq_true_eq, decide_eq_true_eq] at this
  exact this
theorem abc_nat : ∀ n : Fin 26, (cd abc)[n.val]? = some (97 + n.val) := by decide +kernel
theorem abc_idx (g : Gs) {r : Nat} (h : r < 26) : idxD g (.str abc) (.int (r : Nat)) = some (.str ⟨#[97 + r]⟩) := by
  have hl : (cd abc).length = 26 := by decide +kernel
  show (if abc.cps.size ≤ sizeM then (atI (cd abc) (r : Int)).map ch else none) = _
  rw [if_pos (by decide +kernel), at_nat (by omega)]
  have hr : r < (cd abc).length := by omega
  have e := abc_nat ⟨r, h⟩
  rw [List.getElem?_eq_getElem hr] at e
  show some (D.str ⟨#[(cd abc)[r]'hr]⟩) = _
  have e : (cd abc)[r]'hr = 97 + r := Option.some.inj e
  rw [e]
theorem jn0 : ∀ ps : List (List Nat), jn [] ps = ps.flatten
  | [] => rfl
  | [p] => by
    show p = p ++ []
    rw [List.append_nil]
  | p :: q :: r => by
    show p ++ ([] ++ jn [] (q :: r)) = p ++ (q :: r).flatten
    rw [jn0 (q :: r)]
    rfl
theorem flat_ones {ss : List Str} (h : ∀ s ∈ ss, (cd s).length = 1) : ((ss.map cd).flatten).length = ss.length := by
  induction ss with
  | nil => rfl
  | cons s r ih =>
    rw [List.map_cons, List.flatten_cons, List.length_append, ih fun t ht => h t (List.mem_cons_of_mem _ ht), h s (List.mem_cons_self ..), List.length_cons]
    omega
theorem name_ok (n : Nat) {b : Nat} {g : Gs} {p : Nat} (h : PoolAt b g p) (hb : b < 10000000) : ∃ s g', callN Gam ini (n + 3) 16 [.glo p] g = .ok (.v (.str s)) g' ∧ Nm s ∧ PoolAt (b + 10) g' p := by
  rw [show callN Gam ini (n + 3) 16 [.glo p] g = runF Gam (callN Gam ini (n + 2)) f__law_name [.glo p] g from rfl]
  obtain ⟨r, g1, e, h1, k1⟩ := drawN n h (by omega) (m := 4) (by decide) (by decide)
  have e : callN Gam ini (n + 2) 13 [.glo p, .int 4] g = .ok (.v (.int r)) g1 := e
  by_cases q : r = 0
  · obtain ⟨r2, g2, e2, h2, k2⟩ := drawN n k1 (by omega) (m := 5) (by decide) (by decide)
    have e2 : callN Gam ini (n + 2) 13 [.glo p, .int 5] g1 = .ok (.v (.int r2)) g2 := e2
    have i : idxD g2 (.lst [.str "end", .str "put", .str "wish", .str "take", .str "answer"]) (.int r2) = some (.str kindsL[r2]) := idx_strs g2 (ss := kindsL) h2
    have c0 : decide (((r : Nat) : Int) = 0) = true := decide_eq_true (by omega)
    simp! [f__law_name, e, c0, Fr.dI, Fr.gI, e2, i]
    exact ⟨_, _, rfl, kinds_nm _ (List.getElem_mem h2), k2.mono (by omega)⟩
  · have c0 : decide (((r : Nat) : Int) = 0) = false := decide_eq_false (by omega)
    obtain ⟨r2, g2, e2, h2, k2⟩ := drawN n k1 (by omega) (m := 8) (by decide) (by decide)
    have e2 : callN Gam ini (n + 2) 13 [.glo p, .int 8] g1 = .ok (.v (.int r2)) g2 := e2
    have hr : (1 + (r2 : Int) ≤ 1000000 ∧ -1000000 ≤ 1 + (r2 : Int)) = True := by simp; omega
    obtain ⟨ys, g3, c, l, rr, k3⟩ := comp_okI (call := callN Gam ini (n + 2)) (elt := f__law_name_c1) (tg := .n 2) (own := [2]) (it := .rng (.bin .add (.e (.cst (.int 1))) (.e (.call 13 (.cons (.v 0) (.cons (.cst (.int 8)) .nil)))))) (g := g1) (σ := [(some (SV.val (.glo p))), (some (SV.val (.str abc))), none]) (xs := rngL 0 (1 + (r2 : Int)))
      (Inv := fun i g' => PoolAt (b + 1 + 1 + i) g' p) (Rr := fun i y => ∃ s, y = .str s ∧ ((cd s).length = 1 ∧ ∀ c ∈ cd s, 97 ≤ c ∧ c ≤ 122)) (g0 := g2)
      (by simp! [e2, VL.bin_add, hr]) (by rw [rng_len]; omega) k2 (fun i x g' hx hg => by
        have hi := (List.getElem?_eq_some_iff.mp hx).1
        rw [rng_len] at hi
        obtain ⟨r4, g4, e4, h4, k4⟩ := drawN n hg (by omega) (m := 26) (by decide) (by decide)
        have e4 : callN Gam ini (n + 2) 13 [.glo p, .int 26] g' = .ok (.v (.int r4)) g4 := e4
        have i4 := abc_idx g4 h4
        refine ⟨[(some (SV.val (.glo p))), (some (SV.val (.str abc))), (some (SV.val (x)))], .str ⟨#[97 + r4]⟩, g4, rfl, ?_, ⟨_, rfl, rfl, fun c hc => ?_⟩, k4⟩
        · simp! [f__law_name_c1, e4, i4]
        · have hc : c ∈ [97 + r4] := hc
          rw [List.mem_singleton] at hc
          omega)
    obtain ⟨ss, rfl, hs⟩ := strs_of rr
    rw [rng_len, List.length_map] at l
    rw [rng_len] at k3
    have jl : (jn (cd "") (ss.map cd)).length = ss.length := by
      rw [show cd "" = [] from rfl, jn0]
      exact flat_ones fun s hs' => (hs s hs').1
    have j := join_fact g3 (sep := "") (ss := ss) (by omega) (by decide +kernel)
    have c' : evF Gam (callN Gam ini (n + 2)) (.comp f__law_name_c1 (.n 2) (.rng (.bin .add (.e (.cst (.int 1))) (.e (.call 13 (.cons (.v 0) (.cons (.cst (.int 8)) .nil)))))) [2] .none) [(some (SV.val (.glo p))), (some (SV.val (.str "abcdefghijklmnopqrstuvwxyz"))), none] g1 = .ok (.l (ss.map D.str)) g3 := c
    dsimp! [f__law_name, e, c0, c', Fr.dI, Fr.gI, j]
    refine ⟨_, _, rfl, ⟨?_, ?_, fun c hc => ?_⟩, k3.mono (by omega)⟩
    · show 1 ≤ (jn (cd "") (ss.map cd)).length
      omega
    · show (jn (cd "") (ss.map cd)).length ≤ 8
      omega
    · have hc : c ∈ jn (cd "") (ss.map cd) := hc
      rcases jn_mem hc with hc | ⟨q', hq, hc⟩
      · cases hc
      · obtain ⟨s, hs', rfl⟩ := List.mem_map.mp hq
        exact (hs s hs').2 c hc
end VL

set_option maxRecDepth 20000
namespace VL
open PySem VM
theorem eqS (g : Gs) (a b : Str) : cmpD g .eq (.str a) (.str b) = some (.bl (decide (a = b))) := by
  show some (D.bl (a == b)) = _
  by_cases q : a = b
  · rw [decide_eq_true q, beq_iff_eq.mpr q]
  · rw [decide_eq_false q, beq_eq_false_iff_ne.mpr q]
def wordsL : List Str := ["wish", "answer", "take", "end", "put"]
theorem line_ok (n : Nat) {b : Nat} {g : Gs} {p : Nat} (h : PoolAt b g p) (hb : b < 1000000) : ∃ s g', callN Gam ini (n + 4) 559 [.glo p] g = .ok (.v (.str s)) g' ∧ Tx 20 s ∧ PoolAt (b + 12) g' p := by
  rw [show callN Gam ini (n + 4) 559 [.glo p] g = runF Gam (callN Gam ini (n + 3)) f__law_line [.glo p] g from rfl]
  obtain ⟨r, g1, e, h1, k1⟩ := drawN (n + 1) h (by omega) (m := 5) (by decide) (by decide)
  have e : callN Gam ini (n + 3) 13 [.glo p, .int 5] g = .ok (.v (.int r)) g1 := e
  have i : idxD g1 (.lst [.str "wish", .str "answer", .str "take", .str "end", .str "put"]) (.int r) = some (.str wordsL[r]) := idx_strs g1 (ss := wordsL) h1
  have hw : Tx 6 wordsL[r] := by
    have : ∀ s ∈ wordsL, ((cd s).length ≤ 6 ∧ (cd s).all (fun c => decide (c < 128)) = true) := by decide +kernel
    exact txc (this _ (List.getElem_mem h1))
  generalize wordsL[r] = w at i hw
  by_cases q1 : w = "end"
  · have d1 : cmpD g1 .eq (.str w) (.str "end") = some (.bl true) := by rw [eqS, decide_eq_true q1]
    simp! [f__law_line, e, Fr.dI, Fr.gI, i, d1]
    exact ⟨_, _, rfl, hw.mono (by decide), k1.mono (by omega)⟩
  · have d1 : cmpD g1 .eq (.str w) (.str "end") = some (.bl false) := by rw [eqS, decide_eq_false q1]
    obtain ⟨r2, g2, e2, h2, k2⟩ := drawN (n + 1) k1 (by omega) (m := 6) (by decide) (by decide)
    have e2 : callN Gam ini (n + 3) 13 [.glo p, .int 6] g1 = .ok (.v (.int r2)) g2 := e2
    have sp : Tx 1 (" " : Str) := txc (by decide +kernel)
    have a1 : ∀ g, binD g .add (.str w) (.str " ") = some (.str (ap w " ")) := fun g => add_tx g hw sp (by decide)
    have s2 : biD Gam g2 .str [.int r2] = some (.str (dg r2)) := str_int g2 (by omega)
    have t1 : Tx 9 (ap (ap w " ") (dg r2)) := (hw.ap sp).ap (dg_tx (by omega))
    have a2 : ∀ g, binD g .add (.str (ap w " ")) (.str (dg r2)) = some (.str (ap (ap w " ") (dg r2))) := fun g => add_tx g (hw.ap sp) (dg_tx (by omega)) (by decide)
    generalize ap (ap w " ") (dg r2) = l at t1 a2
    have a3 : ∀ g, binD g .add (.str l) (.str " ") = some (.str (ap l " ")) := fun g => add_tx g t1 sp (by decide)
    by_cases q2 : w = "put"
    · have d2 : cmpD g2 .eq (.str w) (.str "put") = some (.bl true) := by rw [eqS, decide_eq_true q2]
      simp! [f__law_line, e, Fr.dI, Fr.gI, i, d1, a1, e2, s2, a2, d2]
      exact ⟨_, _, rfl, t1.mono (by decide), k2.mono (by omega)⟩
    · have d2 : cmpD g2 .eq (.str w) (.str "put") = some (.bl false) := by rw [eqS, decide_eq_false q2]
      by_cases q3 : w = "wish"
      · have d3 : cmpD g2 .eq (.str w) (.str "wish") = some (.bl true) := by rw [eqS, decide_eq_true q3]
        obtain ⟨r3, g3, e3, h3, k3⟩ := drawN (n + 1) k2 (by omega) (m := 30) (by decide) (by decide)
        have e3 : callN Gam ini (n + 3) 13 [.glo p, .int 30] g2 = .ok (.v (.int r3)) g3 := e3
        have s3 : biD Gam g3 .str [.int r3] = some (.str (dg r3)) := str_int g3 (by omega)
        have a4 : ∀ g, binD g .add (.str (ap l " ")) (.str (dg r3)) = some (.str (ap (ap l " ") (dg r3))) := fun g => add_tx g (t1.ap sp) (dg_tx (by omega)) (by decide)
        simp! [f__law_line, e, Fr.dI, Fr.gI, i, d1, a1, e2, s2, a2, d2, d3, a3, e3, s3, a4]
        exact ⟨_, _, rfl, ((t1.ap sp).ap (dg_tx (by omega))).mono (by decide), k3.mono (by omega)⟩
      · have d3 : cmpD g2 .eq (.str w) (.str "wish") = some (.bl false) := by rw [eqS, decide_eq_false q3]
        obtain ⟨nm, g3, e3, h3, k3⟩ := name_ok n k2 (by omega)
        have a4 : ∀ g, binD g .add (.str (ap l " ")) (.str nm) = some (.str (ap (ap l " ") nm)) := fun g => add_tx g (t1.ap sp) h3.tx (by decide)
        simp! [f__law_line, e, Fr.dI, Fr.gI, i, d1, a1, e2, s2, a2, d2, d3, a3, e3, a4]
        exact ⟨_, _, rfl, ((t1.ap sp).ap h3.tx).mono (by decide), k3.mono (by omega)⟩
theorem rep_tx {m k : Nat} {s : Str} (h : Tx m s) : Tx (k * m) (strOf (List.replicate k (cd s)).flatten) := by
  refine strOf_tx ?_ fun c hc => ?_
  · rw [List.length_flatten, List.map_replicate, List.sum_replicate_nat]
    exact Nat.mul_le_mul_left _ h.len
  · obtain ⟨l, h1, h2⟩ := List.mem_flatten.mp hc
    rw [List.eq_of_mem_replicate h1] at h2
    exact h.asc c h2
theorem idx_e {call : CallT} {a i : VM.E} {σ : Sg} {g g' : Gs} {u v w : D} (ha : evE Gam call a σ g = .ok u g) (hi : evE Gam call i σ g = .ok v g') (h : idxD g' u v = some w) : evE Gam call (.idx (.e a) i) σ g = .ok w g' := by
  simp only [evE, evP, ha, hi, Out.bind, Out.opt, h]
theorem bin_e {call : CallT} {a b : VM.E} {o : Bop} {σ : Sg} {g g' g2 : Gs} {u v w : D} (ha : evE Gam call a σ g = .ok u g') (hb : evE Gam call b σ g' = .ok v g2) (h : binD g2 o u v = some w) : evE Gam call (.bin o (.e a) (.e b)) σ g = .ok w g2 := by
  simp only [evE, evP, ha, hb, Out.bind, Out.opt, h]
theorem ret_e {call : CallT} {a : VM.E} {σ : Sg} {g g' : Gs} {u : D} (ha : evE Gam call a σ g = .ok u g') : evS Gam call (.ret a) σ g = .ok (.ret (.v u), σ) g' := by
  simp only [evS, ha, Out.bind]
theorem mul_ch (g : Gs) (c : Nat) {y : Nat} (h : y ≤ 90000) : binD g .mul (.str ⟨#[c]⟩) (.int (1 + (y : Int))) = some (.str (strOf (List.replicate (y + 1) [c]).flatten)) := by
  have e : binD g .mul (.str ⟨#[c]⟩) (.int (1 + (y : Int))) = (if 0 ≤ 1 + (y : Int) ∧ 1 + (y : Int) < 1000000 ∧ (⟨#[c]⟩ : Str).cps.size * (1 + (y : Int)).toNat ≤ sizeM then some (D.str (strOf (List.replicate (1 + (y : Int)).toNat [c]).flatten)) else none) := rfl
  have h1 : (1 + (y : Int)).toNat = y + 1 := by omega
  have h2 : (⟨#[c]⟩ : Str).cps.size = 1 := rfl
  rw [e, h1, h2, if_pos ⟨by omega, by omega, by unfold sizeM; omega⟩]
theorem number_ok (n : Nat) {b : Nat} {g : Gs} {p : Nat} (h : PoolAt b g p) (hb : b < 1000000) : ∃ s g', callN Gam ini (n + 4) 564 [.glo p] g = .ok (.v (.str s)) g' ∧ Tx 5001 s ∧ PoolAt (b + 3) g' p := by
  rw [show callN Gam ini (n + 4) 564 [.glo p] g = runF Gam (callN Gam ini (n + 3)) f__law_number [.glo p] g from rfl]
  obtain ⟨r, g1, e, h1, k1⟩ := drawN (n + 1) h (by omega) (m := 8) (by decide) (by decide)
  have e : callN Gam ini (n + 3) 13 [.glo p, .int 8] g = .ok (.v (.int r)) g1 := e
  have cc : ∀ (g : Gs) (i : Int), cmpD g .eq (.int (r : Nat)) (.int i) = some (.bl (decide (((r : Nat) : Int) = i))) := fun g i => rfl
  have one : ∀ (m : Nat) (hm : 0 < m) (hm2 : m < 100), ∃ (x : Nat) (g' : Gs), callN Gam ini (n + 3) 13 [.glo p, .int (m : Nat)] g1 = .ok (.v (.int x)) g' ∧ biD Gam g' .str [.int (x : Nat)] = some (.str (dg x)) ∧ Tx 2 (dg x) ∧ PoolAt (b + 3) g' p := fun m hm hm2 => by
    obtain ⟨x, g2, e2, h2, k2⟩ := drawN (n + 1) k1 (by omega) (m := m) hm (by omega)
    exact ⟨x, g2, e2, str_int g2 (by omega), dg_tx (by omega), k2.mono (by omega)⟩
  have pre : ∀ (t : Str) (x : Nat), Tx 1 t → Tx 2 (dg x) → ∀ g, binD g .add (.str t) (.str (dg x)) = some (.str (ap t (dg x))) := fun t x h1 h2 g => add_tx g h1 h2 (by decide)
  rcases (show r = 0 ∨ r = 1 ∨ r = 2 ∨ r = 3 ∨ r = 4 ∨ r = 5 ∨ r = 6 ∨ r = 7 by omega) with rfl | rfl | rfl | rfl | rfl | rfl | rfl | rfl
  · obtain ⟨x, g2, e2, s2, t2, k2⟩ := one 30 (by decide) (by decide)
    have e2 : callN Gam ini (n + 3) 13 [.glo p, .int 30] g1 = .ok (.v (.int x)) g2 := e2
    have t0 : Tx 1 ("0" : Str) := txc (by decide +kernel)
    have d0 : decide (((0 : Nat) : Int) = 0) = true := rfl
    simp! [f__law_number, e, d0, e2, s2, pre "0" x t0 t2]
    exact ⟨_, _, rfl, (t0.ap t2).mono (by omega), k2⟩
  · obtain ⟨x, g2, e2, s2, t2, k2⟩ := one 6 (by decide) (by decide)
    have e2 : callN Gam ini (n + 3) 13 [.glo p, .int 6] g1 = .ok (.v (.int x)) g2 := e2
    have t0 : Tx 1 ("+" : Str) := txc (by decide +kernel)
    have d0 : decide (((1 : Nat) : Int) = 0) = false := rfl
    have d1 : decide (((1 : Nat) : Int) = 1) = true := rfl
    simp! [f__law_number, e, d0, d1, e2, s2, pre "+" x t0 t2]
    exact ⟨_, _, rfl, (t0.ap t2).mono (by omega), k2⟩
  · obtain ⟨x, g2, e2, s2, t2, k2⟩ := one 6 (by decide) (by decide)
    have e2 : callN Gam ini (n + 3) 13 [.glo p, .int 6] g1 = .ok (.v (.int x)) g2 := e2
    have t0 : Tx 1 ("-" : Str) := txc (by decide +kernel)
    have d0 : decide (((2 : Nat) : Int) = 0) = false := rfl
    have d1 : decide (((2 : Nat) : Int) = 1) = false := rfl
    have d2 : decide (((2 : Nat) : Int) = 2) = true := rfl
    simp! [f__law_number, e, d0, d1, d2, e2, s2, pre "-" x t0 t2]
    exact ⟨_, _, rfl, (t0.ap t2).mono (by omega), k2⟩
  · obtain ⟨x, g2, e2, s2, t2, k2⟩ := one 40 (by decide) (by decide)
    have e2 : callN Gam ini (n + 3) 13 [.glo p, .int 40] g1 = .ok (.v (.int x)) g2 := e2
    have d0 : decide (((3 : Nat) : Int) = 0) = false := rfl
    have d1 : decide (((3 : Nat) : Int) = 1) = false := rfl
    have d2 : decide (((3 : Nat) : Int) = 2) = false := rfl
    have d3 : decide (((3 : Nat) : Int) = 3) = true := rfl
    simp! [f__law_number, e, d0, d1, d2, d3, e2, s2]
    exact ⟨_, _, rfl, t2.mono (by omega), k2⟩
  · obtain ⟨x, g2, e2, h2, k2⟩ := drawN (n + 1) k1 (by omega) (m := 9) (by decide) (by decide)
    have e2 : callN Gam ini (n + 3) 13 [.glo p, .int 9] g1 = .ok (.v (.int x)) g2 := e2
    obtain ⟨y, g3, e3, h3, k3⟩ := drawI (n + 1) k2 (by omega) (m := 5000) (by omega) (by omega)
    have e3 : callN Gam ini (n + 3) 13 [.glo p, .int 5000] g2 = .ok (.v (.int y)) g3 := e3
    obtain ⟨c, hc, i⟩ := idx_tx (m := 9) (s := "123456789") g2 (txc (by decide +kernel)) (by decide) (r := x) (by
      have : (cd "123456789").length = 9 := by decide +kernel
      omega)
    have d0 : decide (((4 : Nat) : Int) = 0) = false := rfl
    have d1 : decide (((4 : Nat) : Int) = 1) = false := rfl
    have d2 : decide (((4 : Nat) : Int) = 2) = false := rfl
    have d3 : decide (((4 : Nat) : Int) = 3) = false := rfl
    have d4 : decide (((4 : Nat) : Int) = 4) = true := rfl
    have m := mul_ch g3 c (y := y) (by omega)
    let σ (w : Option SV) : Sg := [(some (SV.val (.glo p))), w]
    have b0 : evS Gam (callN Gam ini (n + 3)) (ssNth f__law_number.body 0) (σ none) g = .ok (.nx, σ (some (SV.val (.int ((4 : Nat) : Int))))) g1 := by simp! [ssNth, f__law_number, σ, e]
    have b1 : evS Gam (callN Gam ini (n + 3)) (ssNth f__law_number.body 1) (σ (some (SV.val (.int ((4 : Nat) : Int))))) g1 = .ok (.nx, σ (some (SV.val (.int ((4 : Nat) : Int))))) g1 := rfl
    have b2 : evS Gam (callN Gam ini (n + 3)) (ssNth f__law_number.body 2) (σ (some (SV.val (.int ((4 : Nat) : Int))))) g1 = .ok (.nx, σ (some (SV.val (.int ((4 : Nat) : Int))))) g1 := rfl
    have b3 : evS Gam (callN Gam ini (n + 3)) (ssNth f__law_number.body 3) (σ (some (SV.val (.int ((4 : Nat) : Int))))) g1 = .ok (.nx, σ (some (SV.val (.int ((4 : Nat) : Int))))) g1 := rfl
    have b4 : evS Gam (callN Gam ini (n + 3)) (ssNth f__law_number.body 4) (σ (some (SV.val (.int ((4 : Nat) : Int))))) g1 = .ok (.nx, σ (some (SV.val (.int ((4 : Nat) : Int))))) g1 := rfl
    have c1 : evE Gam (callN Gam ini (n + 3)) (.call 13 (.cons (.v 0) (.cons (.cst (.int 9)) .nil))) (σ (some (SV.val (.int ((4 : Nat) : Int))))) g1 = .ok (.int x) g2 := by simp! [σ, e2]
    have c2 : evE Gam (callN Gam ini (n + 3)) (.call 13 (.cons (.v 0) (.cons (.cst (.int 5000)) .nil))) (σ (some (SV.val (.int ((4 : Nat) : Int))))) g2 = .ok (.int y) g3 := by simp! [σ, e3]
    have b5 : evS Gam (callN Gam ini (n + 3)) (ssNth f__law_number.body 5) (σ (some (SV.val (.int ((4 : Nat) : Int))))) g1 = .ok (.ret (.v (.str (strOf (List.replicate (y + 1) [c]).flatten))), σ (some (SV.val (.int ((4 : Nat) : Int))))) g3 :=
      (if_t (g' := g1) rfl).trans (ss_one.trans (ret_e (bin_e (idx_e (u := .str "123456789") (v := .int x) rfl c1 i) (bin_e (u := .int 1) (v := .int y) rfl c2 rfl) m)))
    rw [run_ret rfl ((ss_next 0 b0).trans ((ss_next 1 b1).trans ((ss_next 2 b2).trans ((ss_next 3 b3).trans ((ss_next 4 b4).trans (ss_ret 5 b5))))))]
    exact ⟨_, _, rfl, (rep_tx (k := y + 1) (ch_tx hc)).mono (by omega), k3⟩
  · have d0 : decide (((5 : Nat) : Int) = 0) = false := rfl
    have d1 : decide (((5 : Nat) : Int) = 1) = false := rfl
    have d2 : decide (((5 : Nat) : Int) = 2) = false := rfl
    have d3 : decide (((5 : Nat) : Int) = 3) = false := rfl
    have d4 : decide (((5 : Nat) : Int) = 4) = false := rfl
    have d5 : decide (((5 : Nat) : Int) = 5) = true := rfl
    simp! [f__law_number, e, d0, d1, d2, d3, d4, d5]
    exact ⟨_, _, rfl, (txc (m := 3) (by decide +kernel)).mono (by omega), k1.mono (by omega)⟩
  · have d0 : decide (((6 : Nat) : Int) = 0) = false := rfl
    have d1 : decide (((6 : Nat) : Int) = 1) = false := rfl
    have d2 : decide (((6 : Nat) : Int) = 2) = false := rfl
    have d3 : decide (((6 : Nat) : Int) = 3) = false := rfl
    have d4 : decide (((6 : Nat) : Int) = 4) = false := rfl
    have d5 : decide (((6 : Nat) : Int) = 5) = false := rfl
    have d6 : decide (((6 : Nat) : Int) = 6) = true := rfl
    simp! [f__law_number, e, d0, d1, d2, d3, d4, d5, d6]
    exact ⟨_, _, rfl, (txc (m := 3) (by decide +kernel)).mono (by omega), k1.mono (by omega)⟩
  · obtain ⟨x, g2, e2, s2, t2, k2⟩ := one 10 (by decide) (by decide)
    have e2 : callN Gam ini (n + 3) 13 [.glo p, .int 10] g1 = .ok (.v (.int x)) g2 := e2
    have d0 : decide (((7 : Nat) : Int) = 0) = false := rfl
    have d1 : decide (((7 : Nat) : Int) = 1) = false := rfl
    have d2 : decide (((7 : Nat) : Int) = 2) = false := rfl
    have d3 : decide (((7 : Nat) : Int) = 3) = false := rfl
    have d4 : decide (((7 : Nat) : Int) = 4) = false := rfl
    have d5 : decide (((7 : Nat) : Int) = 5) = false := rfl
    have d6 : decide (((7 : Nat) : Int) = 6) = false := rfl
    have t0 : Tx 1 ("." : Str) := txc (by decide +kernel)
    have a : ∀ g, binD g .add (.str (dg x)) (.str ".") = some (.str (ap (dg x) ".")) := fun g => add_tx g t2 t0 (by decide)
    simp! [f__law_number, e, d0, d1, d2, d3, d4, d5, d6, e2, s2, a]
    exact ⟨_, _, rfl, (t2.ap t0).mono (by omega), k2⟩
end VL

set_option maxRecDepth 20000
namespace VL
open PySem VM
theorem pick (g : Gs) {ss : List Str} {m : Nat} (h : (ss.all fun s => decide ((cd s).length ≤ m) && (cd s).all fun c => decide (c < 128)) = true) {r : Nat} (hr : r < ss.length) : ∃ s, idxD g (.lst (ss.map D.str)) (.int (r : Nat)) = some (.str s) ∧ Tx m s := by
  refine ⟨ss[r], idx_strs g hr, ?_⟩
  have := List.all_eq_true.mp h _ (List.getElem_mem hr)
  rw [Bool.and_eq_true, decide_eq_true_eq] at this
  exact txc this
theorem upper_tx (g : Gs) {m : Nat} {s : Str} (h : Tx m s) (hm : m ≤ 100000) : ∃ t, bmD g (.str s) .upper [] = some (.str t) ∧ Tx m t := by
  refine ⟨strOf ((cd s).map up1), ?_, strOf_tx (by rw [List.length_map]; exact h.len) fun c hc => ?_⟩
  · show (if s.cps.size ≤ sizeM ∧ ((cd s).all fun c => decide (c < 128)) = true then some (D.str (strOf ((cd s).map up1))) else none) = _
    rw [if_pos ⟨by have := h.size; unfold sizeM; omega, List.all_eq_true.mpr fun c hc => decide_eq_true (h.asc c hc)⟩]
  · obtain ⟨d, hd, rfl⟩ := List.mem_map.mp hc
    have := h.asc d hd
    unfold up1
    split <;> omega
theorem len_str (g : Gs) {m : Nat} {s : Str} (h : Tx m s) (hm : m ≤ 100000) : lenD g (.str s) = some (cd s).length := by
  show (if s.cps.size ≤ sizeM then some s.cps.size else none) = _
  rw [if_pos (by have := h.size; unfold sizeM; omega), cd_len]
theorem way_f {call : CallT} {A : Ss} {a0 a1 a3 : Option SV} {r : Nat} {k : Int} {g : Gs} (h : decide (((r : Nat) : Int) = k) = false) : evS Gam call (.if_ (.e (.cmp .eq (.e (.v 2)) (.e (.cst (.int k))))) A .nil) [a0, a1, (some (SV.val (.int (r : Nat)))), a3] g = .ok (.nx, [a0, a1, (some (SV.val (.int (r : Nat)))), a3]) g := by
  simp! [h]
theorem way_t {call : CallT} {A : Ss} {a0 a1 a3 : Option SV} {r : Nat} {k : Int} {g : Gs} (h : decide (((r : Nat) : Int) = k) = true) : evS Gam call (.if_ (.e (.cmp .eq (.e (.v 2)) (.e (.cst (.int k))))) A .nil) [a0, a1, (some (SV.val (.int (r : Nat)))), a3] g = evSs Gam call A [a0, a1, (some (SV.val (.int (r : Nat)))), a3] g := by
  simp! [h]
theorem changed_ok (n : Nat) {b : Nat} {g : Gs} {p m : Nat} {l : Str} (h : PoolAt b g p) (hb : b < 100000) (hl : Tx m l) (hm : m ≤ 40000) : ∃ s g', callN Gam ini (n + 5) 73 [.glo p, .str l] g = .ok (.v (.str s)) g' ∧ Tx (2 * m + 5100) s ∧ PoolAt (b + 20) g' p := by
  rw [show callN Gam ini (n + 5) 73 [.glo p, .str l] g = runF Gam (callN Gam ini (n + 4)) f__law_changed [.glo p, .str l] g from rfl]
  obtain ⟨r, g1, e, h1, k1⟩ := drawI (n + 2) h (by omega) (m := 12) (by decide) (by decide)
  have e : callN Gam ini (n + 4) 13 [.glo p, .int 12] g = .ok (.v (.int r)) g1 := e
  have hl2 := hl.len
  obtain ⟨a, g2, e2, h2, k2⟩ := drawI (n + 2) k1 (by omega) (m := ((cd l).length : Nat) + 1) (by omega) (by omega)
  have e2 : callN Gam ini (n + 4) 13 [.glo p, .int (((cd l).length : Nat) + 1)] g1 = .ok (.v (.int a)) g2 := e2
  have ll : ∀ g, lenD g (.str l) = some (cd l).length := fun g => len_str g hl (by omega)
  have sp : Tx 1 (" " : Str) := txc (by decide +kernel)
  obtain ⟨x, hx, tx⟩ := (⟨_, fun g => (sl_tx g hl (by omega) none (some (a : Int))).choose_spec.1, (sl_tx g hl (by omega) none (some (a : Int))).choose_spec.2⟩ : ∃ t : Str, (∀ g, slD g (.str l) none (some (a : Int)) = some (.str t)) ∧ Tx m t)
  obtain ⟨y, hy, ty⟩ := (⟨_, fun g => (sl_tx g hl (by omega) (some (a : Int)) none).choose_spec.1, (sl_tx g hl (by omega) (some (a : Int)) none).choose_spec.2⟩ : ∃ t : Str, (∀ g, slD g (.str l) (some (a : Int)) none = some (.str t)) ∧ Tx m t)
  obtain ⟨z, hz, tz⟩ := (⟨_, fun g => (sl_tx g hl (by omega) (some ((a : Int) + 1)) none).choose_spec.1, (sl_tx g hl (by omega) (some ((a : Int) + 1)) none).choose_spec.2⟩ : ∃ t : Str, (∀ g, slD g (.str l) (some ((a : Int) + 1)) none = some (.str t)) ∧ Tx m t)
  let C := callN Gam ini (n + 4)
  let σ (w a : Option SV) : Sg := [(some (SV.val (.glo p))), (some (SV.val (.str l))), w, a]
  have b0 : evS Gam C (ssNth f__law_changed.body 0) (σ none none) g = .ok (.nx, σ (some (SV.val (.int (r : Nat)))) none) g1 := by simp! [ssNth, f__law_changed, σ, C, e]
  have b1 : evS Gam C (ssNth f__law_changed.body 1) (σ (some (SV.val (.int (r : Nat)))) none) g1 = .ok (.nx, σ (some (SV.val (.int (r : Nat)))) (some (SV.val (.int (a : Nat))))) g2 := by simp! [ssNth, f__law_changed, σ, C, ll, VL.bin_add, e2]
  have run : ∀ {x : Str} {g' : Gs}, evSs Gam C (ssDrop f__law_changed.body 2) (σ (some (SV.val (.int (r : Nat)))) (some (SV.val (.int (a : Nat))))) g2 = .ok (.ret (.v (.str x)), σ (some (SV.val (.int (r : Nat)))) (some (SV.val (.int (a : Nat))))) g' → runF Gam (callN Gam ini (n + 4)) f__law_changed [.glo p, .str l] g = .ok (.v (.str x)) g' := fun h => run_ret rfl ((ss_next 0 b0).trans ((ss_next 1 b1).trans h))
  clear b0 b1
  rcases (show r = 0 ∨ r = 1 ∨ r = 2 ∨ r = 3 ∨ r = 4 ∨ r = 5 ∨ r = 6 ∨ r = 7 ∨ r = 8 ∨ r = 9 ∨ r = 10 ∨ r = 11 by omega) with rfl | rfl | rfl | rfl | rfl | rfl | rfl | rfl | rfl | rfl | rfl | rfl
  · skip
    obtain ⟨q, g3, e3, t3, k3⟩ := sign_ok (n + 1) k2 (by omega)
    have a1 : ∀ g, binD g .add (.str x) (.str q) = some (.str (ap x q)) := fun g => add_tx g tx t3 (by omega)
    have a2 : ∀ g, binD g .add (.str (ap x q)) (.str y) = some (.str (ap (ap x q) y)) := fun g => add_tx g (tx.ap t3) ty (by omega)
    refine ⟨_, _, run (ss_ret 2 ((way_t (k := 0) rfl).trans ?_)), ((tx.ap t3).ap ty).mono (by omega), k3.mono (by omega)⟩
    simp! [σ, C, VL.bin_add, hx, hy, e3, a1, a2]
  · skip
    have a1 : ∀ g, binD g .add (.str x) (.str z) = some (.str (ap x z)) := fun g => add_tx g tx tz (by omega)
    refine ⟨_, _, run ((ss_next (g' := g2) 2 (way_f (k := 0) rfl)).trans (ss_ret 3 ((way_t (k := 1) rfl).trans ?_))), (tx.ap tz).mono (by omega), k2.mono (by omega)⟩
    simp! [σ, C, VL.bin_add, hx, hz, a1]
  · skip
    obtain ⟨q, g3, e3, t3, k3⟩ := sign_ok (n + 1) k2 (by omega)
    have a1 : ∀ g, binD g .add (.str x) (.str q) = some (.str (ap x q)) := fun g => add_tx g tx t3 (by omega)
    have a2 : ∀ g, binD g .add (.str (ap x q)) (.str z) = some (.str (ap (ap x q) z)) := fun g => add_tx g (tx.ap t3) tz (by omega)
    refine ⟨_, _, run ((ss_next (g' := g2) 2 (way_f (k := 0) rfl)).trans ((ss_next (g' := g2) 3 (way_f (k := 1) rfl)).trans (ss_ret 4 ((way_t (k := 2) rfl).trans ?_)))), ((tx.ap t3).ap tz).mono (by omega), k3.mono (by omega)⟩
    simp! [σ, C, VL.bin_add, hx, hz, e3, a1, a2]
  · skip
    have a1 : ∀ g, binD g .add (.str x) (.str " ") = some (.str (ap x " ")) := fun g => add_tx g tx sp (by omega)
    have a2 : ∀ g, binD g .add (.str (ap x " ")) (.str y) = some (.str (ap (ap x " ") y)) := fun g => add_tx g (tx.ap sp) ty (by omega)
    refine ⟨_, _, run ((ss_next (g' := g2) 2 (way_f (k := 0) rfl)).trans ((ss_next (g' := g2) 3 (way_f (k := 1) rfl)).trans ((ss_next (g' := g2) 4 (way_f (k := 2) rfl)).trans (ss_ret 5 ((way_t (k := 3) rfl).trans ?_))))), ((tx.ap sp).ap ty).mono (by omega), k2.mono (by omega)⟩
    simp! [σ, C, VL.bin_add, hx, hy, a1, a2]
  · skip
    obtain ⟨q, g3, e3, t3, k3⟩ := number_ok n k2 (by omega)
    have w : Tx 4 ("put " : Str) := txc (by decide +kernel)
    have a1 : ∀ g, binD g .add (.str "put ") (.str q) = some (.str (ap "put " q)) := fun g => add_tx g w t3 (by omega)
    refine ⟨_, _, run ((ss_next (g' := g2) 2 (way_f (k := 0) rfl)).trans ((ss_next (g' := g2) 3 (way_f (k := 1) rfl)).trans ((ss_next (g' := g2) 4 (way_f (k := 2) rfl)).trans ((ss_next (g' := g2) 5 (way_f (k := 3) rfl)).trans (ss_ret 6 ((way_t (k := 4) rfl).trans ?_)))))), (w.ap t3).mono (by omega), k3.mono (by omega)⟩
    simp! [σ, C, VL.bin_add, e3, a1]
  · skip
    obtain ⟨u, g3, e3, h3, k3⟩ := drawI (n + 2) k2 (by omega) (m := 6) (by decide) (by decide)
    have e3 : callN Gam ini (n + 4) 13 [.glo p, .int 6] g2 = .ok (.v (.int u)) g3 := e3
    have s3 : biD Gam g3 .str [.int u] = some (.str (dg u)) := str_int g3 (by omega)
    have t3 : Tx 2 (dg u) := dg_tx (by omega)
    obtain ⟨q, g4, e4, t4, k4⟩ := number_ok n k3 (by omega)
    have w : Tx 5 ("wish " : Str) := txc (by decide +kernel)
    have a1 : ∀ g, binD g .add (.str "wish ") (.str (dg u)) = some (.str (ap "wish " (dg u))) := fun g => add_tx g w t3 (by omega)
    have a2 : ∀ g, binD g .add (.str (ap "wish " (dg u))) (.str " ") = some (.str (ap (ap "wish " (dg u)) " ")) := fun g => add_tx g (w.ap t3) sp (by omega)
    have a3 : ∀ g, binD g .add (.str (ap (ap "wish " (dg u)) " ")) (.str q) = some (.str (ap (ap (ap "wish " (dg u)) " ") q)) := fun g => add_tx g ((w.ap t3).ap sp) t4 (by omega)
    refine ⟨_, _, run ((ss_next (g' := g2) 2 (way_f (k := 0) rfl)).trans ((ss_next (g' := g2) 3 (way_f (k := 1) rfl)).trans ((ss_next (g' := g2) 4 (way_f (k := 2) rfl)).trans ((ss_next (g' := g2) 5 (way_f (k := 3) rfl)).trans ((ss_next (g' := g2) 6 (way_f (k := 4) rfl)).trans (ss_ret 7 ((way_t (k := 5) rfl).trans ?_))))))), (((w.ap t3).ap sp).ap t4).mono (by omega), k4.mono (by omega)⟩
    simp! [σ, C, VL.bin_add, e3, s3, a1, a2, e4, a3]
  · skip
    obtain ⟨q, g3, e3, t3, k3⟩ := number_ok n k2 (by omega)
    obtain ⟨nm, g4, e4, h4, k4⟩ := name_ok (n + 1) k3 (by omega)
    have w : Tx 5 ("take " : Str) := txc (by decide +kernel)
    have t4 : Tx 8 nm := h4.tx
    have a1 : ∀ g, binD g .add (.str "take ") (.str q) = some (.str (ap "take " q)) := fun g => add_tx g w t3 (by omega)
    have a2 : ∀ g, binD g .add (.str (ap "take " q)) (.str " ") = some (.str (ap (ap "take " q) " ")) := fun g => add_tx g (w.ap t3) sp (by omega)
    have a3 : ∀ g, binD g .add (.str (ap (ap "take " q) " ")) (.str nm) = some (.str (ap (ap (ap "take " q) " ") nm)) := fun g => add_tx g ((w.ap t3).ap sp) t4 (by omega)
    refine ⟨_, _, run ((ss_next (g' := g2) 2 (way_f (k := 0) rfl)).trans ((ss_next (g' := g2) 3 (way_f (k := 1) rfl)).trans ((ss_next (g' := g2) 4 (way_f (k := 2) rfl)).trans ((ss_next (g' := g2) 5 (way_f (k := 3) rfl)).trans ((ss_next (g' := g2) 6 (way_f (k := 4) rfl)).trans ((ss_next (g' := g2) 7 (way_f (k := 5) rfl)).trans (ss_ret 8 ((way_t (k := 6) rfl).trans ?_)))))))), (((w.ap t3).ap sp).ap t4).mono (by omega), k4.mono (by omega)⟩
    simp! [σ, C, VL.bin_add, e3, a1, a2, e4, a3]
  · skip
    obtain ⟨q, hq, tq⟩ := upper_tx g2 hl (by omega)
    refine ⟨_, _, run ((ss_next (g' := g2) 2 (way_f (k := 0) rfl)).trans ((ss_next (g' := g2) 3 (way_f (k := 1) rfl)).trans ((ss_next (g' := g2) 4 (way_f (k := 2) rfl)).trans ((ss_next (g' := g2) 5 (way_f (k := 3) rfl)).trans ((ss_next (g' := g2) 6 (way_f (k := 4) rfl)).trans ((ss_next (g' := g2) 7 (way_f (k := 5) rfl)).trans ((ss_next (g' := g2) 8 (way_f (k := 6) rfl)).trans (ss_ret 9 ((way_t (k := 7) rfl).trans ?_))))))))), (tq).mono (by omega), k2.mono (by omega)⟩
    simp! [σ, C, VL.bin_add, hq]
  · skip
    obtain ⟨u, g3, e3, h3, k3⟩ := drawI (n + 2) k2 (by omega) (m := 4) (by decide) (by decide)
    have e3 : callN Gam ini (n + 4) 13 [.glo p, .int 4] g2 = .ok (.v (.int u)) g3 := e3
    obtain ⟨q, hq, tq⟩ := pick g3 (ss := ["0", "a", "end", ""]) (m := 3) (by decide +kernel) (r := u) (by show u < 4; omega)
    have hq : idxD g3 (.lst [.str "0", .str "a", .str "end", .str ""]) (.int u) = some (.str q) := hq
    have a1 : ∀ g, binD g .add (.str l) (.str " ") = some (.str (ap l " ")) := fun g => add_tx g hl sp (by omega)
    have a2 : ∀ g, binD g .add (.str (ap l " ")) (.str q) = some (.str (ap (ap l " ") q)) := fun g => add_tx g (hl.ap sp) tq (by omega)
    refine ⟨_, _, run ((ss_next (g' := g2) 2 (way_f (k := 0) rfl)).trans ((ss_next (g' := g2) 3 (way_f (k := 1) rfl)).trans ((ss_next (g' := g2) 4 (way_f (k := 2) rfl)).trans ((ss_next (g' := g2) 5 (way_f (k := 3) rfl)).trans ((ss_next (g' := g2) 6 (way_f (k := 4) rfl)).trans ((ss_next (g' := g2) 7 (way_f (k := 5) rfl)).trans ((ss_next (g' := g2) 8 (way_f (k := 6) rfl)).trans ((ss_next (g' := g2) 9 (way_f (k := 7) rfl)).trans (ss_ret 10 ((way_t (k := 8) rfl).trans ?_)))))))))), ((hl.ap sp).ap tq).mono (by omega), k3.mono (by omega)⟩
    simp! [σ, C, VL.bin_add, a1, Fr.dI, Fr.gI, e3, hq, a2]
  · skip
    have rf : ∀ g, bmD g (.str l) .rfind [.str " "] = some (.int (Txt.rfind l " ")) := fun g => rfl
    obtain ⟨q, hq, tq⟩ := sl_tx g2 hl (by omega) none (some (Txt.rfind l " " + 1))
    refine ⟨_, _, run ((ss_next (g' := g2) 2 (way_f (k := 0) rfl)).trans ((ss_next (g' := g2) 3 (way_f (k := 1) rfl)).trans ((ss_next (g' := g2) 4 (way_f (k := 2) rfl)).trans ((ss_next (g' := g2) 5 (way_f (k := 3) rfl)).trans ((ss_next (g' := g2) 6 (way_f (k := 4) rfl)).trans ((ss_next (g' := g2) 7 (way_f (k := 5) rfl)).trans ((ss_next (g' := g2) 8 (way_f (k := 6) rfl)).trans ((ss_next (g' := g2) 9 (way_f (k := 7) rfl)).trans ((ss_next (g' := g2) 10 (way_f (k := 8) rfl)).trans (ss_ret 11 ((way_t (k := 9) rfl).trans ?_))))))))))), (tq).mono (by omega), k2.mono (by omega)⟩
    simp! [σ, C, VL.bin_add, rf, hq]
  · skip
    obtain ⟨u, g3, e3, h3, k3⟩ := drawI (n + 2) k2 (by omega) (m := 6) (by decide) (by decide)
    have e3 : callN Gam ini (n + 4) 13 [.glo p, .int 6] g2 = .ok (.v (.int u)) g3 := e3
    have s3 : biD Gam g3 .str [.int u] = some (.str (dg u)) := str_int g3 (by omega)
    have t3 : Tx 2 (dg u) := dg_tx (by omega)
    obtain ⟨u2, g4, e4, h4, k4⟩ := drawI (n + 2) k3 (by omega) (m := 5) (by decide) (by decide)
    have e4 : callN Gam ini (n + 4) 13 [.glo p, .int 5] g3 = .ok (.v (.int u2)) g4 := e4
    obtain ⟨q, hq, tq⟩ := pick g4 (ss := ["abcdefghi", "aB", "a1", "", "1"]) (m := 9) (by decide +kernel) (r := u2) (by show u2 < 5; omega)
    have hq : idxD g4 (.lst [.str "abcdefghi", .str "aB", .str "a1", .str "", .str "1"]) (.int u2) = some (.str q) := hq
    have w : Tx 7 ("answer " : Str) := txc (by decide +kernel)
    have a1 : ∀ g, binD g .add (.str "answer ") (.str (dg u)) = some (.str (ap "answer " (dg u))) := fun g => add_tx g w t3 (by omega)
    have a2 : ∀ g, binD g .add (.str (ap "answer " (dg u))) (.str " ") = some (.str (ap (ap "answer " (dg u)) " ")) := fun g => add_tx g (w.ap t3) sp (by omega)
    have a3 : ∀ g, binD g .add (.str (ap (ap "answer " (dg u)) " ")) (.str q) = some (.str (ap (ap (ap "answer " (dg u)) " ") q)) := fun g => add_tx g ((w.ap t3).ap sp) tq (by omega)
    refine ⟨_, _, run ((ss_next (g' := g2) 2 (way_f (k := 0) rfl)).trans ((ss_next (g' := g2) 3 (way_f (k := 1) rfl)).trans ((ss_next (g' := g2) 4 (way_f (k := 2) rfl)).trans ((ss_next (g' := g2) 5 (way_f (k := 3) rfl)).trans ((ss_next (g' := g2) 6 (way_f (k := 4) rfl)).trans ((ss_next (g' := g2) 7 (way_f (k := 5) rfl)).trans ((ss_next (g' := g2) 8 (way_f (k := 6) rfl)).trans ((ss_next (g' := g2) 9 (way_f (k := 7) rfl)).trans ((ss_next (g' := g2) 10 (way_f (k := 8) rfl)).trans ((ss_next (g' := g2) 11 (way_f (k := 9) rfl)).trans (ss_ret 12 ((way_t (k := 10) rfl).trans ?_)))))))))))), (((w.ap t3).ap sp).ap tq).mono (by omega), k4.mono (by omega)⟩
    simp! [σ, C, VL.bin_add, e3, s3, a1, a2, Fr.dI, Fr.gI, e4, hq, a3]
  · skip
    obtain ⟨u, g3, e3, h3, k3⟩ := drawI (n + 2) k2 (by omega) (m := 7) (by decide) (by decide)
    have e3 : callN Gam ini (n + 4) 13 [.glo p, .int 7] g2 = .ok (.v (.int u)) g3 := e3
    obtain ⟨q, hq, tq⟩ := pick g3 (ss := ["", " ", "  ", "ends", "put", "stop", "wish 0"]) (m := 6) (by decide +kernel) (r := u) (by show u < 7; omega)
    have hq : idxD g3 (.lst [.str "", .str " ", .str "  ", .str "ends", .str "put", .str "stop", .str "wish 0"]) (.int u) = some (.str q) := hq
    refine ⟨_, _, run ((ss_next (g' := g2) 2 (way_f (k := 0) rfl)).trans ((ss_next (g' := g2) 3 (way_f (k := 1) rfl)).trans ((ss_next (g' := g2) 4 (way_f (k := 2) rfl)).trans ((ss_next (g' := g2) 5 (way_f (k := 3) rfl)).trans ((ss_next (g' := g2) 6 (way_f (k := 4) rfl)).trans ((ss_next (g' := g2) 7 (way_f (k := 5) rfl)).trans ((ss_next (g' := g2) 8 (way_f (k := 6) rfl)).trans ((ss_next (g' := g2) 9 (way_f (k := 7) rfl)).trans ((ss_next (g' := g2) 10 (way_f (k := 8) rfl)).trans ((ss_next (g' := g2) 11 (way_f (k := 9) rfl)).trans ((ss_next (g' := g2) 12 (way_f (k := 10) rfl)).trans (ss_ret 13 ?_)))))))))))), (tq).mono (by omega), k3.mono (by omega)⟩
    simp! [σ, C, ssNth, f__law_changed, VL.bin_add, Fr.dI, Fr.gI, e3, hq]
end VL

set_option maxRecDepth 20000
namespace VL
open PySem VM
/-! ### numbers below 30, as they are written -/
def numOf (w : List Nat) : Option Nat := (List.range 30).find? fun n => decide (digs n = w)
theorem numOf_digs : ∀ n, n < 30 → numOf (digs n) = some n := by decide +kernel
theorem numOf_iff {w : List Nat} {n : Nat} : numOf w = some n ↔ n < 30 ∧ digs n = w := by
  constructor
  · intro h
    unfold numOf at h
    have h1 := List.mem_of_find?_eq_some h
    have h2 := List.find?_some h
    exact ⟨List.mem_range.mp h1, of_decide_eq_true h2⟩
  · rintro ⟨h, rfl⟩
    exact numOf_digs n h
theorem numOf_none {w : List Nat} (h : ∀ n, n < 30 → digs n ≠ w) : numOf w = none := by
  cases q : numOf w with
  | none => rfl
  | some n =>
    obtain ⟨h1, h2⟩ := numOf_iff.mp q
    exact absurd h2 (h n h1)
def digB (c : Nat) : Bool := decide (48 ≤ c) && decide (c ≤ 57)
theorem digs1 {n : Nat} {a : Nat} (h : digs n = [a]) : n < 10 ∧ a = 48 + n := by
  unfold digs at h
  split at h
  · rename_i q
    exact ⟨q, (List.cons.inj h).1.symm⟩
  · cases h
theorem digs2 {n : Nat} {a b : Nat} (h : digs n = [a, b]) : ¬ n < 10 ∧ a = 48 + n / 10 ∧ b = 48 + n % 10 := by
  unfold digs at h
  split at h
  · cases h
  · rename_i q
    obtain ⟨h1, h2⟩ := List.cons.inj h
    exact ⟨q, h1.symm, (List.cons.inj h2).1.symm⟩
def placeV (w : List Nat) (lim : Nat) : Int := match numOf w with
  | some n => if n < lim then (n : Int) else -1
  | none => -1
theorem num1 (a : Nat) : numOf [a] = if digB a = true then some (a - 48) else none := by
  unfold digB
  by_cases h : 48 ≤ a ∧ a ≤ 57
  · rw [decide_eq_true h.1, decide_eq_true h.2, if_pos (show (true && true) = true from rfl)]
    refine numOf_iff.mpr ⟨by omega, ?_⟩
    unfold digs
    rw [if_pos (by omega), show 48 + (a - 48) = a from by omega]
  · rw [if_neg (by rw [Bool.and_eq_true, decide_eq_true_eq, decide_eq_true_eq]; exact h)]
    refine numOf_none fun n hn e => ?_
    obtain ⟨h1, h2⟩ := digs1 e
    omega
theorem num2 (a b : Nat) : numOf [a, b] = if (digB a && digB b) = true ∧ a ≠ 48 ∧ (a - 48) * 10 + (b - 48) < 30 then some ((a - 48) * 10 + (b - 48)) else none := by
  unfold digB
  by_cases h : (48 ≤ a ∧ a ≤ 57) ∧ (48 ≤ b ∧ b ≤ 57)
  · rw [decide_eq_true h.1.1, decide_eq_true h.1.2, decide_eq_true h.2.1, decide_eq_true h.2.2]
    by_cases k : a ≠ 48 ∧ (a - 48) * 10 + (b - 48) < 30
    · rw [if_pos ⟨rfl, k⟩]
      refine numOf_iff.mpr ⟨k.2, ?_⟩
      unfold digs
      rw [if_neg (by omega)]
      have e1 : 48 + ((a - 48) * 10 + (b - 48)) / 10 = a := by omega
      have e2 : 48 + ((a - 48) * 10 + (b - 48)) % 10 = b := by omega
      rw [e1, e2]
    · rw [if_neg fun z => k z.2]
      refine numOf_none fun n hn e => ?_
      obtain ⟨h1, h2, h3⟩ := digs2 e
      omega
  · rw [if_neg fun z => h (by
      have := z.1
      simp only [Bool.and_eq_true, decide_eq_true_eq] at this
      exact this)]
    refine numOf_none fun n hn e => ?_
    obtain ⟨h1, h2, h3⟩ := digs2 e
    omega
theorem num3 {w : List Nat} (h : 2 < w.length) : numOf w = none := numOf_none fun n hn e => by
  have := digs_len n
  rw [e] at this
  omega
/-! ### signs -/
theorem ten_cd : cd "0123456789" = [48, 49, 50, 51, 52, 53, 54, 55, 56, 57] := by decide +kernel
theorem nin_ten (g : Gs) (c : Nat) : cmpD g .nin (.str ⟨#[c]⟩) (.str "0123456789") = some (.bl (!digB c)) := by
  show some (D.bl (!decide (c ∈ cd "0123456789"))) = _
  rw [ten_cd]
  congr 3
  unfold digB
  by_cases h : 48 ≤ c ∧ c ≤ 57
  · rw [decide_eq_true h.1, decide_eq_true h.2]
    refine decide_eq_true ?_
    simp only [List.mem_cons, List.not_mem_nil, or_false]
    omega
  · have : (decide (48 ≤ c) && decide (c ≤ 57)) = false := by
      cases q : (decide (48 ≤ c) && decide (c ≤ 57)) with
      | false => rfl
      | true =>
        rw [Bool.and_eq_true, decide_eq_true_eq, decide_eq_true_eq] at q
        exact absurd q h
    rw [this]
    refine decide_eq_false ?_
    simp only [List.mem_cons, List.not_mem_nil, or_false]
    omega
def letB (c : Nat) : Bool := decide (97 ≤ c) && decide (c ≤ 122)
theorem mem_abc (c : Nat) : decide (c ∈ cd abc) = letB c := by
  have e : cd abc = (List.range 26).map fun k => 97 + k := by decide +kernel
  rw [e]
  unfold letB
  by_cases h : 97 ≤ c ∧ c ≤ 122
  · rw [decide_eq_true h.1, decide_eq_true h.2]
    exact decide_eq_true (List.mem_map.mpr ⟨c - 97, List.mem_range.mpr (by omega), by omega⟩)
  · have : (decide (97 ≤ c) && decide (c ≤ 122)) = false := by
      cases q : (decide (97 ≤ c) && decide (c ≤ 122)) with
      | false => rfl
      | true =>
        rw [Bool.and_eq_true, decide_eq_true_eq, decide_eq_true_eq] at q
        exact absurd q h
    rw [this]
    refine decide_eq_false fun z => ?_
    obtain ⟨k, hk, rfl⟩ := List.mem_map.mp z
    have := List.mem_range.mp hk
    omega
theorem in_abc (g : Gs) (c : Nat) : cmpD g .inn (.str ⟨#[c]⟩) (.str abc) = some (.bl (letB c)) := by
  show some (D.bl (decide (c ∈ cd abc))) = _
  rw [mem_abc]
theorem nin_abc (g : Gs) (c : Nat) : cmpD g .nin (.str ⟨#[c]⟩) (.str abc) = some (.bl (!letB c)) := by
  show some (D.bl (!decide (c ∈ cd abc))) = _
  rw [mem_abc]
def nameB (w : List Nat) : Bool := decide (1 ≤ w.length) && (decide (w.length ≤ 8) && w.all letB)
theorem len_s (g : Gs) {w : Str} (h : (cd w).length ≤ 100000) : lenD g (.str w) = some (cd w).length := by
  show (if w.cps.size ≤ sizeM then some w.cps.size else none) = _
  rw [if_pos (by rw [← cd_len]; unfold sizeM; exact h), cd_len]
theorem src_s (w : Str) (g : Gs) : srcOf (.str w) g = .ok (.fix ((cd w).map ch)) g := rfl
theorem conAbc : Gam.con 1 = some (.str abc) := rfl
theorem bools_map {ys : List D} {bs : List Bool} (h : ys = bs.map D.bl) : boolsL ys = some bs := by
  subst h
  induction bs with
  | nil => rfl
  | cons b bs ih =>
    show (boolsL (bs.map D.bl)).map (b :: ·) = _
    rw [ih]
    rfl
theorem is_name_ok (n : Nat) {w : Str} (hw : (cd w).length ≤ 100000) (g : Gs) : callN Gam ini (n + 1) 1 [.str w] g = .ok (.v (.bl (nameB (cd w)))) g := by
  rw [show callN Gam ini (n + 1) 1 [.str w] g = runF Gam (callN Gam ini n) f_is_name [.str w] g from rfl]
  have ti : isTs Gam g (.str w) [.str] = some true := rfl
  by_cases h1 : 1 ≤ (cd w).length
  · by_cases h2 : (cd w).length ≤ 8
    · have l1 : cmpD g .le (.int 1) (.int ((cd w).length : Nat)) = some (.bl true) := by rw [cmp_le, decide_eq_false (by omega)]; rfl
      have l2 : cmpD g .le (.int ((cd w).length : Nat)) (.int 8) = some (.bl true) := by rw [cmp_le, decide_eq_false (by omega)]; rfl
      obtain ⟨ys, g', c, l, rr, rfl⟩ := comp_ok (call := callN Gam ini n) (elt := f_is_name_c1) (tg := .n 1) (own := [1]) (it := .e (.e (.v 0))) (g := g) (σ := [(some (SV.val (.str w))), none]) (xs := (cd w).map ch) (Inv := fun g' => g' = g) (Rr := fun i y => ∃ c, (cd w)[i]? = some c ∧ y = .bl (letB c)) (g0 := g)
        (by simp! [src_s]) (by rw [List.length_map]; omega) rfl (fun i x g' hx hg => by
          subst hg
          rw [List.getElem?_map] at hx
          obtain ⟨c, hc, rfl⟩ := Option.map_eq_some_iff.mp hx
          refine ⟨[(some (SV.val (.str w))), (some (SV.val (ch c)))], .bl (letB c), g', rfl, ?_, ⟨c, hc, rfl⟩, rfl⟩
          have := in_abc g' c
          simp! [f_is_name_c1, conAbc, ch, this])
      have e : ys = ((cd w).map letB).map D.bl := by
        refine list_eq (by rw [l, List.length_map, List.length_map, List.length_map]) fun i y hy => ?_
        obtain ⟨c, h1, rfl⟩ := rr i y hy
        rw [List.getElem?_map, List.getElem?_map, h1]
        rfl
      have ha : biD Gam g' .all [.lst ys] = some (.bl ((cd w).all letB)) := by
        show ((seqL g' (.lst ys)).bind boolsL).map (fun l => D.bl (l.all id)) = _
        show (boolsL ys).map (fun l => D.bl (l.all id)) = _
        rw [bools_map e]
        show some (D.bl (((cd w).map letB).all id)) = _
        rw [List.all_map]
        rfl
      have hn : nameB (cd w) = (cd w).all letB := by
        unfold nameB
        rw [decide_eq_true h1, decide_eq_true h2]
        rfl
      rw [hn]
      dsimp! [f_is_name, ti, len_s g' hw, l1, l2, c, Fr.dI, Fr.gI, ha]
    · have l1 : cmpD g .le (.int 1) (.int ((cd w).length : Nat)) = some (.bl true) := by rw [cmp_le, decide_eq_false (by omega)]; rfl
      have l2 : cmpD g .le (.int ((cd w).length : Nat)) (.int 8) = some (.bl false) := by rw [cmp_le, decide_eq_true (by omega)]; rfl
      have hn : nameB (cd w) = false := by
        unfold nameB
        rw [decide_eq_true h1, decide_eq_false h2]
        rfl
      rw [hn]
      dsimp! [f_is_name, ti, len_s g hw, l1, l2]
  · have l1 : cmpD g .le (.int 1) (.int ((cd w).length : Nat)) = some (.bl false) := by rw [cmp_le, decide_eq_true (by omega)]; rfl
    have hn : nameB (cd w) = false := by
      unfold nameB
      rw [decide_eq_false h1]
      rfl
    rw [hn]
    dsimp! [f_is_name, ti, len_s g hw, l1]
theorem law_is_name_ok (n : Nat) {w : Str} (hw : (cd w).length ≤ 100000) (g : Gs) : callN Gam ini (n + 1) 31 [.str w] g = .ok (.v (.bl (nameB (cd w)))) g := by
  rw [show callN Gam ini (n + 1) 31 [.str w] g = runF Gam (callN Gam ini n) f__law_is_name [.str w] g from rfl]
  by_cases h1 : 1 ≤ (cd w).length
  · by_cases h2 : (cd w).length ≤ 8
    · have hn : nameB (cd w) = (cd w).all letB := by
        unfold nameB
        rw [decide_eq_true h1, decide_eq_true h2]
        rfl
      have l1 : decide (((cd w).length : Int) < 1) = false := decide_eq_false (by omega)
      have l2 : decide ((8 : Int) < ((cd w).length : Int)) = false := decide_eq_false (by omega)
      let σ (t : Option SV) : Sg := [(some (SV.val (.str w))), t]
      have b0 : evS Gam (callN Gam ini n) (ssNth f__law_is_name.body 0) (σ none) g = .ok (.nx, σ none) g := by simp! [ssNth, f__law_is_name, σ, len_s g hw, cmp_lt, cmp_gt, l1, l2]
      have L := loop_fix (xs := (cd w).map ch) (tg := .n 1) (body := fun σ g => evSs Gam (callN Gam ini n) f__law_is_name_b1 σ g) (Q := fun v g' => v = .v (.bl false) ∧ g' = g ∧ (cd w).all letB = false)
        (Inv := fun i σ' g' => g' = g ∧ (∃ t, isV t ∧ σ' = σ t) ∧ ∀ j c, j < i → (cd w)[j]? = some c → letB c = true)
        (fun i x σ' g' hx hI => by
          obtain ⟨rfl, ⟨t, ht, rfl⟩, hp⟩ := hI
          rw [List.getElem?_map] at hx
          obtain ⟨c, hc, rfl⟩ := Option.map_eq_some_iff.mp hx
          refine ⟨σ (some (SV.val (ch c))), by rcases ht with rfl | ⟨d, rfl⟩ <;> rfl, ?_⟩
          have nn := nin_abc g' c
          cases q : letB c with
          | true =>
            rw [q] at nn
            refine .inl ⟨σ (some (SV.val (ch c))), g', ?_, rfl, ⟨_, .inr ⟨_, rfl⟩, rfl⟩, fun j d hj hd => ?_⟩
            · simp! [f__law_is_name_b1, σ, ch, nn]
            · by_cases z : j < i
              · exact hp j d z hd
              · have : j = i := by omega
                subst this
                rw [hc] at hd
                cases hd
                exact q
          | false =>
            rw [q] at nn
            refine .inr ⟨.v (.bl false), σ (some (SV.val (ch c))), g', ?_, rfl, rfl, ?_⟩
            · simp! [f__law_is_name_b1, σ, ch, nn]
            · cases z : (cd w).all letB with
              | false => rfl
              | true =>
                have := List.all_eq_true.mp z c (List.mem_of_getElem? hc)
                rw [q] at this
                cases this)
        (((cd w).map ch).length + 1) 0 (σ none) g (by omega) (by omega) ⟨rfl, ⟨none, .inl rfl, rfl⟩, fun j c hj => by omega⟩
      have b1 : ∀ {x : R} {g' : Gs}, loopI (fun σ g => evSs Gam (callN Gam ini n) f__law_is_name_b1 σ g) (.n 1) (.fix ((cd w).map ch)) (((cd w).map ch).length + 1) 0 (σ none) g = .ok x g' → evS Gam (callN Gam ini n) (ssNth f__law_is_name.body 1) (σ none) g = .ok x g' := fun h => h
      rw [hn]
      rcases L with ⟨σ', g', e, rfl, ⟨t, ht, rfl⟩, hp⟩ | ⟨v, σ', g', e, rfl, rfl, z⟩
      · have : (cd w).all letB = true := List.all_eq_true.mpr fun c hc => by
          obtain ⟨j, hj⟩ := List.getElem?_of_mem hc
          have := (List.getElem?_eq_some_iff.mp hj).1
          exact hp j c (by rw [List.length_map]; exact this) hj
        rw [this]
        exact run_ret rfl ((ss_next 0 b0).trans ((ss_next 1 (b1 e)).trans (ss_ret 2 rfl)))
      · rw [z]
        exact run_ret rfl ((ss_next 0 b0).trans (ss_ret 1 (b1 e)))
    · have hn : nameB (cd w) = false := by
        unfold nameB
        rw [decide_eq_true h1, decide_eq_false h2]
        rfl
      have l1 : decide (((cd w).length : Int) < 1) = false := decide_eq_false (by omega)
      have l2 : decide ((8 : Int) < ((cd w).length : Int)) = true := decide_eq_true (by omega)
      rw [hn]
      simp! [f__law_is_name, len_s g hw, cmp_lt, cmp_gt, l1, l2]
  · have hn : nameB (cd w) = false := by
      unfold nameB
      rw [decide_eq_false h1]
      rfl
    have l1 : decide (((cd w).length : Int) < 1) = true := decide_eq_true (by omega)
    rw [hn]
    simp! [f__law_is_name, len_s g hw, cmp_lt, l1]
end VL

set_option maxRecDepth 20000
namespace VL
open PySem VM
theorem ch_eq (g : Gs) (a : Nat) : cmpD g .eq (.str ⟨#[a]⟩) (.str "0") = some (.bl (decide (a = 48))) := by
  rw [eqS]
  congr 2
  by_cases h : a = 48
  · subst h
    rw [decide_eq_true rfl]
    exact decide_eq_true (by decide +kernel)
  · rw [decide_eq_false h]
    refine decide_eq_false fun z => h ?_
    have e : cd (⟨#[a]⟩ : Str) = cd "0" := by rw [z]
    have e2 : cd "0" = [48] := by decide +kernel
    rw [e2] at e
    exact (List.cons.inj e).1
theorem at0 (g : Gs) {w : Str} {a : Nat} {r : List Nat} (h : cd w = a :: r) (hw : (cd w).length ≤ 100000) : idxD g (.str w) (.int 0) = some (.str ⟨#[a]⟩) := by
  show (if w.cps.size ≤ sizeM then (atI (cd w) 0).map ch else none) = _
  rw [if_pos (by rw [← cd_len]; unfold sizeM; exact hw), h]
  rw [show (0 : Int) = ((0 : Nat) : Int) from rfl, at_nat (xs := a :: r) (i := 0) (by rw [List.length_cons]; omega)]
  rfl
theorem eq_emp (g : Gs) (w : Str) : cmpD g .eq (.str w) (.str "") = some (.bl (decide (cd w = []))) := by
  rw [eqS]
  congr 2
  by_cases h : cd w = []
  · rw [decide_eq_true h]
    exact decide_eq_true (str_ext (by rw [show w.cps.toList = [] from h]; decide +kernel))
  · rw [decide_eq_false h]
    refine decide_eq_false fun z => h ?_
    rw [z]
    decide +kernel
theorem ord_ch (g : Gs) (a : Nat) : biD Gam g .ord [.str ⟨#[a]⟩] = some (.int (a : Nat)) := rfl
/-- a place's sign -/
theorem place_b (n : Nat) {w lim v : D} {a : Nat} {t : Option SV} (ht : isV t) {i : Int} (g : Gs) : evSs Gam (callN Gam ini n) f__law_place_b1 [(some (SV.val (w))), (some (SV.val (lim))), (some (SV.val (.int i))), (some (SV.val (.str ⟨#[a]⟩)))] g = if digB a = true then .ok (.nx, [(some (SV.val (w))), (some (SV.val (lim))), (some (SV.val (.int (i * 10 + (a : Int) - 48)))), (some (SV.val (.str ⟨#[a]⟩)))]) g else .ok (.ret (.v (.int (-1))), [(some (SV.val (w))), (some (SV.val (lim))), (some (SV.val (.int i))), (some (SV.val (.str ⟨#[a]⟩)))]) g := by
  have nn := nin_ten g a
  have mm : binD g .mul (.int i) (.int 10) = some (.int (i * 10)) := bin_mulR _ _ _ (by decide)
  cases q : digB a with
  | true =>
    rw [q] at nn
    simp! [f__law_place_b1, nn, mm, ord_ch, VL.bin_add, bin_sub]
  | false =>
    rw [q] at nn
    simp! [f__law_place_b1, nn]
theorem law_place_ok (n : Nat) {w : Str} (hw : (cd w).length ≤ 100000) {lim : Nat} (hl : lim ≤ 30) (g : Gs) : callN Gam ini (n + 1) 565 [.str w, .int (lim : Nat)] g = .ok (.v (.int (placeV (cd w) lim))) g := by
  rw [show callN Gam ini (n + 1) 565 [.str w, .int (lim : Nat)] g = runF Gam (callN Gam ini n) f__law_place [.str w, .int (lim : Nat)] g from rfl]
  have le := len_s g hw
  have em := eq_emp g w
  let σ (v t : Option SV) : Sg := [(some (SV.val (.str w))), (some (SV.val (.int (lim : Nat)))), v, t]
  let C := callN Gam ini n
  let body : Sg → Gs → Out R := fun σ g => evSs Gam C f__law_place_b1 σ g
  -- what follows the loop
  have fin : ∀ (v : Nat) (t : Option SV), isV t → loopI body (.n 3) (.fix ((cd w).map ch)) (((cd w).map ch).length + 1) 0 (σ (some (SV.val (.int 0))) none) g = .ok (.nx, σ (some (SV.val (.int (v : Nat)))) t) g → evS Gam C (ssNth f__law_place.body 0) (σ none none) g = .ok (.nx, σ none none) g →
      runF Gam C f__law_place [.str w, .int (lim : Nat)] g = .ok (.v (.int (if v < lim then (v : Int) else -1))) g := fun v t ht e b0 => by
    have b1 : evS Gam C (ssNth f__law_place.body 1) (σ none none) g = .ok (.nx, σ (some (SV.val (.int 0))) none) g := rfl
    have b2 : evS Gam C (ssNth f__law_place.body 2) (σ (some (SV.val (.int 0))) none) g = .ok (.nx, σ (some (SV.val (.int (v : Nat)))) t) g := e
    by_cases q : v < lim
    · rw [if_pos q]
      have d : decide ((v : Int) < (lim : Int)) = true := decide_eq_true (by omega)
      have b3 : evS Gam C (ssNth f__law_place.body 3) (σ (some (SV.val (.int (v : Nat)))) t) g = .ok (.nx, σ (some (SV.val (.int (v : Nat)))) t) g := by simp! [ssNth, f__law_place, σ, cmp_ge, d]
      exact run_ret rfl ((ss_next 0 b0).trans ((ss_next 1 b1).trans ((ss_next 2 b2).trans ((ss_next 3 b3).trans (ss_ret (v := .v (.int (v : Nat))) (σ' := σ (some (SV.val (.int (v : Nat)))) t) 4 rfl)))))
    · rw [if_neg q]
      have d : decide ((v : Int) < (lim : Int)) = false := decide_eq_false (by omega)
      have b3 : evS Gam C (ssNth f__law_place.body 3) (σ (some (SV.val (.int (v : Nat)))) t) g = .ok (.ret (.v (.int (-1))), σ (some (SV.val (.int (v : Nat)))) t) g := by simp! [ssNth, f__law_place, σ, cmp_ge, d]
      exact run_ret rfl ((ss_next 0 b0).trans ((ss_next 1 b1).trans ((ss_next 2 b2).trans (ss_ret 3 b3))))
  have out : ∀ (σ' : Sg), loopI body (.n 3) (.fix ((cd w).map ch)) (((cd w).map ch).length + 1) 0 (σ (some (SV.val (.int 0))) none) g = .ok (.ret (.v (.int (-1))), σ') g → evS Gam C (ssNth f__law_place.body 0) (σ none none) g = .ok (.nx, σ none none) g →
      runF Gam C f__law_place [.str w, .int (lim : Nat)] g = .ok (.v (.int (-1))) g := fun σ' e b0 => by
    have b1 : evS Gam C (ssNth f__law_place.body 1) (σ none none) g = .ok (.nx, σ (some (SV.val (.int 0))) none) g := rfl
    have b2 : evS Gam C (ssNth f__law_place.body 2) (σ (some (SV.val (.int 0))) none) g = .ok (.ret (.v (.int (-1))), σ') g := e
    exact run_ret rfl ((ss_next 0 b0).trans ((ss_next 1 b1).trans (ss_ret 2 b2)))
  have bad : evS Gam C (ssNth f__law_place.body 0) (σ none none) g = .ok (.ret (.v (.int (-1))), σ none none) g → runF Gam C f__law_place [.str w, .int (lim : Nat)] g = .ok (.v (.int (-1))) g := fun e => run_ret rfl (ss_ret 0 e)
  show runF Gam C f__law_place [.str w, .int (lim : Nat)] g = _
  rcases hc : cd w with _ | ⟨a, _ | ⟨b, _ | ⟨c, r⟩⟩⟩
  · have em : cmpD g .eq (.str w) (.str "") = some (.bl true) := by rw [em, decide_eq_true hc]
    rw [show placeV [] lim = -1 from by unfold placeV; rw [show numOf [] = none from by decide +kernel]]
    exact bad (by simp! [ssNth, f__law_place, σ, em])
  · have em : cmpD g .eq (.str w) (.str "") = some (.bl false) := by rw [em, decide_eq_false (by rw [hc]; exact fun z => nomatch z)]
    have l1 : (cd w).length = 1 := by rw [hc]; rfl
    have d2 : decide ((2 : Int) < (((cd w).length : Nat) : Int)) = false := decide_eq_false (by omega)
    have d1 : decide ((1 : Int) < (((cd w).length : Nat) : Int)) = false := decide_eq_false (by omega)
    have z0 := at0 g hc hw
    have b0 : evS Gam C (ssNth f__law_place.body 0) (σ none none) g = .ok (.nx, σ none none) g := by
      have ce := ch_eq g a
      cases q : decide (a = 48) <;> rw [q] at ce <;> simp! [ssNth, f__law_place, σ, em, le, cmp_gt, d2, d1, z0, ce]
    have hb := place_b n (w := .str w) (lim := .int (lim : Nat)) (v := .non) (a := a) (t := none) (.inl rfl) (i := 0) g
    rw [hc] at fin out
    unfold placeV
    rw [num1]
    cases q : digB a with
    | true =>
      rw [q, if_pos rfl] at hb
      have e := (loop_nx (body := body) (tg := .n 3) (xs := [a].map ch) (m := 1) (i := 0) (σ := σ (some (SV.val (.int 0))) none) (g := g) rfl rfl hb).trans (loop_dn (m := 0) rfl)
      have hq : 48 ≤ a ∧ a ≤ 57 := by unfold digB at q; rw [Bool.and_eq_true, decide_eq_true_eq, decide_eq_true_eq] at q; exact q
      have ev1 : (0 * 10 + (a : Int) - 48) = ((a - 48 : Nat) : Int) := by omega
      rw [ev1] at e
      rw [if_pos rfl]
      exact fin (a - 48) _ (.inr ⟨_, rfl⟩) e b0
    | false =>
      rw [q, if_neg Bool.false_ne_true] at hb
      have e := loop_rt (body := body) (tg := .n 3) (xs := [a].map ch) (m := 1) (i := 0) (σ := σ (some (SV.val (.int 0))) none) (g := g) rfl rfl hb
      rw [if_neg Bool.false_ne_true]
      exact out _ e b0
  · have em : cmpD g .eq (.str w) (.str "") = some (.bl false) := by rw [em, decide_eq_false (by rw [hc]; exact fun z => nomatch z)]
    have l1 : (cd w).length = 2 := by rw [hc]; rfl
    have d2 : decide ((2 : Int) < (((cd w).length : Nat) : Int)) = false := decide_eq_false (by omega)
    have d1 : decide ((1 : Int) < (((cd w).length : Nat) : Int)) = true := decide_eq_true (by omega)
    have z0 := at0 g hc hw
    have ce := ch_eq g a
    unfold placeV
    rw [num2]
    by_cases qa : a = 48
    · rw [decide_eq_true qa] at ce
      rw [if_neg fun z => z.2.1 qa]
      exact bad (by simp! [ssNth, f__law_place, σ, em, le, cmp_gt, d2, d1, z0, ce])
    · rw [decide_eq_false qa] at ce
      have b0 : evS Gam C (ssNth f__law_place.body 0) (σ none none) g = .ok (.nx, σ none none) g := by simp! [ssNth, f__law_place, σ, em, le, cmp_gt, d2, d1, z0, ce]
      have hb := place_b n (w := .str w) (lim := .int (lim : Nat)) (v := .non) (a := a) (t := none) (.inl rfl) (i := 0) g
      have hb2 := place_b n (w := .str w) (lim := .int (lim : Nat)) (v := .non) (a := b) (t := none) (.inl rfl) (i := 0 * 10 + (a : Int) - 48) g
      rw [hc] at fin out
      cases q : digB a with
      | false =>
        rw [q, if_neg Bool.false_ne_true] at hb
        have e := loop_rt (body := body) (tg := .n 3) (xs := [a, b].map ch) (m := 2) (i := 0) (σ := σ (some (SV.val (.int 0))) none) (g := g) rfl rfl hb
        rw [if_neg fun z => Bool.false_ne_true z.1]
        exact out _ e b0
      | true =>
        rw [q, if_pos rfl] at hb
        have e1 := loop_nx (body := body) (tg := .n 3) (xs := [a, b].map ch) (m := 2) (i := 0) (σ := σ (some (SV.val (.int 0))) none) (g := g) rfl rfl hb
        cases q2 : digB b with
        | false =>
          rw [q2, if_neg Bool.false_ne_true] at hb2
          have e := e1.trans (loop_rt (body := body) (tg := .n 3) (xs := [a, b].map ch) (m := 1) (i := 1) (g := g) rfl rfl hb2)
          rw [if_neg fun z => Bool.false_ne_true z.1]
          exact out _ e b0
        | true =>
          rw [q2, if_pos rfl] at hb2
          have e := e1.trans ((loop_nx (body := body) (tg := .n 3) (xs := [a, b].map ch) (m := 1) (i := 1) (g := g) rfl rfl hb2).trans (loop_dn (m := 0) rfl))
          have hq : 48 ≤ a ∧ a ≤ 57 := by unfold digB at q; rw [Bool.and_eq_true, decide_eq_true_eq, decide_eq_true_eq] at q; exact q
          have hq2 : 48 ≤ b ∧ b ≤ 57 := by unfold digB at q2; rw [Bool.and_eq_true, decide_eq_true_eq, decide_eq_true_eq] at q2; exact q2
          have ev1 : ((0 * 10 + (a : Int) - 48) * 10 + (b : Int) - 48) = (((a - 48) * 10 + (b - 48) : Nat) : Int) := by omega
          rw [ev1] at e
          have F := fin ((a - 48) * 10 + (b - 48)) _ (.inr ⟨_, rfl⟩) e b0
          rw [F]
          by_cases k : (a - 48) * 10 + (b - 48) < 30
          · rw [if_pos (show (true && true) = true ∧ a ≠ 48 ∧ (a - 48) * 10 + (b - 48) < 30 from ⟨rfl, qa, k⟩)]
          · rw [if_neg (show ¬ ((a - 48) * 10 + (b - 48) < lim) by omega), if_neg (show ¬ ((true && true) = true ∧ a ≠ 48 ∧ (a - 48) * 10 + (b - 48) < 30) from fun z => k z.2.2)]
  · have em : cmpD g .eq (.str w) (.str "") = some (.bl false) := by rw [em, decide_eq_false (by rw [hc]; exact fun z => nomatch z)]
    have l1 : 2 < (cd w).length := by rw [hc, List.length_cons, List.length_cons, List.length_cons]; omega
    have d2 : decide ((2 : Int) < (((cd w).length : Nat) : Int)) = true := decide_eq_true (by omega)
    unfold placeV
    rw [num3 (by rw [← hc]; exact l1)]
    exact bad (by simp! [ssNth, f__law_place, σ, em, le, cmp_gt, d2])
end VL

set_option maxRecDepth 20000
namespace VL
open PySem VM
def cv (w : List Nat) : D := match numOf w with
  | some n => .int (n : Nat)
  | none => .str (strOf w)
def readW : List (List Nat) → Option (List D)
  | [w0] => if w0 = cd "end" then some [.str "end"] else none
  | [w0, w1] => match numOf w1 with
    | some i => if i < 6 ∧ w0 = cd "put" then some [.str "put", .int (i : Nat)] else none
    | none => none
  | [w0, w1, w2] => match numOf w1 with
    | some i => if i < 6 then (if w0 = cd "wish" then (match numOf w2 with
        | some k => some [.str "wish", .int (i : Nat), .int (k : Nat)]
        | none => none) else if (w0 = cd "answer" ∨ w0 = cd "take") ∧ nameB w2 = true then some [.str (strOf w0), .int (i : Nat), .str (strOf w2)] else none) else none
    | none => none
  | _ => none
theorem readW1 (w0 : List Nat) : readW [w0] = if w0 = cd "end" then some [.str "end"] else none := rfl
theorem readW2 (w0 w1 : List Nat) : readW [w0, w1] = match numOf w1 with
    | some i => if i < 6 ∧ w0 = cd "put" then some [.str "put", .int (i : Nat)] else none
    | none => none := rfl
theorem readW3 (w0 w1 w2 : List Nat) : readW [w0, w1, w2] = match numOf w1 with
    | some i => if i < 6 then (if w0 = cd "wish" then (match numOf w2 with
        | some k => some [.str "wish", .int (i : Nat), .int (k : Nat)]
        | none => none) else if (w0 = cd "answer" ∨ w0 = cd "take") ∧ nameB w2 = true then some [.str (strOf w0), .int (i : Nat), .str (strOf w2)] else none) else none
    | none => none := rfl
theorem strOf_cd (s : Str) : strOf (cd s) = s := str_ext rfl
theorem eqW (g : Gs) (w : List Nat) (s : Str) : cmpD g .eq (.str (strOf w)) (.str s) = some (.bl (decide (w = cd s))) := by
  rw [eqS]
  congr 2
  by_cases h : w = cd s
  · subst h
    rw [decide_eq_true rfl, strOf_cd, decide_eq_true rfl]
  · rw [decide_eq_false h]
    exact decide_eq_false fun z => h (by rw [← z]; rfl)
theorem inW (w : List Nat) : inQ (.str (strOf w)) [.str "answer", .str "take"] = some (decide (w = cd "answer") || decide (w = cd "take")) := by
  have e : inQ (.str (strOf w)) [.str "answer", .str "take"] = some ((("answer" : Str) == strOf w) || ((("take" : Str) == strOf w) || false)) := rfl
  have k : ∀ s : Str, (s == strOf w) = decide (w = cd s) := fun s => by
    by_cases h : w = cd s
    · subst h
      rw [decide_eq_true rfl, strOf_cd]
      exact beq_iff_eq.mpr rfl
    · rw [decide_eq_false h]
      exact beq_eq_false_iff_ne.mpr fun z => h (by rw [z]; rfl)
  rw [e, k, k, Bool.or_false]
theorem inW_t (g : Gs) (w : List Nat) : cmpD g .inn (.str (strOf w)) (.tup [.str "answer", .str "take"]) = some (.bl (decide (w = cd "answer") || decide (w = cd "take"))) := by
  show (inQ (.str (strOf w)) [.str "answer", .str "take"]).map D.bl = _
  rw [inW]
  rfl
theorem inW_l (g : Gs) (w : List Nat) : cmpD g .inn (.str (strOf w)) (.lst [.str "answer", .str "take"]) = some (.bl (decide (w = cd "answer") || decide (w = cd "take"))) := by
  show (inQ (.str (strOf w)) [.str "answer", .str "take"]).map D.bl = _
  rw [inW]
  rfl
def isNum (w : List Nat) (m : Nat) : Bool := match numOf w with
  | some i => decide (i < m)
  | none => false
theorem is_int_ok (n : Nat) (w : List Nat) {m : Int} {k : Nat} (hm : m + 1 = (k : Nat)) (g : Gs) : callN Gam ini (n + 2) 112 [cv w, .int 0, .int m] g = .ok (.v (.bl (isNum w k))) g := by
  rw [show callN Gam ini (n + 2) 112 [cv w, .int 0, .int m] g = runF Gam (callN Gam ini (n + 1)) f_is_integer [cv w, .int 0, .int m] g from rfl]
  unfold cv isNum
  cases q : numOf w with
  | none =>
    have e : callN Gam ini (n + 1) 111 [.str (strOf w)] g = .ok (.v (.bl false)) g := rfl
    simp! [f_is_integer, e]
  | some i =>
    dsimp only
    have e : callN Gam ini (n + 1) 111 [.int (i : Nat)] g = .ok (.v (.bl true)) g := rfl
    have d0 : decide (((i : Nat) : Int) < 0) = false := decide_eq_false (by omega)
    by_cases h : i < k
    · have d1 : decide (m < ((i : Nat) : Int)) = false := decide_eq_false (by omega)
      rw [show decide (i < k) = true from decide_eq_true h]
      simp! [f_is_integer, e, cmp_le, d0, d1]
    · have d1 : decide (m < ((i : Nat) : Int)) = true := decide_eq_true (by omega)
      rw [show decide (i < k) = false from decide_eq_false h]
      simp! [f_is_integer, e, cmp_le, d0, d1]
theorem digs_let {n : Nat} (h : n < 100) : nameB (digs n) = false := by
  cases q : nameB (digs n) with
  | false => rfl
  | true =>
    unfold nameB at q
    simp only [Bool.and_eq_true, decide_eq_true_eq] at q
    obtain ⟨h1, h2, h3⟩ := q
    cases e : digs n with
    | nil => rw [e] at h1; exact absurd h1 (by decide)
    | cons a r =>
      have := List.all_eq_true.mp h3 a (by rw [e]; exact List.mem_cons_self ..)
      unfold letB at this
      rw [Bool.and_eq_true, decide_eq_true_eq, decide_eq_true_eq] at this
      have := digs_asc h a (by rw [e]; exact List.mem_cons_self ..)
      omega
theorem is_name_cv (n : Nat) {w : List Nat} (hw : w.length ≤ 100000) (g : Gs) : callN Gam ini (n + 1) 1 [cv w] g = .ok (.v (.bl (nameB w))) g := by
  unfold cv
  cases q : numOf w with
  | none => exact is_name_ok n (w := strOf w) hw g
  | some i =>
    obtain ⟨h1, rfl⟩ := numOf_iff.mp q
    rw [digs_let (by omega)]
    rfl
def stepB (w0 : List Nat) (L : Nat) (b1 b2 b3 : Bool) : Bool :=
  if w0 = cd "end" then decide (L = 1) else if L < 2 ∨ b1 = false then false else if w0 = cd "put" then decide (L = 2) else if L ≠ 3 then false else if w0 = cd "wish" then b2 else (decide (w0 = cd "answer") || decide (w0 = cd "take")) && b3
theorem con13 : Gam.con 13 = some (.int 6) := rfl
theorem con14 : Gam.con 14 = some (.int 29) := rfl
theorem step_gen (n : Nat) {xs : List D} {w0 : List Nat} {L : Nat} {c1 c2 : D} {b1 b2 b3 : Bool} {g : Gs} (hl : lenD g (.tup xs) = some L) (he : cmpD g .eq (.tup xs) (.tup []) = some (.bl false)) (i0 : idxD g (.tup xs) (.int 0) = some (.str (strOf w0)))
    (i1 : 2 ≤ L → idxD g (.tup xs) (.int 1) = some c1 ∧ callN Gam ini (n + 2) 112 [c1, .int 0, .int (6 - 1)] g = .ok (.v (.bl b1)) g) (i2 : L = 3 → idxD g (.tup xs) (.int 2) = some c2 ∧ callN Gam ini (n + 2) 112 [c2, .int 0, .int 29] g = .ok (.v (.bl b2)) g ∧ callN Gam ini (n + 2) 1 [c2] g = .ok (.v (.bl b3)) g) :
    callN Gam ini (n + 3) 123 [.tup xs] g = .ok (.v (.bl (stepB w0 L b1 b2 b3))) g := by
  rw [show callN Gam ini (n + 3) 123 [.tup xs] g = runF Gam (callN Gam ini (n + 2)) f_is_step [.tup xs] g from rfl]
  have ti : isTs Gam g (.tup xs) [.tuple] = some true := rfl
  have q1 := eqW g w0 "end"
  have q2 := eqW g w0 "put"
  have q3 := eqW g w0 "wish"
  have q4 := inW_t g w0
  unfold stepB
  by_cases h1 : w0 = cd "end"
  · rw [if_pos h1]
    rw [decide_eq_true h1] at q1
    have d1 : decide ((L : Int) = 1) = decide (L = 1) := by
      by_cases z : L = 1
      · rw [decide_eq_true z, decide_eq_true (by omega)]
      · rw [decide_eq_false z, decide_eq_false (by omega)]
    simp! [f_is_step, ti, he, i0, q1, hl, d1]
  · rw [if_neg h1]
    rw [decide_eq_false h1] at q1
    by_cases h2 : L < 2
    · rw [if_pos (.inl h2)]
      have d2 : decide ((L : Int) < 2) = true := decide_eq_true (by omega)
      simp! [f_is_step, ti, he, i0, q1, hl, cmp_lt, d2]
    · have d2 : decide ((L : Int) < 2) = false := decide_eq_false (by omega)
      obtain ⟨ii1, j1⟩ := i1 (by omega)
      cases b1 with
      | false =>
        rw [if_pos (.inr rfl)]
        simp! [f_is_step, ti, he, i0, q1, hl, cmp_lt, d2, ii1, con13, bin_sub, j1]
      | true =>
        rw [if_neg fun z => z.elim (fun z => h2 z) (fun z => nomatch z)]
        by_cases h3 : w0 = cd "put"
        · rw [if_pos h3]
          rw [decide_eq_true h3] at q2
          have d3 : decide ((L : Int) = 2) = decide (L = 2) := by
            by_cases z : L = 2
            · rw [decide_eq_true z, decide_eq_true (by omega)]
            · rw [decide_eq_false z, decide_eq_false (by omega)]
          simp! [f_is_step, ti, he, i0, q1, hl, cmp_lt, d2, ii1, con13, bin_sub, j1, q2, d3]
        · rw [if_neg h3]
          rw [decide_eq_false h3] at q2
          by_cases h4 : L = 3
          · rw [if_neg fun z => z h4]
            have d4 : decide ((L : Int) = 3) = true := decide_eq_true (by omega)
            obtain ⟨ii2, j2, j3⟩ := i2 h4
            by_cases h5 : w0 = cd "wish"
            · rw [if_pos h5]
              rw [decide_eq_true h5] at q3
              simp! [f_is_step, ti, he, i0, q1, hl, cmp_lt, d2, ii1, con13, con14, bin_sub, j1, q2, d4, q3, ii2, j2]
            · rw [if_neg h5]
              rw [decide_eq_false h5] at q3
              cases q5 : (decide (w0 = cd "answer") || decide (w0 = cd "take")) with
              | true =>
                rw [q5] at q4
                simp! [f_is_step, ti, he, i0, q1, hl, cmp_lt, d2, ii1, con13, con14, bin_sub, j1, q2, d4, q3, ii2, j3, q4]
                all_goals rfl
              | false =>
                rw [q5] at q4
                simp! [f_is_step, ti, he, i0, q1, hl, cmp_lt, d2, ii1, con13, con14, bin_sub, j1, q2, d4, q3, q4]
                all_goals rfl
          · rw [if_pos h4]
            have d4 : decide ((L : Int) = 3) = false := decide_eq_false (by omega)
            simp! [f_is_step, ti, he, i0, q1, hl, cmp_lt, d2, ii1, con13, bin_sub, j1, q2, d4]
def stp : List (List Nat) → List D
  | [] => []
  | w :: r => .str (strOf w) :: r.map cv
theorem isNum30 (w : List Nat) : isNum w 30 = (numOf w).isSome := by
  unfold isNum
  cases q : numOf w with
  | none => rfl
  | some i =>
    have := (numOf_iff.mp q).1
    exact decide_eq_true this
theorem k_ne1 : cd "end" ≠ cd "put" := by decide +kernel
theorem k_ne2 : cd "wish" ≠ cd "put" := by decide +kernel
theorem k_ne3 : cd "wish" ≠ cd "end" := by decide +kernel
theorem k_ne4 : cd "answer" ≠ cd "put" := by decide +kernel
theorem k_ne5 : cd "answer" ≠ cd "end" := by decide +kernel
theorem k_ne6 : cd "take" ≠ cd "put" := by decide +kernel
theorem k_ne7 : cd "take" ≠ cd "end" := by decide +kernel
theorem is_step_ok (n : Nat) {w0 : List Nat} {ws : List (List Nat)} (hw : ∀ w ∈ ws, w.length ≤ 100000) (g : Gs) : callN Gam ini (n + 3) 123 [.tup (stp (w0 :: ws))] g = .ok (.v (.bl (readW (w0 :: ws)).isSome)) g := by
  have hn : ∀ w, callN Gam ini (n + 2) 112 [cv w, .int 0, .int (6 - 1)] g = .ok (.v (.bl (isNum w 6))) g := fun w => is_int_ok n w (by decide) g
  have hn2 : ∀ w, callN Gam ini (n + 2) 112 [cv w, .int 0, .int 29] g = .ok (.v (.bl (isNum w 30))) g := fun w => is_int_ok n w (by decide) g
  rcases ws with _ | ⟨w1, _ | ⟨w2, _ | ⟨w3, r⟩⟩⟩
  · rw [step_gen n (xs := stp [w0]) (w0 := w0) (L := 1) (c1 := .non) (c2 := .non) (b1 := false) (b2 := false) (b3 := false) rfl rfl rfl (fun h => absurd h (by decide)) (fun h => absurd h (by decide))]
    congr 3
    rw [readW1]
    unfold stepB
    by_cases h1 : w0 = cd "end"
    · rw [if_pos h1, if_pos h1]; rfl
    · rw [if_neg h1, if_neg h1, if_pos (.inl (by decide))]; rfl
  · rw [step_gen n (xs := stp [w0, w1]) (w0 := w0) (L := 2) (c1 := cv w1) (c2 := .non) (b2 := false) (b3 := false) rfl rfl rfl (fun _ => ⟨rfl, hn w1⟩) (fun h => absurd h (by decide))]
    congr 3
    rw [readW2]
    cases q : numOf w1 with
    | none =>
      have hb : isNum w1 6 = false := by unfold isNum; rw [q]
      rw [hb]
      unfold stepB
      by_cases h1 : w0 = cd "end"
      · rw [if_pos h1]; rfl
      · rw [if_neg h1, if_pos (.inr rfl)]; rfl
    | some i =>
      dsimp only
      by_cases h3 : i < 6
      · have hb : isNum w1 6 = true := by unfold isNum; rw [q]; exact decide_eq_true h3
        rw [hb]
        unfold stepB
        by_cases h2 : w0 = cd "put"
        · rw [if_neg fun z => k_ne1 (z.symm.trans h2), if_neg fun z => z.elim (fun z => absurd z (by decide)) (fun z => nomatch z), if_pos h2, if_pos ⟨h3, h2⟩]; rfl
        · rw [show (if i < 6 ∧ w0 = cd "put" then some [D.str "put", .int (i : Nat)] else none) = none from if_neg fun z => h2 z.2]
          by_cases h1 : w0 = cd "end"
          · rw [if_pos h1]; rfl
          · rw [if_neg h1, if_neg fun z => z.elim (fun z => absurd z (by decide)) (fun z => nomatch z), if_neg h2, if_pos (by decide)]; rfl
      · have hb : isNum w1 6 = false := by unfold isNum; rw [q]; exact decide_eq_false h3
        rw [hb, show (if i < 6 ∧ w0 = cd "put" then some [D.str "put", .int (i : Nat)] else none) = none from if_neg fun z => h3 z.1]
        unfold stepB
        by_cases h1 : w0 = cd "end"
        · rw [if_pos h1]; rfl
        · rw [if_neg h1, if_pos (.inr rfl)]; rfl
  · rw [step_gen n (xs := stp [w0, w1, w2]) (w0 := w0) (L := 3) (c1 := cv w1) (c2 := cv w2) rfl rfl rfl (fun _ => ⟨rfl, hn w1⟩) (fun _ => ⟨rfl, hn2 w2, is_name_cv (n + 1) (hw w2 (by simp)) g⟩)]
    congr 3
    rw [isNum30, readW3]
    cases q : numOf w1 with
    | none =>
      have hb : isNum w1 6 = false := by unfold isNum; rw [q]
      rw [hb]
      unfold stepB
      by_cases h1 : w0 = cd "end"
      · rw [if_pos h1]; rfl
      · rw [if_neg h1, if_pos (.inr rfl)]; rfl
    | some i =>
      dsimp only
      by_cases h3 : i < 6
      · have hb : isNum w1 6 = true := by unfold isNum; rw [q]; exact decide_eq_true h3
        rw [hb, if_pos h3]
        unfold stepB
        by_cases h5 : w0 = cd "wish"
        · rw [if_neg fun z => k_ne3 (h5.symm.trans z), if_neg fun z => z.elim (fun z => absurd z (by decide)) (fun z => nomatch z), if_neg fun z => k_ne2 (h5.symm.trans z), if_neg fun z => z rfl, if_pos h5, if_pos h5]
          cases numOf w2 <;> rfl
        · rw [if_neg (c := w0 = cd "wish") (e := (if (w0 = cd "answer" ∨ w0 = cd "take") ∧ nameB w2 = true then some [D.str (strOf w0), .int (i : Nat), .str (strOf w2)] else none)) h5]
          by_cases h6 : w0 = cd "answer" ∨ w0 = cd "take"
          · have hq : (decide (w0 = cd "answer") || decide (w0 = cd "take")) = true := by
              rw [Bool.or_eq_true, decide_eq_true_eq, decide_eq_true_eq]
              exact h6
            have n1 : ¬ w0 = cd "end" := fun z => h6.elim (fun y => k_ne5 (y.symm.trans z)) (fun y => k_ne7 (y.symm.trans z))
            have n2 : ¬ w0 = cd "put" := fun z => h6.elim (fun y => k_ne4 (y.symm.trans z)) (fun y => k_ne6 (y.symm.trans z))
            rw [if_neg n1, if_neg fun z => z.elim (fun z => absurd z (by decide)) (fun z => nomatch z), if_neg n2, if_neg fun z => z rfl, if_neg h5, hq]
            cases hb : nameB w2 with
            | true => rw [if_pos ⟨h6, rfl⟩]; rfl
            | false => rw [if_neg fun z => nomatch z.2]; rfl
          · have hq : (decide (w0 = cd "answer") || decide (w0 = cd "take")) = false := by
              cases q : (decide (w0 = cd "answer") || decide (w0 = cd "take")) with
              | false => rfl
              | true =>
                rw [Bool.or_eq_true, decide_eq_true_eq, decide_eq_true_eq] at q
                exact absurd q h6
            rw [show (if (w0 = cd "answer" ∨ w0 = cd "take") ∧ nameB w2 = true then some [D.str (strOf w0), .int (i : Nat), .str (strOf w2)] else none) = none from if_neg fun z => h6 z.1]
            by_cases n1 : w0 = cd "end"
            · rw [if_pos n1]; rfl
            · rw [if_neg n1, if_neg fun z => z.elim (fun z => absurd z (by decide)) (fun z => nomatch z)]
              by_cases n2 : w0 = cd "put"
              · rw [if_pos n2]; rfl
              · rw [if_neg n2, if_neg fun z => z rfl, if_neg h5, hq]; rfl
      · have hb : isNum w1 6 = false := by unfold isNum; rw [q]; exact decide_eq_false h3
        rw [hb, if_neg h3]
        unfold stepB
        by_cases n1 : w0 = cd "end"
        · rw [if_pos n1]; rfl
        · rw [if_neg n1, if_pos (.inr rfl)]; rfl
  · have hl : ∀ g, lenD g (.tup (stp (w0 :: w1 :: w2 :: w3 :: r))) = some (r.length + 4) := fun g => by
      show some ((w1 :: w2 :: w3 :: r).map cv).length.succ = _
      rw [List.length_map]
      rfl
    have at_ : ∀ (xs : List D) (i : Nat) (h : i < xs.length), idxD g (.tup xs) (.int (i : Nat)) = some xs[i] := fun xs i h => at_nat h
    have len4 : 2 ≤ (stp (w0 :: w1 :: w2 :: w3 :: r)).length := by
      show 2 ≤ ((w1 :: w2 :: w3 :: r).map cv).length.succ
      rw [List.length_map]
      show 2 ≤ r.length + 4
      omega
    rw [step_gen n (xs := stp (w0 :: w1 :: w2 :: w3 :: r)) (w0 := w0) (L := r.length + 4) (c1 := cv w1) (c2 := .non) (b2 := false) (b3 := false) (hl g) rfl (at_ _ 0 (by omega)) (fun _ => ⟨at_ _ 1 (by omega), hn w1⟩) (fun h => absurd h (by omega))]
    congr 3
    unfold stepB
    rw [show readW (w0 :: w1 :: w2 :: w3 :: r) = none from rfl]
    by_cases n1 : w0 = cd "end"
    · rw [if_pos n1]; exact decide_eq_false (by omega)
    · rw [if_neg n1]
      split
      · rfl
      · by_cases n2 : w0 = cd "put"
        · rw [if_pos n2]; exact decide_eq_false (by omega)
        · rw [if_neg n2, if_pos (by omega)]; rfl
end VL

set_option maxRecDepth 20000
namespace VL
open PySem VM
def W (ws : List (List Nat)) : List D := ws.map fun w => D.str (strOf w)
theorem spl_sp (l : Str) (h : (cd l).length + 2 ≤ 100000) : splD (.str l) (.str " ") = some (W (splitL 32 (cd l))) := by
  have e : (" " : Str).cps.toList = [32] := by decide +kernel
  unfold splD
  dsimp only
  rw [e]
  show (if 32 < 256 ∧ l.cps.size + 2 ≤ sizeM then some ((splitL 32 l.cps.toList).map fun l => D.str (strOf l)) else none) = _
  rw [if_pos ⟨by decide, by rw [← cd_len]; unfold sizeM; exact h⟩]
  rfl
theorem spl_nl (l : Str) (h : (cd l).length + 2 ≤ 100000) : splD (.str l) (.str "\n") = some (W (splitL 10 (cd l))) := by
  have e : ("\n" : Str).cps.toList = [10] := by decide +kernel
  unfold splD
  dsimp only
  rw [e]
  show (if 10 < 256 ∧ l.cps.size + 2 ≤ sizeM then some ((splitL 10 l.cps.toList).map fun l => D.str (strOf l)) else none) = _
  rw [if_pos ⟨by decide, by rw [← cd_len]; unfold sizeM; exact h⟩]
  rfl
def readB (w0 : List Nat) (L : Nat) (p1 p2 : Int) (b3 : Bool) (c2 : D) : D :=
  if w0 = cd "end" ∧ L = 1 then .tup [.str "end"] else if L < 2 ∨ p1 < 0 then .non else if w0 = cd "put" ∧ L = 2 then .tup [.str "put", .int p1] else if L ≠ 3 then .non else
    if w0 = cd "wish" ∧ 0 ≤ p2 then .tup [.str "wish", .int p1, .int p2] else if (decide (w0 = cd "answer") || decide (w0 = cd "take")) = true ∧ b3 = true then .tup [.str (strOf w0), .int p1, c2] else .non
theorem read_gen (n : Nat) {l : Str} {xs : List D} {w0 : List Nat} {L : Nat} {c1 c2 : D} {p1 p2 : Int} {b3 : Bool} {g : Gs} (hs : splD (.str l) (.str " ") = some xs) (hl : lenD g (.lst xs) = some L) (i0 : idxD g (.lst xs) (.int 0) = some (.str (strOf w0)))
    (i1 : 2 ≤ L → idxD g (.lst xs) (.int 1) = some c1 ∧ callN Gam ini (n + 1) 565 [c1, .int 6] g = .ok (.v (.int p1)) g) (i2 : L = 3 → idxD g (.lst xs) (.int 2) = some c2 ∧ callN Gam ini (n + 1) 565 [c2, .int 30] g = .ok (.v (.int p2)) g ∧ callN Gam ini (n + 1) 31 [c2] g = .ok (.v (.bl b3)) g) :
    callN Gam ini (n + 2) 106 [.str l] g = .ok (.v (readB w0 L p1 p2 b3 c2)) g := by
  rw [show callN Gam ini (n + 2) 106 [.str l] g = runF Gam (callN Gam ini (n + 1)) f__law_read [.str l] g from rfl]
  let C := callN Gam ini (n + 1)
  let σ (a b : Option SV) : Sg := [(some (SV.val (.str l))), a, b]
  have q1 := eqW g w0 "end"
  have q2 := eqW g w0 "put"
  have q3 := eqW g w0 "wish"
  have q4 := inW_l g w0
  have b0 : evS Gam C (ssNth f__law_read.body 0) (σ none none) g = .ok (.nx, σ (some (SV.val (.lst xs))) none) g := by
    have : evF Gam C (.split (.v 0) (.cst (.str " "))) (σ none none) g = .ok (.l xs) g := by
      simp only [evF, evE, Out.bind, Out.opt, getV, σ, List.getElem?_cons_zero, hs, Out.optL]
    have e : evS Gam C (ssNth f__law_read.body 0) (σ none none) g = ((evF Gam C (.split (.v 0) (.cst (.str " "))) (σ none none) g).bind fun r g => .ok (r.dI g.next) (r.gI g)).bind fun x g => Out.opt ((bindT g (σ none none) x (.n 1)).map fun σ => (.nx, σ)) g := by
      simp only [ssNth, f__law_read, evS, evE]
    rw [e, this]
    rfl
  have d1 : decide ((L : Int) = 1) = decide (L = 1) := by
    by_cases z : L = 1
    · rw [decide_eq_true z, decide_eq_true (by omega)]
    · rw [decide_eq_false z, decide_eq_false (by omega)]
  unfold readB
  by_cases h1 : w0 = cd "end" ∧ L = 1
  · rw [if_pos h1]
    rw [decide_eq_true h1.1] at q1
    rw [decide_eq_true h1.2] at d1
    have b1 : evS Gam C (ssNth f__law_read.body 1) (σ (some (SV.val (.lst xs))) none) g = .ok (.ret (.v (.tup [.str "end"])), σ (some (SV.val (.lst xs))) none) g := by simp! [ssNth, f__law_read, σ, C, i0, q1, hl, d1]
    exact run_ret rfl ((ss_next 0 b0).trans (ss_ret 1 b1))
  · rw [if_neg h1]
    have b1 : evS Gam C (ssNth f__law_read.body 1) (σ (some (SV.val (.lst xs))) none) g = .ok (.nx, σ (some (SV.val (.lst xs))) none) g := by
      by_cases z : w0 = cd "end"
      · rw [decide_eq_true z] at q1
        rw [decide_eq_false (fun y => h1 ⟨z, y⟩)] at d1
        simp! [ssNth, f__law_read, σ, C, i0, q1, hl, d1]
      · rw [decide_eq_false z] at q1
        simp! [ssNth, f__law_read, σ, C, i0, q1]
    by_cases h2 : L < 2
    · rw [if_pos (.inl h2)]
      have d2 : decide ((L : Int) < 2) = true := decide_eq_true (by omega)
      have b2 : evS Gam C (ssNth f__law_read.body 2) (σ (some (SV.val (.lst xs))) none) g = .ok (.ret (.v .non), σ (some (SV.val (.lst xs))) none) g := by simp! [ssNth, f__law_read, σ, C, hl, cmp_lt, d2]
      exact run_ret rfl ((ss_next 0 b0).trans ((ss_next 1 b1).trans (ss_ret 2 b2)))
    · have d2 : decide ((L : Int) < 2) = false := decide_eq_false (by omega)
      obtain ⟨ii1, j1⟩ := i1 (by omega)
      by_cases h3 : p1 < 0
      · rw [if_pos (.inr h3)]
        have d3 : decide (p1 < 0) = true := decide_eq_true h3
        have b2 : evS Gam C (ssNth f__law_read.body 2) (σ (some (SV.val (.lst xs))) none) g = .ok (.ret (.v .non), σ (some (SV.val (.lst xs))) none) g := by simp! [ssNth, f__law_read, σ, C, hl, cmp_lt, d2, ii1, j1, d3]
        exact run_ret rfl ((ss_next 0 b0).trans ((ss_next 1 b1).trans (ss_ret 2 b2)))
      · rw [if_neg fun z => z.elim h2 h3]
        have d3 : decide (p1 < 0) = false := decide_eq_false h3
        have b2 : evS Gam C (ssNth f__law_read.body 2) (σ (some (SV.val (.lst xs))) none) g = .ok (.nx, σ (some (SV.val (.lst xs))) none) g := by simp! [ssNth, f__law_read, σ, C, hl, cmp_lt, d2, ii1, j1, d3]
        have b3' : evS Gam C (ssNth f__law_read.body 3) (σ (some (SV.val (.lst xs))) none) g = .ok (.nx, σ (some (SV.val (.lst xs))) (some (SV.val (.int p1)))) g := by simp! [ssNth, f__law_read, σ, C, ii1, j1]
        have d4 : decide ((L : Int) = 2) = decide (L = 2) := by
          by_cases z : L = 2
          · rw [decide_eq_true z, decide_eq_true (by omega)]
          · rw [decide_eq_false z, decide_eq_false (by omega)]
        by_cases h4 : w0 = cd "put" ∧ L = 2
        · rw [if_pos h4]
          rw [decide_eq_true h4.1] at q2
          rw [decide_eq_true h4.2] at d4
          have b4 : evS Gam C (ssNth f__law_read.body 4) (σ (some (SV.val (.lst xs))) (some (SV.val (.int p1)))) g = .ok (.ret (.v (.tup [.str "put", .int p1])), σ (some (SV.val (.lst xs))) (some (SV.val (.int p1)))) g := by simp! [ssNth, f__law_read, σ, C, i0, q2, hl, d4]
          exact run_ret rfl ((ss_next 0 b0).trans ((ss_next 1 b1).trans ((ss_next 2 b2).trans ((ss_next 3 b3').trans (ss_ret 4 b4)))))
        · rw [if_neg h4]
          have b4 : evS Gam C (ssNth f__law_read.body 4) (σ (some (SV.val (.lst xs))) (some (SV.val (.int p1)))) g = .ok (.nx, σ (some (SV.val (.lst xs))) (some (SV.val (.int p1)))) g := by
            by_cases z : w0 = cd "put"
            · rw [decide_eq_true z] at q2
              rw [decide_eq_false (fun y => h4 ⟨z, y⟩)] at d4
              simp! [ssNth, f__law_read, σ, C, i0, q2, hl, d4]
            · rw [decide_eq_false z] at q2
              simp! [ssNth, f__law_read, σ, C, i0, q2]
          have pre := fun {R : Out (Fl × Sg)} (e : evSs Gam C (ssDrop f__law_read.body 5) (σ (some (SV.val (.lst xs))) (some (SV.val (.int p1)))) g = R) => (ss_next 0 b0).trans ((ss_next 1 b1).trans ((ss_next 2 b2).trans ((ss_next 3 b3').trans ((ss_next 4 b4).trans e))))
          by_cases h5 : L = 3
          · rw [if_neg fun z => z h5]
            have d5 : decide ((L : Int) = 3) = true := decide_eq_true (by omega)
            have b5 : evS Gam C (ssNth f__law_read.body 5) (σ (some (SV.val (.lst xs))) (some (SV.val (.int p1)))) g = .ok (.nx, σ (some (SV.val (.lst xs))) (some (SV.val (.int p1)))) g := by simp! [ssNth, f__law_read, σ, C, hl, d5]
            obtain ⟨ii2, j2, j3⟩ := i2 h5
            by_cases h6 : w0 = cd "wish" ∧ 0 ≤ p2
            · rw [if_pos h6]
              rw [decide_eq_true h6.1] at q3
              have d6 : decide (p2 < 0) = false := decide_eq_false (by omega)
              have b6 : evS Gam C (ssNth f__law_read.body 6) (σ (some (SV.val (.lst xs))) (some (SV.val (.int p1)))) g = .ok (.ret (.v (.tup [.str "wish", .int p1, .int p2])), σ (some (SV.val (.lst xs))) (some (SV.val (.int p1)))) g := by simp! [ssNth, f__law_read, σ, C, i0, q3, ii2, j2, cmp_ge, d6]
              exact run_ret rfl (pre ((ss_next 5 b5).trans (ss_ret 6 b6)))
            · rw [if_neg h6]
              have b6 : evS Gam C (ssNth f__law_read.body 6) (σ (some (SV.val (.lst xs))) (some (SV.val (.int p1)))) g = .ok (.nx, σ (some (SV.val (.lst xs))) (some (SV.val (.int p1)))) g := by
                by_cases z : w0 = cd "wish"
                · rw [decide_eq_true z] at q3
                  have d6 : decide (p2 < 0) = true := decide_eq_true (by
                    by_cases y : p2 < 0
                    · exact y
                    · exact absurd ⟨z, by omega⟩ h6)
                  simp! [ssNth, f__law_read, σ, C, i0, q3, ii2, j2, cmp_ge, d6]
                · rw [decide_eq_false z] at q3
                  simp! [ssNth, f__law_read, σ, C, i0, q3]
              have fl : evF Gam C (.lst (.cons (.cst (.str "answer")) (.cons (.cst (.str "take")) .nil))) (σ (some (SV.val (.lst xs))) (some (SV.val (.int p1)))) g = .ok (.l [.str "answer", .str "take"]) g := rfl
              have fl : evF Gam C (.lst (.cons (.cst (.str "answer")) (.cons (.cst (.str "take")) .nil))) [(some (SV.val (.str l))), (some (SV.val (.lst xs))), (some (SV.val (.int p1)))] g = .ok (.l [.str "answer", .str "take"]) g := fl
              by_cases h7 : (decide (w0 = cd "answer") || decide (w0 = cd "take")) = true ∧ b3 = true
              · rw [if_pos h7]
                rw [h7.1] at q4
                rw [h7.2] at j3
                have b7 : evS Gam C (ssNth f__law_read.body 7) (σ (some (SV.val (.lst xs))) (some (SV.val (.int p1)))) g = .ok (.ret (.v (.tup [.str (strOf w0), .int p1, c2])), σ (some (SV.val (.lst xs))) (some (SV.val (.int p1)))) g := by
                  simp! [ssNth, f__law_read, σ, C, i0, Fr.dI, Fr.gI, q4, ii2, j3]
                exact run_ret rfl (pre ((ss_next 5 b5).trans ((ss_next 6 b6).trans (ss_ret 7 b7))))
              · rw [if_neg h7]
                have b7 : evS Gam C (ssNth f__law_read.body 7) (σ (some (SV.val (.lst xs))) (some (SV.val (.int p1)))) g = .ok (.nx, σ (some (SV.val (.lst xs))) (some (SV.val (.int p1)))) g := by
                  cases q5 : (decide (w0 = cd "answer") || decide (w0 = cd "take")) with
                  | false =>
                    rw [q5] at q4
                    simp! [ssNth, f__law_read, σ, C, i0, Fr.dI, Fr.gI, q4]
                  | true =>
                    rw [q5] at q4 h7
                    have : b3 = false := by cases b3 with
                      | false => rfl
                      | true => exact absurd ⟨rfl, rfl⟩ h7
                    rw [this] at j3
                    simp! [ssNth, f__law_read, σ, C, i0, Fr.dI, Fr.gI, q4, ii2, j3]
                exact run_ret rfl (pre ((ss_next 5 b5).trans ((ss_next 6 b6).trans ((ss_next 7 b7).trans (ss_ret (v := .v .non) (σ' := σ (some (SV.val (.lst xs))) (some (SV.val (.int p1)))) 8 rfl)))))
          · rw [if_pos h5]
            have d5 : decide ((L : Int) = 3) = false := decide_eq_false (by omega)
            have b5 : evS Gam C (ssNth f__law_read.body 5) (σ (some (SV.val (.lst xs))) (some (SV.val (.int p1)))) g = .ok (.ret (.v .non), σ (some (SV.val (.lst xs))) (some (SV.val (.int p1)))) g := by simp! [ssNth, f__law_read, σ, C, hl, d5]
            exact run_ret rfl (pre (ss_ret 5 b5))
def rdD : Option (List D) → D
  | some ds => .tup ds
  | none => .non
theorem placeV30 (w : List Nat) : placeV w 30 = match numOf w with
    | some k => ((k : Nat) : Int)
    | none => -1 := by
  unfold placeV
  cases q : numOf w with
  | none => rfl
  | some i =>
    have := (numOf_iff.mp q).1
    show (if i < 30 then ((i : Nat) : Int) else -1) = _
    rw [if_pos this]
theorem law_read_ok (n : Nat) {l : Str} (hl : (cd l).length + 2 ≤ 100000) (hw : ∀ w ∈ splitL 32 (cd l), w.length ≤ 100000) (hne : splitL 32 (cd l) ≠ []) (g : Gs) : callN Gam ini (n + 2) 106 [.str l] g = .ok (.v (rdD (readW (splitL 32 (cd l))))) g := by
  have hs := spl_sp l hl
  generalize splitL 32 (cd l) = ws at hs hw hne
  have hp : ∀ w, w ∈ ws → callN Gam ini (n + 1) 565 [.str (strOf w), .int 6] g = .ok (.v (.int (placeV w 6))) g := fun w h => law_place_ok n (w := strOf w) (hw w h) (lim := 6) (by decide) g
  have hp2 : ∀ w, w ∈ ws → callN Gam ini (n + 1) 565 [.str (strOf w), .int 30] g = .ok (.v (.int (placeV w 30))) g := fun w h => law_place_ok n (w := strOf w) (hw w h) (lim := 30) (by decide) g
  have hnm : ∀ w, w ∈ ws → callN Gam ini (n + 1) 31 [.str (strOf w)] g = .ok (.v (.bl (nameB w))) g := fun w h => law_is_name_ok n (w := strOf w) (hw w h) g
  have neg : ∀ w, placeV w 6 < 0 ↔ isNum w 6 = false := fun w => by
    unfold placeV isNum
    cases numOf w with
    | none => exact ⟨fun _ => rfl, fun _ => by decide⟩
    | some i =>
      dsimp only
      by_cases z : i < 6
      · rw [if_pos z, decide_eq_true z]; exact ⟨fun y => absurd y (by omega), fun y => nomatch y⟩
      · rw [if_neg z, decide_eq_false z]; exact ⟨fun _ => rfl, fun _ => by decide⟩
  rcases ws with _ | ⟨w0, _ | ⟨w1, _ | ⟨w2, _ | ⟨w3, r⟩⟩⟩⟩
  · exact absurd rfl hne
  · rw [read_gen n (xs := W [w0]) (w0 := w0) (L := 1) (c1 := .non) (c2 := .non) (p1 := 0) (p2 := 0) (b3 := false) hs rfl rfl (fun h => absurd h (by decide)) (fun h => absurd h (by decide)), readW1]
    congr 2
    unfold readB
    by_cases h : w0 = cd "end"
    · rw [if_pos ⟨h, rfl⟩, if_pos h]; rfl
    · rw [if_neg fun z => h z.1, if_pos (.inl (by decide)), if_neg h]; rfl
  · rw [read_gen n (xs := W [w0, w1]) (w0 := w0) (L := 2) (c1 := .str (strOf w1)) (c2 := .non) (p2 := 0) (b3 := false) hs rfl rfl (fun _ => ⟨rfl, hp w1 (by simp)⟩) (fun h => absurd h (by decide)), readW2]
    congr 2
    have ng := neg w1
    unfold readB
    rw [if_neg fun z => absurd z.2 (by decide)]
    cases q : numOf w1 with
    | none =>
      have : placeV w1 6 < 0 := ng.mpr (by unfold isNum; rw [q])
      rw [if_pos (.inr this)]; rfl
    | some i =>
      dsimp only
      by_cases h3 : i < 6
      · have e : placeV w1 6 = (i : Nat) := by unfold placeV; rw [q]; exact if_pos h3
        rw [e, if_neg fun z => z.elim (fun z => absurd z (by decide)) (fun z => absurd z (by omega))]
        by_cases h2 : w0 = cd "put"
        · rw [if_pos ⟨h2, rfl⟩, if_pos ⟨h3, h2⟩]; rfl
        · rw [if_neg fun z => h2 z.1, if_pos (by decide), show (if i < 6 ∧ w0 = cd "put" then some [D.str "put", .int (i : Nat)] else none) = none from if_neg fun z => h2 z.2]; rfl
      · have : placeV w1 6 < 0 := ng.mpr (by unfold isNum; rw [q]; exact decide_eq_false h3)
        rw [if_pos (.inr this), show (if i < 6 ∧ w0 = cd "put" then some [D.str "put", .int (i : Nat)] else none) = none from if_neg fun z => h3 z.1]; rfl
  · rw [read_gen n (xs := W [w0, w1, w2]) (w0 := w0) (L := 3) (c1 := .str (strOf w1)) (c2 := .str (strOf w2)) hs rfl rfl (fun _ => ⟨rfl, hp w1 (by simp)⟩) (fun _ => ⟨rfl, hp2 w2 (by simp), hnm w2 (by simp)⟩), readW3]
    congr 2
    have ng := neg w1
    unfold readB
    rw [if_neg fun z => absurd z.2 (by decide)]
    cases q : numOf w1 with
    | none =>
      have : placeV w1 6 < 0 := ng.mpr (by unfold isNum; rw [q])
      rw [if_pos (.inr this)]; rfl
    | some i =>
      dsimp only
      by_cases h3 : i < 6
      · have e : placeV w1 6 = (i : Nat) := by unfold placeV; rw [q]; exact if_pos h3
        rw [e, if_neg fun z => z.elim (fun z => absurd z (by decide)) (fun z => absurd z (by omega)), if_neg fun z => absurd z.2 (by decide), if_neg fun z => z rfl, if_pos h3, placeV30]
        by_cases h5 : w0 = cd "wish"
        · cases q2 : numOf w2 with
          | some k =>
            dsimp only
            rw [if_pos (show w0 = cd "wish" ∧ (0 : Int) ≤ (k : Nat) from ⟨h5, by omega⟩), if_pos h5]; rfl
          | none =>
            dsimp only
            have nq : (decide (w0 = cd "answer") || decide (w0 = cd "take")) = false := by
              rw [h5]
              decide +kernel
            rw [if_neg (show ¬ (w0 = cd "wish" ∧ (0 : Int) ≤ -1) from fun z => absurd z.2 (by decide)), nq, if_pos h5, if_neg (show ¬ (false = true ∧ nameB w2 = true) from fun z => nomatch z.1)]; rfl
        · rw [if_neg fun z => h5 z.1, if_neg (c := w0 = cd "wish") (e := (if (w0 = cd "answer" ∨ w0 = cd "take") ∧ nameB w2 = true then some [D.str (strOf w0), .int (i : Nat), .str (strOf w2)] else none)) h5]
          by_cases h6 : (w0 = cd "answer" ∨ w0 = cd "take") ∧ nameB w2 = true
          · rw [if_pos h6, if_pos ⟨by rw [Bool.or_eq_true, decide_eq_true_eq, decide_eq_true_eq]; exact h6.1, h6.2⟩]; rfl
          · rw [if_neg h6, if_neg fun z => h6 ⟨by have := z.1; rw [Bool.or_eq_true, decide_eq_true_eq, decide_eq_true_eq] at this; exact this, z.2⟩]; rfl
      · have : placeV w1 6 < 0 := ng.mpr (by unfold isNum; rw [q]; exact decide_eq_false h3)
        rw [if_pos (.inr this), if_neg h3]; rfl
  · have len4 : (W (w0 :: w1 :: w2 :: w3 :: r)).length = r.length + 4 := by
      unfold W
      rw [List.length_map]
      rfl
    have at_ : ∀ (i : Nat) (h : i < (w0 :: w1 :: w2 :: w3 :: r).length), idxD g (.lst (W (w0 :: w1 :: w2 :: w3 :: r))) (.int (i : Nat)) = some (.str (strOf (w0 :: w1 :: w2 :: w3 :: r)[i])) := fun i h => by
      rw [idxL g _ (by unfold W; rw [List.length_map]; exact h)]
      unfold W
      rw [List.getElem_map]
    have hlen : (w0 :: w1 :: w2 :: w3 :: r).length = r.length + 4 := rfl
    rw [read_gen n (xs := W (w0 :: w1 :: w2 :: w3 :: r)) (w0 := w0) (L := r.length + 4) (c1 := .str (strOf w1)) (c2 := .non) (p2 := 0) (b3 := false) hs (by show some (W (w0 :: w1 :: w2 :: w3 :: r)).length = _; rw [len4]) (at_ 0 (by omega)) (fun _ => ⟨at_ 1 (by omega), hp w1 (by simp)⟩) (fun h => absurd h (by omega))]
    congr 2
    rw [show readW (w0 :: w1 :: w2 :: w3 :: r) = none from rfl]
    unfold readB
    rw [if_neg fun z => absurd z.2 (by omega)]
    split
    · rfl
    · rw [if_neg fun z => absurd z.2 (by omega), if_pos (by omega)]; rfl
end VL

set_option maxRecDepth 20000
namespace VL
open PySem VM
/-! ### lines -/
theorem spl_ne (c : Nat) : ∀ l, splitL c l ≠ []
  | [] => fun z => nomatch z
  | x :: xs => by
    unfold splitL
    split
    · exact fun z => nomatch z
    · split
      · exact fun z => nomatch z
      · exact fun z => nomatch z
theorem jn_cons {S p : List Nat} {r : List (List Nat)} (h : r ≠ []) : jn S (p :: r) = p ++ (S ++ jn S r) := by
  cases r with
  | nil => exact absurd rfl h
  | cons q r => rfl
theorem spl_jn (c : Nat) : ∀ l, jn [c] (splitL c l) = l
  | [] => rfl
  | x :: xs => by
    unfold splitL
    split
    · rename_i hx
      rw [jn_cons (spl_ne c xs), spl_jn c xs, hx]
      rfl
    · split
      · rename_i e
        exact absurd e (spl_ne c xs)
      · rename_i q r e
        have ih := spl_jn c xs
        rw [e] at ih
        cases r with
        | nil =>
          have ih : q = xs := ih
          rw [← ih]
          rfl
        | cons q2 r =>
          have ih : q ++ ([c] ++ jn [c] (q2 :: r)) = xs := ih
          rw [← ih]
          rfl
theorem spl_len (c : Nat) : ∀ l, (∀ p ∈ splitL c l, p.length ≤ l.length) ∧ (splitL c l).length ≤ l.length + 1
  | [] => ⟨fun p h => by rw [List.mem_singleton.mp h]; exact Nat.le_refl _, Nat.le_refl _⟩
  | x :: xs => by
    obtain ⟨h1, h2⟩ := spl_len c xs
    unfold splitL
    split
    · refine ⟨fun p h => ?_, by rw [List.length_cons, List.length_cons]; omega⟩
      rcases List.mem_cons.mp h with rfl | h
      · exact Nat.zero_le _
      · exact Nat.le_succ_of_le (h1 p h)
    · split
      · exact ⟨fun p h => by rw [List.mem_singleton.mp h, List.length_cons, List.length_cons]; simp, by rw [List.length_cons]; simp⟩
      · rename_i q r e
        rw [e] at h1 h2
        refine ⟨fun p h => ?_, by rw [List.length_cons] at h2 ⊢; rw [List.length_cons]; omega⟩
        rcases List.mem_cons.mp h with rfl | h
        · have := h1 q (List.mem_cons_self ..)
          rw [List.length_cons, List.length_cons]
          omega
        · exact Nat.le_succ_of_le (h1 p (List.mem_cons_of_mem _ h))
def rdl (l : List Nat) : Option (List D) := readW (splitL 32 l)
theorem stp_read {ws : List (List Nat)} {ds : List D} (h : readW ws = some ds) : stp ws = ds := by
  rcases ws with _ | ⟨w0, _ | ⟨w1, _ | ⟨w2, _ | ⟨w3, r⟩⟩⟩⟩
  · cases h
  · rw [readW1] at h
    split at h
    · rename_i e
      cases h
      subst e
      show [D.str (strOf (cd "end"))] = _
      rw [strOf_cd]
    · cases h
  · rw [readW2] at h
    cases q : numOf w1 with
    | none => rw [q] at h; cases h
    | some i =>
      rw [q] at h
      dsimp only at h
      split at h
      · rename_i e
        cases h
        obtain ⟨_, e⟩ := e
        subst e
        show [D.str (strOf (cd "put")), cv w1] = _
        rw [strOf_cd]
        unfold cv
        rw [q]
      · cases h
  · rw [readW3] at h
    cases q : numOf w1 with
    | none => rw [q] at h; cases h
    | some i =>
      rw [q] at h
      dsimp only at h
      have c1 : cv w1 = .int (i : Nat) := by unfold cv; rw [q]
      split at h
      · split at h
        · rename_i e
          cases q2 : numOf w2 with
          | none => rw [q2] at h; cases h
          | some k =>
            rw [q2] at h
            cases h
            subst e
            show [D.str (strOf (cd "wish")), cv w1, cv w2] = _
            have c2 : cv w2 = .int (k : Nat) := by unfold cv; rw [q2]
            rw [strOf_cd, c1, c2]
        · split at h
          · rename_i e
            cases h
            have c2 : cv w2 = .str (strOf w2) := by
              unfold cv
              cases q2 : numOf w2 with
              | none => rfl
              | some k =>
                obtain ⟨k1, rfl⟩ := numOf_iff.mp q2
                rw [digs_let (by omega)] at e
                exact absurd e.2 Bool.false_ne_true
            show [D.str (strOf w0), cv w1, cv w2] = _
            rw [c1, c2]
          · cases h
      · cases h
  · cases h
def bad (l : List Nat) : Bool := (rdl l).isNone
def runD (ls : List (List Nat)) : List D := ls.map fun l => rdD (rdl l)
def resD (ls : List (List Nat)) : D := match ls.findIdx? bad with
  | some k => .tup [.str "refused", .int (k : Nat)]
  | none => .tup [.str "told", .lst (runD ls)]
def dueD (t : Str) : D := if cd t = [] then .tup [.str "told", .lst []] else resD (splitL 10 (cd t))
theorem first_bad {ls : List (List Nat)} {i : Nat} {l : List Nat} (hl : ls[i]? = some l) (hb : bad l = true) (hg : ∀ j l, j < i → ls[j]? = some l → bad l = false) : ls.findIdx? bad = some i := by
  obtain ⟨hi, e⟩ := List.getElem?_eq_some_iff.mp hl
  refine List.findIdx?_eq_some_iff_getElem.mpr ⟨hi, by rw [e]; exact hb, fun j hj => ?_⟩
  rw [hg j _ hj (List.getElem?_eq_getElem (by omega))]
  exact Bool.false_ne_true
theorem no_bad {ls : List (List Nat)} (hg : ∀ j l, j < ls.length → ls[j]? = some l → bad l = false) : ls.findIdx? bad = none := by
  refine List.findIdx?_eq_none_iff.mpr fun l hl => ?_
  obtain ⟨j, hj⟩ := List.getElem?_of_mem hl
  exact hg j l (List.getElem?_eq_some_iff.mp hj).1 hj
theorem bad_some {l : List Nat} (h : bad l = false) : ∃ ds, rdl l = some ds := by
  unfold bad at h
  cases q : rdl l with
  | none => rw [q] at h; cases h
  | some ds => exact ⟨ds, rfl⟩
theorem bad_none {l : List Nat} (h : bad l = true) : rdl l = none := by
  unfold bad at h
  cases q : rdl l with
  | none => rfl
  | some ds => rw [q] at h; cases h
theorem W_at (ls : List (List Nat)) (g : Gs) {i : Nat} {l : List Nat} (h : ls[i]? = some l) : idxD g (.lst (W ls)) (.int (i : Nat)) = some (.str (strOf l)) := by
  refine idx_lst g ?_
  unfold W
  rw [List.getElem?_map, h]
  rfl
theorem runD_snoc {ls : List (List Nat)} {i : Nat} {l : List Nat} (h : ls[i]? = some l) : runD (ls.take (i + 1)) = runD (ls.take i) ++ [rdD (rdl l)] := by
  unfold runD
  rw [List.take_succ, h, List.map_append]
  rfl
theorem app_ok (g : Gs) {xs : List D} (x : D) (h : xs.length ≤ 50000) : mutL .append [x] g xs = some (xs ++ [x]) := by
  show (if xs.length < sizeM then some (xs ++ [x]) else none) = _
  rw [if_pos (by unfold sizeM; omega)]
theorem isn_non (g : Gs) (o : Option (List D)) : cmpD g .is_ (rdD o) .non = some (.bl o.isNone) := by cases o <;> rfl
theorem due_ok (n : Nat) {t : Str} (ht : (cd t).length + 2 ≤ 45000) (g : Gs) : callN Gam ini (n + 3) 42 [.str t] g = .ok (.v (dueD t)) g := by
  rw [show callN Gam ini (n + 3) 42 [.str t] g = runF Gam (callN Gam ini (n + 2)) f__law_due [.str t] g from rfl]
  let C := callN Gam ini (n + 2)
  let σ (a b c d : Option SV) : Sg := [(some (SV.val (.str t))), a, b, c, d]
  have em := eq_emp g t
  unfold dueD
  by_cases h0 : cd t = []
  · rw [if_pos h0]
    rw [decide_eq_true h0] at em
    have b0 : evS Gam C (ssNth f__law_due.body 0) (σ none none none none) g = .ok (.ret (.v (.tup [.str "told", .lst []])), σ none none none none) g := by
      have fl : ∀ σ, evF Gam C (.lst .nil) σ g = .ok (.l []) g := fun σ => rfl
      simp! [ssNth, f__law_due, σ, em, Fr.dI, Fr.gI]
    exact run_ret rfl (ss_ret 0 b0)
  · rw [if_neg h0]
    rw [decide_eq_false h0] at em
    have hs := spl_nl t (by omega)
    have hL := spl_len 10 (cd t)
    generalize splitL 10 (cd t) = ls at hs hL
    have b0 : evS Gam C (ssNth f__law_due.body 0) (σ none none none none) g = .ok (.nx, σ none none none none) g := by simp! [ssNth, f__law_due, σ, em]
    have b1 : evS Gam C (ssNth f__law_due.body 1) (σ none none none none) g = .ok (.nx, σ (some (.ml [])) none none none) g := rfl
    have b2 : evS Gam C (ssNth f__law_due.body 2) (σ (some (.ml [])) none none none) g = .ok (.nx, σ (some (.ml [])) (some (SV.val (.lst (W ls)))) none none) g := by
      have : evF Gam C (.split (.v 0) (.cst (.str "\n"))) (σ (some (.ml [])) none none none) g = .ok (.l (W ls)) g := by
        simp only [evF, evE, Out.bind, Out.opt, getV, σ, List.getElem?_cons_zero, hs, Out.optL]
      have e : evS Gam C (ssNth f__law_due.body 2) (σ (some (.ml [])) none none none) g = ((evF Gam C (.split (.v 0) (.cst (.str "\n"))) (σ (some (.ml [])) none none none) g).bind fun r g => .ok (r.dI g.next) (r.gI g)).bind fun x g => Out.opt ((bindT g (σ (some (.ml [])) none none none) x (.n 2)).map fun σ => (.nx, σ)) g := by
        simp only [ssNth, f__law_due, evS, evE]
      rw [e, this]
      rfl
    have lW : (W ls).length = ls.length := by unfold W; rw [List.length_map]
    have L := loop_fix (xs := rngL 0 (ls.length : Nat)) (tg := .n 3) (body := fun σ g => evSs Gam C f__law_due_b1 σ g) (Q := fun v g' => g' = g ∧ ∃ k, ls.findIdx? bad = some k ∧ v = .v (.tup [.str "refused", .int (k : Nat)]))
      (Inv := fun i σ' g' => g' = g ∧ (∃ t1 t2, isV t1 ∧ isV t2 ∧ σ' = σ (some (.ml (runD (ls.take i)))) (some (SV.val (.lst (W ls)))) t1 t2) ∧ ∀ j l, j < i → ls[j]? = some l → bad l = false)
      (fun i x σ' g' hx hI => by
        obtain ⟨rfl, ⟨t1, t2, h1, h2, rfl⟩, hg⟩ := hI
        obtain ⟨rfl, hi⟩ := rng_at hx
        have hi : i < ls.length := by omega
        have hl : ls[i]? = some ls[i] := List.getElem?_eq_getElem hi
        generalize ls[i] = l at hl
        have hll : l.length ≤ (cd t).length := hL.1 l (List.mem_of_getElem? hl)
        refine ⟨σ (some (.ml (runD (ls.take i)))) (some (SV.val (.lst (W ls)))) (some (SV.val (.int (i : Nat)))) t2, by rcases h1 with rfl | ⟨d, rfl⟩ <;> rfl, ?_⟩
        have ix := W_at ls g' hl
        have rd : C 106 [.str (strOf l)] g' = .ok (.v (rdD (rdl l))) g' := law_read_ok n (l := strOf l) (by show l.length + 2 ≤ 100000; omega) (fun w hw => by have := (spl_len 32 l).1 w hw; omega) (spl_ne 32 l) g'
        have isn := isn_non g' (rdl l)
        cases q : bad l with
        | true =>
          have qn : (rdl l).isNone = true := q
          rw [qn] at isn
          right
          refine ⟨_, σ (some (.ml (runD (ls.take i)))) (some (SV.val (.lst (W ls)))) (some (SV.val (.int (i : Nat)))) (some (SV.val (rdD (rdl l)))), g', ?_, rfl, i, first_bad hl q hg, rfl⟩
          rcases h2 with rfl | ⟨d, rfl⟩ <;> simp! [f__law_due_b1, σ, ix, rd, isn]
        | false =>
          have qn : (rdl l).isNone = false := q
          rw [qn] at isn
          left
          have ap := app_ok g' (xs := runD (ls.take i)) (rdD (rdl l)) (by unfold runD; rw [List.length_map, List.length_take]; have := hL.2; omega)
          refine ⟨σ (some (.ml (runD (ls.take i) ++ [rdD (rdl l)]))) (some (SV.val (.lst (W ls)))) (some (SV.val (.int (i : Nat)))) (some (SV.val (rdD (rdl l)))), g', ?_, rfl, ⟨_, _, .inr ⟨_, rfl⟩, .inr ⟨_, rfl⟩, by rw [runD_snoc hl]⟩, fun j l' hj hl' => ?_⟩
          · rcases h2 with rfl | ⟨d, rfl⟩ <;> simp! [f__law_due_b1, σ, ix, rd, isn, ap]
          · by_cases z : j < i
            · exact hg j l' z hl'
            · have : j = i := by omega
              subst this
              rw [hl] at hl'
              cases hl'
              exact q)
      ((rngL 0 (ls.length : Nat)).length + 1) 0 (σ (some (.ml [])) (some (SV.val (.lst (W ls)))) none none) g (by omega) (by omega) ⟨rfl, ⟨none, none, .inl rfl, .inl rfl, rfl⟩, fun j l hj => by omega⟩
    have b3 : ∀ {x : R} {g' : Gs}, loopI (fun σ g => evSs Gam C f__law_due_b1 σ g) (.n 3) (.fix (rngL 0 (ls.length : Nat))) ((rngL 0 (ls.length : Nat)).length + 1) 0 (σ (some (.ml [])) (some (SV.val (.lst (W ls)))) none none) g = .ok x g' → evS Gam C (ssNth f__law_due.body 3) (σ (some (.ml [])) (some (SV.val (.lst (W ls)))) none none) g = .ok x g' := fun {x g'} h => by
      have hr : (((ls.length : Nat) : Int) ≤ 1000000 ∧ -1000000 ≤ ((ls.length : Nat) : Int)) = True := by
        have := hL.2
        simp only [eq_iff_iff, iff_true]
        omega
      have hle : lenD g (.lst (W ls)) = some ls.length := by show some (W ls).length = _; rw [lW]
      have e : evS Gam C (ssNth f__law_due.body 3) (σ (some (.ml [])) (some (SV.val (.lst (W ls)))) none none) g = (evIt Gam C (.rng (.len (.e (.v 2)))) (σ (some (.ml [])) (some (SV.val (.lst (W ls)))) none none) g).bind fun s g => loopI (fun σ g => evSs Gam C f__law_due_b1 σ g) (.n 3) s s.fuel 0 (σ (some (.ml [])) (some (SV.val (.lst (W ls)))) none none) g := by
        simp only [ssNth, f__law_due, evS]
      rw [e]
      have e2 : evIt Gam C (.rng (.len (.e (.v 2)))) (σ (some (.ml [])) (some (SV.val (.lst (W ls)))) none none) g = .ok (.fix (rngL 0 (ls.length : Nat))) g := by
        simp! [σ, hle, hr]
      rw [e2]
      exact h
    unfold resD
    rcases L with ⟨σ', g', e, rfl, ⟨t1, t2, h1, h2, rfl⟩, hg⟩ | ⟨v, σ', g', e, rfl, k, hk, rfl⟩
    · have hn : ls.findIdx? bad = none := no_bad fun j l hj hl => hg j l (by rw [rng_len]; omega) hl
      rw [hn]
      have tk : ls.take (rngL 0 (ls.length : Nat)).length = ls := List.take_of_length_le (by rw [rng_len]; omega)
      rw [tk] at e
      have b4 : evSs Gam C (ssDrop f__law_due.body 4) (σ (some (.ml (runD ls))) (some (SV.val (.lst (W ls)))) t1 t2) g' = .ok (.ret (.v (.tup [.str "told", .lst (runD ls)])), σ (some (SV.val (.lst (runD ls)))) (some (SV.val (.lst (W ls)))) t1 t2) g' := rfl
      exact run_ret rfl ((ss_next 0 b0).trans ((ss_next 1 b1).trans ((ss_next 2 b2).trans ((ss_next 3 (b3 e)).trans b4))))
    · rw [hk]
      exact run_ret rfl ((ss_next 0 b0).trans ((ss_next 1 b1).trans ((ss_next 2 b2).trans (ss_ret 3 (b3 e)))))
end VL

set_option maxRecDepth 20000
namespace VL
open PySem VM
/-! ### the numbers' dict -/
def ksN (m : Nat) : List D := (List.range m).map fun n => D.str (dg n)
def vsN (m : Nat) : List D := (List.range m).map fun n => D.int (n : Nat)
theorem keyB_dg (n : Nat) (w : List Nat) : keyB (.str (dg n)) (.str (strOf w)) = decide (digs n = w) := by
  show decide (dg n = strOf w) = _
  by_cases h : digs n = w
  · rw [decide_eq_true h]
    exact decide_eq_true (by unfold dg; rw [h])
  · rw [decide_eq_false h]
    exact decide_eq_false fun z => h (by
      have : cd (dg n) = cd (strOf w) := by rw [z]
      exact this)
theorem kf_nums (w : List Nat) : ∀ ns : List Nat, keyFind (.str (strOf w)) (ns.map fun n => D.str (dg n)) (ns.map fun n => D.int (n : Nat)) = (ns.find? fun n => decide (digs n = w)).map fun n => D.int (n : Nat)
  | [] => rfl
  | n :: r => by
    rw [List.map_cons, List.map_cons]
    unfold keyFind
    rw [keyB_dg, List.find?_cons]
    cases q : decide (digs n = w) with
    | true => rfl
    | false =>
      rw [if_neg Bool.false_ne_true]
      exact kf_nums w r
theorem get_ok (g : Gs) (i : Nat) (w : List Nat) : bmD g (.dct i (ksN 30) (vsN 30)) .get [.str (strOf w), .str (strOf w)] = some (cv w) := by
  show ((keyAt (.str (strOf w)) (ksN 30) (vsN 30)).map fun o => o.getD (.str (strOf w))) = _
  show some ((keyFind (.str (strOf w)) (ksN 30) (vsN 30)).getD (.str (strOf w))) = _
  have e := kf_nums w (List.range 30)
  have e : keyFind (.str (strOf w)) (ksN 30) (vsN 30) = (numOf w).map fun n => D.int (n : Nat) := e
  rw [e]
  unfold cv
  cases numOf w <;> rfl
theorem fold_fixA {α : Type} {f : α → D → Gs → Out α} {xs : List D} {Inv : Nat → α → Gs → Prop}
    (step : ∀ i x acc g, xs[i]? = some x → Inv i acc g → ∃ acc' g', f acc x g = .ok acc' g' ∧ Inv (i + 1) acc' g') :
    ∀ m i acc g, xs.length + 1 ≤ m + i → i ≤ xs.length → Inv i acc g → ∃ acc' g', foldI f (.fix xs) m i acc g = .ok acc' g' ∧ Inv xs.length acc' g'
  | 0, i, σ, g, hm, hi, h => by omega
  | m + 1, i, acc, g, hm, hi, h => by
    have hat : (Src.fix xs).at i g = some xs[i]? := rfl
    by_cases q : i < xs.length
    · have hx : xs[i]? = some xs[i] := List.getElem?_eq_getElem q
      obtain ⟨acc', g', e, hI⟩ := step i xs[i] acc g hx h
      unfold foldI
      rw [hat, hx]
      dsimp only
      rw [e]
      exact fold_fixA step m (i + 1) acc' g' (by omega) (by omega) hI
    · have : i = xs.length := by omega
      subst this
      refine ⟨acc, g, ?_, h⟩
      unfold foldI
      rw [hat, List.getElem?_eq_none (Nat.le_refl _)]
theorem dg_inj : ∀ i, i < 30 → ∀ j, j < 30 → digs i = digs j → i = j := by decide +kernel
theorem put_dg {i : Nat} (h : i < 30) : putD (.str (dg i)) (.int (i : Nat)) (ksN i) (vsN i) = some (ksN (i + 1), vsN (i + 1)) := by
  unfold putD
  rw [if_pos ⟨rfl, by unfold ksN; rw [List.length_map, List.length_range]; unfold sizeM; omega⟩]
  have : (ksN i).any (fun y => keyB y (.str (dg i))) = false := by
    cases q : (ksN i).any (fun y => keyB y (.str (dg i))) with
    | false => rfl
    | true =>
      obtain ⟨y, h1, h2⟩ := List.any_eq_true.mp q
      obtain ⟨j, hj, rfl⟩ := List.mem_map.mp h1
      have hj := List.mem_range.mp hj
      have h2 : keyB (.str (dg j)) (.str (strOf (digs i))) = true := h2
      rw [keyB_dg] at h2
      have := dg_inj j (by omega) i h (of_decide_eq_true h2)
      omega
  rw [if_neg (by rw [this]; exact Bool.false_ne_true)]
  unfold ksN vsN
  rw [List.range_succ, List.map_append, List.map_append]
  rfl
theorem dcomp_ok {call : CallT} {a b c d e f h : Option SV} (g : Gs) : evF Gam call (.dcomp (.bi .str (.cons (.e (.v 7)) .nil)) (.v 7) (.n 7) (.rng (.bin .add (.e (.gc 14)) (.e (.cst (.int 1))))) [7] .none) [a, b, c, d, e, f, h, none, none] g = .ok (.d (ksN 30) (vsN 30)) g := by
  let σ : Sg := [a, b, c, d, e, f, h, none, none]
  have L := fold_fixA (xs := rngL 0 (29 + 1)) (f := fun (acc : List D × List D) x g => (match bindT g (wipeS σ [7]) x (.n 7) with
        | some σ' => (evOt Gam call .none σ' g).bind fun t g => if t then (evE Gam call (.bi .str (.cons (.e (.v 7)) .nil)) σ' g).bind fun y g => (evE Gam call (.v 7) σ' g).bind fun z g => Out.opt (putD y z acc.1 acc.2) g else .ok acc g
        | none => .no).calm) (Inv := fun i acc g' => g' = g ∧ acc = (ksN i, vsN i))
    (fun i x acc g' hx hI => by
      obtain ⟨rfl, rfl⟩ := hI
      obtain ⟨rfl, hi⟩ := rng_at hx
      have hi : i < 30 := by omega
      refine ⟨(ksN (i + 1), vsN (i + 1)), g', ?_, rfl, rfl⟩
      have e1 : bindT g' (wipeS σ [7]) (.int (i : Nat)) (.n 7) = some [a, b, c, d, e, f, h, (some (SV.val (.int (i : Nat)))), none] := rfl
      rw [e1]
      have s1 := str_int g' (r := i) (by omega)
      have p1 := put_dg hi
      simp! [s1, p1]
      rfl)
    ((rngL 0 (29 + 1)).length + 1) 0 ([], []) g (by omega) (by omega) ⟨rfl, rfl⟩
  obtain ⟨acc, g', e1, rfl, rfl⟩ := L
  have e1 : foldI _ (.fix (rngL 0 (29 + 1))) (Src.fuel (.fix (rngL 0 (29 + 1)))) 0 ([], []) g' = .ok (ksN 30, vsN 30) g' := e1
  have hit : evIt Gam call (.rng (.bin .add (.e (.gc 14)) (.e (.cst (.int 1))))) σ g' = .ok (.fix (rngL 0 (29 + 1))) g' := by
    have hr : ((29 : Int) + 1 ≤ 1000000 ∧ -1000000 ≤ (29 : Int) + 1) = True := by simp
    simp! [con14, VL.bin_add, hr]
  have he : evF Gam call (.dcomp (.bi .str (.cons (.e (.v 7)) .nil)) (.v 7) (.n 7) (.rng (.bin .add (.e (.gc 14)) (.e (.cst (.int 1))))) [7] .none) σ g' = (evIt Gam call (.rng (.bin .add (.e (.gc 14)) (.e (.cst (.int 1))))) σ g').bind fun s g => (foldI (fun (acc : List D × List D) x g => (match bindT g (wipeS σ [7]) x (.n 7) with
        | some σ' => (evOt Gam call .none σ' g).bind fun t g => if t then (evE Gam call (.bi .str (.cons (.e (.v 7)) .nil)) σ' g).bind fun y g => (evE Gam call (.v 7) σ' g).bind fun z g => Out.opt (putD y z acc.1 acc.2) g else .ok acc g
        | none => .no).calm) s s.fuel 0 ([], []) g).bind fun q g => .ok (.d q.1 q.2) g := by
    simp only [evF]
    all_goals rfl
  show evF Gam call _ σ g' = _
  rw [he, hit, ok_bind, e1]
  rfl
/-! ### loops that may raise -/
theorem loop_fixX {body : Sg → Gs → Out R} {tg : Tg} {xs : List D} {Inv : Nat → Sg → Gs → Prop} {Q : Nat → List D → Gs → Prop}
    (step : ∀ i x σ g, xs[i]? = some x → Inv i σ g → ∃ σ1, bindT g σ x tg = some σ1 ∧ ((∃ σ' g', body σ1 g = .ok (.nx, σ') g' ∧ Inv (i + 1) σ' g') ∨ (∃ c ds g', body σ1 g = .ex c ds g' ∧ Q c ds g'))) :
    ∀ m i σ g, xs.length + 1 ≤ m + i → i ≤ xs.length → Inv i σ g → (∃ σ' g', loopI body tg (.fix xs) m i σ g = .ok (.nx, σ') g' ∧ Inv xs.length σ' g') ∨ (∃ c ds g', loopI body tg (.fix xs) m i σ g = .ex c ds g' ∧ Q c ds g')
  | 0, i, σ, g, hm, hi, h => by omega
  | m + 1, i, σ, g, hm, hi, h => by
    have hat : (Src.fix xs).at i g = some xs[i]? := rfl
    by_cases q : i < xs.length
    · have hx : xs[i]? = some xs[i] := List.getElem?_eq_getElem q
      obtain ⟨σ1, hb, hs⟩ := step i xs[i] σ g hx h
      unfold loopI
      rw [hat, hx]
      dsimp only
      rw [hb]
      rcases hs with ⟨σ', g', e, hI⟩ | ⟨c, ds, g', e, hQ⟩
      · have := loop_fixX step m (i + 1) σ' g' (by omega) (by omega) hI
        dsimp only
        rw [e]
        exact this
      · right
        dsimp only
        rw [e]
        exact ⟨c, ds, g', rfl, hQ⟩
    · have : i = xs.length := by omega
      subst this
      left
      refine ⟨σ, g, ?_, h⟩
      unfold loopI
      rw [hat, List.getElem?_eq_none (Nat.le_refl _)]
theorem runF_ex {call : CallT} {f : Fn} {ds es : List D} {c : Nat} {g g' : Gs} (h : ds.length = f.np) (e : evSs Gam call (ssDrop f.body 0) (ds.map (fun d => some (.val d)) ++ List.replicate (f.ns - f.np) none) g = .ex c es g') : runF Gam call f ds g = .ex c es g' := by
  rw [runF_eq h, e]
  rfl
/-- the outcome of read_run -/
def readO (ls : List (List Nat)) (g : Gs) : Out RV := match ls.findIdx? bad with
  | some k => .ex 7 [.int (k : Nat)] g
  | none => .ok (.f (.l (runD ls))) g
theorem sl_tail (g : Gs) (x : D) (xs : List D) : slD g (.lst (x :: xs)) (some 1) none = some (.lst xs) := by
  show some (D.lst (cutL (x :: xs) (some 1) none)) = _
  congr 2
  show ((x :: xs).drop (min 1 (x :: xs).length)).take ((x :: xs).length - min 1 (x :: xs).length) = xs
  rw [Nat.min_eq_left (by rw [List.length_cons]; omega)]
  show xs.take _ = xs
  exact List.take_of_length_le (by rw [List.length_cons]; omega)
theorem xf7 : xfOf Gam 7 = [14] := rfl
theorem tup_lst (g : Gs) (xs : List D) : biD Gam g .tuple [.lst xs] = some (.tup xs) := rfl
theorem read_run_ok (n : Nat) {t : Str} (ht : (cd t).length + 2 ≤ 45000) (h0 : cd t ≠ []) (g : Gs) : callN Gam ini (n + 4) 561 [.str t] g = readO (splitL 10 (cd t)) g.bump := by
  rw [show callN Gam ini (n + 4) 561 [.str t] g = runF Gam (callN Gam ini (n + 3)) f_read_run [.str t] g from rfl]
  let C := callN Gam ini (n + 3)
  let nd : D := .dct g.next (ksN 30) (vsN 30)
  let σ (a b c d e f : Option SV) : Sg := [(some (SV.val (.str t))), a, b, c, d, e, f, none, none]
  have em := eq_emp g t
  rw [decide_eq_false h0] at em
  have hs := spl_nl t (by omega)
  have hL := spl_len 10 (cd t)
  generalize splitL 10 (cd t) = ls at hs hL
  have b0 : evS Gam C (ssNth f_read_run.body 0) (σ none none none none none none) g = .ok (.nx, σ none none none none none none) g := by
    have ti : isTs Gam g (.str t) [.str] = some true := rfl
    simp! [ssNth, f_read_run, σ, ti]
  have b1 : evS Gam C (ssNth f_read_run.body 1) (σ none none none none none none) g = .ok (.nx, σ none none none none none none) g := by simp! [ssNth, f_read_run, σ, em]
  have b2 : evS Gam C (ssNth f_read_run.body 2) (σ none none none none none none) g = .ok (.nx, σ (some (SV.val (nd))) none none none none none) g.bump := by
    have e : evS Gam C (ssNth f_read_run.body 2) (σ none none none none none none) g = ((evF Gam C (.dcomp (.bi .str (.cons (.e (.v 7)) .nil)) (.v 7) (.n 7) (.rng (.bin .add (.e (.gc 14)) (.e (.cst (.int 1))))) [7] .none) (σ none none none none none none) g).bind fun r g => .ok (r.dI g.next) (r.gI g)).bind fun x g => Out.opt ((bindT g (σ none none none none none none) x (.n 1)).map fun σ => (.nx, σ)) g := by
      simp only [ssNth, f_read_run, evS, evE]
    rw [e, dcomp_ok g]
    rfl
  have b3 : evS Gam C (ssNth f_read_run.body 3) (σ (some (SV.val (nd))) none none none none none) g.bump = .ok (.nx, σ (some (SV.val (nd))) (some (.ml [])) none none none none) g.bump := rfl
  have g' := g.bump
  have lW : (W ls).length = ls.length := by unfold W; rw [List.length_map]
  have L := loop_fixX (xs := enumL 0 (W ls)) (tg := .t (.cons (.n 3) (.cons (.n 4) .nil))) (body := fun σ g => evSs Gam C f_read_run_b2 σ g) (Q := fun c ds g1 => g1 = g.bump ∧ c = 7 ∧ ∃ k, ls.findIdx? bad = some k ∧ ds = [.int (k : Nat)])
    (Inv := fun i σ' g1 => g1 = g.bump ∧ (∃ t1 t2 t3 t4, isV t1 ∧ isV t2 ∧ isV t3 ∧ isV t4 ∧ σ' = σ (some (SV.val (nd))) (some (.ml (runD (ls.take i)))) t1 t2 t3 t4) ∧ ∀ j l, j < i → ls[j]? = some l → bad l = false)
    (fun i x σ' g1 hx hI => by
      obtain ⟨rfl, ⟨t1, t2, t3, t4, h1, h2, h3, h4, rfl⟩, hg⟩ := hI
      obtain ⟨y, rfl, hy⟩ := enum_at (W ls) 0 i hx
      rw [Nat.zero_add]
      have hi := (List.getElem?_eq_some_iff.mp hy).1
      rw [lW] at hi
      have hl : ls[i]? = some ls[i] := List.getElem?_eq_getElem hi
      generalize ls[i] = l at hl
      have hy2 : y = .str (strOf l) := by
        unfold W at hy
        rw [List.getElem?_map, hl] at hy
        exact (Option.some.inj hy).symm
      subst hy2
      have hll : l.length ≤ (cd t).length := hL.1 l (List.mem_of_getElem? hl)
      refine ⟨σ (some (SV.val (nd))) (some (.ml (runD (ls.take i)))) (some (SV.val (.int (i : Nat)))) (some (SV.val (.str (strOf l)))) t3 t4, by
        rcases h1 with rfl | ⟨d1, rfl⟩ <;> rcases h2 with rfl | ⟨d2, rfl⟩ <;> rfl, ?_⟩
      -- the words
      have hsp := spl_sp (strOf l) (by show l.length + 2 ≤ 100000; omega)
      have hsp : splD (.str (strOf l)) (.str " ") = some (W (splitL 32 l)) := hsp
      have hw := spl_len 32 l
      have hne := spl_ne 32 l
      have hrd : rdl l = readW (splitL 32 l) := rfl
      cases hws : splitL 32 l with
      | nil => exact absurd hws hne
      | cons w0 ws =>
        rw [hws] at hsp hw hrd
        let σ2 (e f : Option SV) : Sg := σ (some (SV.val (nd))) (some (.ml (runD (ls.take i)))) (some (SV.val (.int (i : Nat)))) (some (SV.val (.str (strOf l)))) e f
        have c0 : evS Gam C (ssNth f_read_run_b2 0) (σ2 t3 t4) g.bump = .ok (.nx, σ2 (some (SV.val (.lst (W (w0 :: ws))))) t4) g.bump := by
          have : evF Gam C (.split (.v 4) (.cst (.str " "))) (σ2 t3 t4) g.bump = .ok (.l (W (w0 :: ws))) g.bump := by
            simp only [evF, evE, Out.bind, Out.opt, getV, σ2, σ, List.getElem?_cons_zero, List.getElem?_cons_succ, hsp, Out.optL]
          have e : evS Gam C (ssNth f_read_run_b2 0) (σ2 t3 t4) g.bump = ((evF Gam C (.split (.v 4) (.cst (.str " "))) (σ2 t3 t4) g.bump).bind fun r g => .ok (r.dI g.next) (r.gI g)).bind fun x g => Out.opt ((bindT g (σ2 t3 t4) x (.n 5)).map fun σ => (.nx, σ)) g := by
            simp only [ssNth, f_read_run_b2, evS, evE]
          rw [e, this]
          rcases h3 with rfl | ⟨d, rfl⟩ <;> rfl
        obtain ⟨ys, g2, cc, cl, cr, rfl⟩ := comp_ok (call := C) (elt := f_read_run_c1) (tg := .n 8) (own := [8]) (it := .e (.e (.sl (.e (.v 5)) (.some (.cst (.int 1))) .none))) (g := g.bump) (σ := σ2 (some (SV.val (.lst (W (w0 :: ws))))) t4) (xs := W ws) (Inv := fun g' => g' = g.bump) (Rr := fun i y => ∃ w, ws[i]? = some w ∧ y = cv w) (g0 := g.bump)
          (by
            have sl : slD g.bump (.lst (W (w0 :: ws))) (some 1) none = some (.lst (W ws)) := sl_tail _ _ _
            have so : ∀ g, srcOf (.lst (W ws)) g = .ok (.fix (W ws)) g := fun g => rfl
            simp! [σ2, σ, sl, so]) (by unfold W; rw [List.length_map]; have := hw.2; rw [List.length_cons] at this; omega) rfl (fun j x g3 hx hg3 => by
            subst hg3
            unfold W at hx
            rw [List.getElem?_map] at hx
            obtain ⟨w, hw', rfl⟩ := Option.map_eq_some_iff.mp hx
            have gt := get_ok g.bump g.next w
            refine ⟨[(some (SV.val (.str t))), (some (SV.val (nd))), some (.ml (runD (ls.take i))), (some (SV.val (.int (i : Nat)))), (some (SV.val (.str (strOf l)))), (some (SV.val (.lst (W (w0 :: ws))))), t4, none, (some (SV.val (.str (strOf w))))], cv w, g.bump, rfl, ?_, ⟨w, hw', rfl⟩, rfl⟩
            simp! [f_read_run_c1, nd, gt])
        have hys : ys = ws.map cv := by
          refine list_eq (by rw [cl, List.length_map]; unfold W; rw [List.length_map]) fun j y hy => ?_
          obtain ⟨w, q1, rfl⟩ := cr j y hy
          rw [List.getElem?_map, q1]
          rfl
        subst hys
        have c1 : evS Gam C (ssNth f_read_run_b2 1) (σ2 (some (SV.val (.lst (W (w0 :: ws))))) t4) g.bump = .ok (.nx, σ2 (some (SV.val (.lst (W (w0 :: ws))))) (some (SV.val (.tup (stp (w0 :: ws)))))) g.bump := by
          have i0 : idxD g.bump (.lst (W (w0 :: ws))) (.int 0) = some (.str (strOf w0)) := W_at (w0 :: ws) g.bump (i := 0) rfl
          have fl : evF Gam C (.lst (.cons (.idx (.e (.v 5)) (.cst (.int 0))) .nil)) (σ2 (some (SV.val (.lst (W (w0 :: ws))))) t4) g.bump = .ok (.l [.str (strOf w0)]) g.bump := by
            simp! [σ2, σ, i0]
          have ad : binD g.bump .add (.lst [.str (strOf w0)]) (.lst (ws.map cv)) = some (.lst (stp (w0 :: ws))) := add_lst g.bump (by rw [List.length_map]; have := hw.2; rw [List.length_cons] at this; show 1 + ws.length ≤ 100000; omega)
          have e : evS Gam C (ssNth f_read_run_b2 1) (σ2 (some (SV.val (.lst (W (w0 :: ws))))) t4) g.bump = ((((((evF Gam C (.lst (.cons (.idx (.e (.v 5)) (.cst (.int 0))) .nil)) (σ2 (some (SV.val (.lst (W (w0 :: ws))))) t4) g.bump).bind fun r g => .ok (r.dI g.next) (r.gI g)).bind fun x g => ((evF Gam C (.comp f_read_run_c1 (.n 8) (.e (.e (.sl (.e (.v 5)) (.some (.cst (.int 1))) .none))) [8] .none) (σ2 (some (SV.val (.lst (W (w0 :: ws))))) t4) g).bind fun r g => .ok (r.dI g.next) (r.gI g)).bind fun y g => Out.opt (binD g .add x y) g).bind fun x g => Out.ok [x] g).bind fun ds g => Out.opt (biD Gam g .tuple ds) g).bind fun x g => Out.opt ((bindT g (σ2 (some (SV.val (.lst (W (w0 :: ws))))) t4) x (.n 6)).map fun σ => (.nx, σ)) g) := by
            simp only [ssNth, f_read_run_b2, evS, evE, evP, evPs, Out.bind]
            all_goals rfl
          rw [e, fl]
          simp only [ok_bind, Fr.dI, Fr.gI, cc, ad, opt_some, tup_lst]
          rcases h4 with rfl | ⟨d, rfl⟩ <;> rfl
        have st : C 123 [.tup (stp (w0 :: ws))] g.bump = .ok (.v (.bl (rdl l).isSome)) g.bump := by
          rw [hrd]
          exact is_step_ok n (fun w hw' => by have := hw.1 w (List.mem_cons_of_mem _ hw'); omega) g.bump
        have pre := fun {R : Out (Fl × Sg)} (e : evSs Gam C (ssDrop f_read_run_b2 2) (σ2 (some (SV.val (.lst (W (w0 :: ws))))) (some (SV.val (.tup (stp (w0 :: ws)))))) g.bump = R) => (ss_next (b := f_read_run_b2) 0 c0).trans ((ss_next 1 c1).trans e)
        have hz : ssDrop f_read_run_b2 0 = f_read_run_b2 := rfl
        cases q : bad l with
        | true =>
          have qn := bad_none q
          rw [qn] at st
          have st : C 123 [.tup (stp (w0 :: ws))] g.bump = .ok (.v (.bl false)) g.bump := st
          have c2 : evS Gam C (ssNth f_read_run_b2 2) (σ2 (some (SV.val (.lst (W (w0 :: ws))))) (some (SV.val (.tup (stp (w0 :: ws)))))) g.bump = .ex 7 [.int (i : Nat)] g.bump := by
            simp! [ssNth, f_read_run_b2, σ2, σ, st, xf7]
          exact .inr ⟨7, [.int (i : Nat)], g.bump, pre (ss_ex 2 c2), rfl, rfl, i, first_bad hl q hg, rfl⟩
        | false =>
          obtain ⟨ds, hds⟩ := bad_some q
          have e1 : stp (w0 :: ws) = ds := stp_read (hrd.symm.trans hds)
          rw [hds] at st
          have st : C 123 [.tup (stp (w0 :: ws))] g.bump = .ok (.v (.bl true)) g.bump := st
          have c2 : evS Gam C (ssNth f_read_run_b2 2) (σ2 (some (SV.val (.lst (W (w0 :: ws))))) (some (SV.val (.tup (stp (w0 :: ws)))))) g.bump = .ok (.nx, σ2 (some (SV.val (.lst (W (w0 :: ws))))) (some (SV.val (.tup (stp (w0 :: ws)))))) g.bump := by
            simp! [ssNth, f_read_run_b2, σ2, σ, st]
          have ap := app_ok g.bump (xs := runD (ls.take i)) (.tup (stp (w0 :: ws))) (by unfold runD; rw [List.length_map, List.length_take]; have := hL.2; omega)
          have c3 : evS Gam C (ssNth f_read_run_b2 3) (σ2 (some (SV.val (.lst (W (w0 :: ws))))) (some (SV.val (.tup (stp (w0 :: ws)))))) g.bump = .ok (.nx, σ (some (SV.val (nd))) (some (.ml (runD (ls.take i) ++ [.tup (stp (w0 :: ws))]))) (some (SV.val (.int (i : Nat)))) (some (SV.val (.str (strOf l)))) (some (SV.val (.lst (W (w0 :: ws))))) (some (SV.val (.tup (stp (w0 :: ws)))))) g.bump := by
            simp! [ssNth, f_read_run_b2, σ2, σ, ap]
          refine .inl ⟨_, g.bump, pre ((ss_next 2 c2).trans ((ss_next 3 c3).trans (ss_end 4))), rfl, ⟨(some (SV.val (.int (i : Nat)))), (some (SV.val (.str (strOf l)))), (some (SV.val (.lst (W (w0 :: ws))))), (some (SV.val (.tup (stp (w0 :: ws))))), .inr ⟨_, rfl⟩, .inr ⟨_, rfl⟩, .inr ⟨_, rfl⟩, .inr ⟨_, rfl⟩, ?_⟩, fun j l' hj hl' => ?_⟩
          · rw [runD_snoc hl, hds, e1]
            rfl
          · by_cases z : j < i
            · exact hg j l' z hl'
            · have : j = i := by omega
              subst this
              rw [hl] at hl'
              cases hl'
              exact q)
    ((enumL 0 (W ls)).length + 1) 0 (σ (some (SV.val (nd))) (some (.ml [])) none none none none) g.bump (by omega) (by omega) ⟨rfl, ⟨none, none, none, none, .inl rfl, .inl rfl, .inl rfl, .inl rfl, rfl⟩, fun j l hj => by omega⟩
  have it : evIt Gam C (.enum (.e (.fz (.split (.v 0) (.cst (.str "\n")))))) (σ (some (SV.val (nd))) (some (.ml [])) none none none none) g.bump = .ok (.fix (enumL 0 (W ls))) g.bump := by
    have : evF Gam C (.split (.v 0) (.cst (.str "\n"))) (σ (some (SV.val (nd))) (some (.ml [])) none none none none) g.bump = .ok (.l (W ls)) g.bump := by
      simp only [evF, evE, Out.bind, Out.opt, getV, σ, List.getElem?_cons_zero, hs, Out.optL]
    simp only [evIt, evP, evE, this, Out.bind, Fr.dI, Fr.gI]
  have b4 : ∀ {o : Out R}, loopI (fun σ g => evSs Gam C f_read_run_b2 σ g) (.t (.cons (.n 3) (.cons (.n 4) .nil))) (.fix (enumL 0 (W ls))) ((enumL 0 (W ls)).length + 1) 0 (σ (some (SV.val (nd))) (some (.ml [])) none none none none) g.bump = o → evS Gam C (ssNth f_read_run.body 4) (σ (some (SV.val (nd))) (some (.ml [])) none none none none) g.bump = o := fun {o} h => by
    have e : evS Gam C (ssNth f_read_run.body 4) (σ (some (SV.val (nd))) (some (.ml [])) none none none none) g.bump = (evIt Gam C (.enum (.e (.fz (.split (.v 0) (.cst (.str "\n")))))) (σ (some (SV.val (nd))) (some (.ml [])) none none none none) g.bump).bind fun s g => loopI (fun σ g => evSs Gam C f_read_run_b2 σ g) (.t (.cons (.n 3) (.cons (.n 4) .nil))) s s.fuel 0 (σ (some (SV.val (nd))) (some (.ml [])) none none none none) g := by
      simp only [ssNth, f_read_run, evS]
    rw [e, it]
    exact h
  unfold readO
  rcases L with ⟨σ', g1, e, rfl, ⟨t1, t2, t3, t4, h1, h2, h3, h4, rfl⟩, hg⟩ | ⟨c, ds, g1, e, rfl, rfl, k, hk, rfl⟩
  · have len : (enumL 0 (W ls)).length = ls.length := by rw [enum_len, lW]
    have hn : ls.findIdx? bad = none := no_bad fun j l hj hl => hg j l (by rw [len]; exact hj) hl
    rw [hn]
    have tk : ls.take (enumL 0 (W ls)).length = ls := List.take_of_length_le (by rw [len]; exact Nat.le_refl _)
    rw [tk] at e
    exact run_ret rfl ((ss_next 0 b0).trans ((ss_next 1 b1).trans ((ss_next 2 b2).trans ((ss_next 3 b3).trans ((ss_next 4 (b4 e)).trans (ss_ret (v := .f (.l (runD ls))) (σ' := (σ (some (SV.val (nd))) (some (.ml (runD ls))) t1 t2 t3 t4).set 2 none) 5 rfl))))))
  · rw [hk]
    exact runF_ex rfl ((ss_next 0 b0).trans ((ss_next 1 b1).trans ((ss_next 2 b2).trans ((ss_next 3 b3).trans (ss_ex 4 (b4 e))))))
end VL

set_option maxRecDepth 20000
namespace VL
open PySem VM
theorem W_strs (ws : List (List Nat)) : W ws = (ws.map strOf).map D.str := by
  unfold W
  rw [List.map_map]
  rfl
theorem cd_strs (ws : List (List Nat)) : (ws.map strOf).map cd = ws := by
  rw [List.map_map]
  exact List.map_id _
theorem join_sp (g : Gs) {ws : List (List Nat)} (h : (jn [32] ws).length ≤ 100000) : bmD g (.str " ") .join [.lst (W ws)] = some (.str (strOf (jn [32] ws))) := by
  have e : cd " " = [32] := by decide +kernel
  have := join_fact g (sep := " ") (ss := ws.map strOf) (by rw [cd_strs, e]; exact h) (by decide +kernel)
  rw [W_strs, this]
  unfold jns
  rw [cd_strs, e]
theorem join_nl (g : Gs) {ws : List (List Nat)} (h : (jn [10] ws).length ≤ 100000) : bmD g (.str "\n") .join [.lst (W ws)] = some (.str (strOf (jn [10] ws))) := by
  have e : cd "\n" = [10] := by decide +kernel
  have := join_fact g (sep := "\n") (ss := ws.map strOf) (by rw [cd_strs, e]; exact h) (by decide +kernel)
  rw [W_strs, this]
  unfold jns
  rw [cd_strs, e]
theorem str_cv (g : Gs) (w : List Nat) : biD Gam g .str [cv w] = some (.str (strOf w)) := by
  unfold cv
  cases q : numOf w with
  | none => rfl
  | some k =>
    obtain ⟨h1, h2⟩ := numOf_iff.mp q
    have := str_int g (r := k) (by omega)
    unfold dg at this
    rw [h2] at this
    exact this
theorem str_stp (g : Gs) {ws : List (List Nat)} {i : Nat} {d : D} (h : (stp ws)[i]? = some d) : ∃ w, ws[i]? = some w ∧ biD Gam g .str [d] = some (.str (strOf w)) := by
  cases ws with
  | nil => simp [stp] at h
  | cons w0 ws =>
    cases i with
    | zero =>
      have h : some (D.str (strOf w0)) = some d := h
      cases h
      exact ⟨w0, rfl, rfl⟩
    | succ i =>
      have h : (ws.map cv)[i]? = some d := h
      rw [List.getElem?_map] at h
      obtain ⟨w, hw, rfl⟩ := Option.map_eq_some_iff.mp h
      exact ⟨w, hw, str_cv g w⟩
theorem stp_len (ws : List (List Nat)) : (stp ws).length = ws.length := by
  cases ws with
  | nil => rfl
  | cons w r =>
    show (r.map cv).length + 1 = _
    rw [List.length_map]
    rfl
/-- a line without a fault -/
theorem row_at {ls : List (List Nat)} (hn : ls.findIdx? bad = none) {i : Nat} {d : D} (h : (runD ls)[i]? = some d) : ∃ l, ls[i]? = some l ∧ d = .tup (stp (splitL 32 l)) ∧ (readW (splitL 32 l)).isSome = true := by
  unfold runD at h
  rw [List.getElem?_map] at h
  obtain ⟨l, hl, rfl⟩ := Option.map_eq_some_iff.mp h
  have hb := List.findIdx?_eq_none_iff.mp hn l (List.mem_of_getElem? hl)
  obtain ⟨ds, hds⟩ := bad_some hb
  have hds' : readW (splitL 32 l) = some ds := hds
  refine ⟨l, hl, ?_, by rw [hds']; rfl⟩
  rw [hds, stp_read hds']
  rfl
theorem run_text_ok (n : Nat) {ls : List (List Nat)} (hn : ls.findIdx? bad = none) (hl : ∀ l ∈ ls, l.length ≤ 45000) (hc : ls.length ≤ 50000) (hj : (jn [10] ls).length ≤ 100000) (g : Gs) : callN Gam ini (n + 4) 558 [.lst (runD ls)] g = .ok (.v (.str (strOf (jn [10] ls)))) g := by
  rw [show callN Gam ini (n + 4) 558 [.lst (runD ls)] g = runF Gam (callN Gam ini (n + 3)) f_run_text [.lst (runD ls)] g from rfl]
  let C := callN Gam ini (n + 3)
  let σ (a b : Option SV) : Sg := [(some (SV.val (.lst (runD ls)))), a, b, none]
  have lR : (runD ls).length = ls.length := by unfold runD; rw [List.length_map]
  have b0 : evS Gam C (ssNth f_run_text.body 0) (σ none none) g = .ok (.nx, σ none none) g := by
    have ti : isTs Gam g (.lst (runD ls)) [.list] = some true := rfl
    simp! [ssNth, f_run_text, σ, ti]
  have L := loop_fix (xs := enumL 0 (runD ls)) (tg := .t (.cons (.n 1) (.cons (.n 2) .nil))) (body := fun σ g => evSs Gam C f_run_text_b1 σ g) (Q := fun _ _ => False)
    (Inv := fun i σ' g1 => g1 = g ∧ ∃ t1 t2, isV t1 ∧ isV t2 ∧ σ' = σ t1 t2)
    (fun i x σ' g1 hx hI => by
      obtain ⟨rfl, t1, t2, h1, h2, rfl⟩ := hI
      obtain ⟨y, rfl, hy⟩ := enum_at (runD ls) 0 i hx
      obtain ⟨l, hl1, rfl, hs⟩ := row_at hn hy
      refine ⟨σ (some (SV.val (.int ((0 + i : Nat) : Int)))) (some (SV.val (.tup (stp (splitL 32 l))))), by rcases h1 with rfl | ⟨d1, rfl⟩ <;> rcases h2 with rfl | ⟨d2, rfl⟩ <;> rfl, .inl ?_⟩
      have hw := spl_len 32 l
      have hll := hl l (List.mem_of_getElem? hl1)
      have hne := spl_ne 32 l
      cases hws : splitL 32 l with
      | nil => exact absurd hws hne
      | cons w0 ws =>
        rw [hws] at hw hs
        have st := is_step_ok n (w0 := w0) (ws := ws) (fun w hw' => by have := hw.1 w (List.mem_cons_of_mem _ hw'); omega) g1
        rw [hs] at st
        have st : C 123 [.tup (stp (w0 :: ws))] g1 = .ok (.v (.bl true)) g1 := st
        refine ⟨σ (some (SV.val (.int ((0 + i : Nat) : Int)))) (some (SV.val (.tup (stp (w0 :: ws))))), g1, ?_, rfl, _, _, .inr ⟨_, rfl⟩, .inr ⟨_, rfl⟩, rfl⟩
        simp! [f_run_text_b1, σ, st])
    ((enumL 0 (runD ls)).length + 1) 0 (σ none none) g (by omega) (by omega) ⟨rfl, none, none, .inl rfl, .inl rfl, rfl⟩
  rcases L with ⟨_, g1, e, rfl, t1, t2, h1, h2, rfl⟩ | ⟨_, _, _, _, z⟩
  · have b1 : evS Gam C (ssNth f_run_text.body 1) (σ none none) g1 = .ok (.nx, σ t1 t2) g1 := e
    obtain ⟨ys, g2, cc, cl, cr, rfl⟩ := comp_ok (call := C) (elt := f_run_text_c3) (tg := .n 2) (own := [2]) (it := .e (.e (.v 0))) (g := g1) (σ := σ t1 t2) (xs := runD ls) (Inv := fun g' => g' = g1) (Rr := fun i y => ∃ l, ls[i]? = some l ∧ y = .str (strOf l)) (g0 := g1)
      (by
        have so : ∀ g, srcOf (.lst (runD ls)) g = .ok (.fix (runD ls)) g := fun g => rfl
        simp! [σ, so]) (by rw [lR]; exact hc) rfl (fun i x g' hx hg => by
        subst hg
        obtain ⟨l, hl1, rfl, hs⟩ := row_at hn hx
        have hw := spl_len 32 l
        have hll := hl l (List.mem_of_getElem? hl1)
        obtain ⟨zs, g3, dc, dl, dr, rfl⟩ := comp_ok (call := C) (elt := f_run_text_c2) (tg := .n 3) (own := [3]) (it := .e (.e (.v 2))) (g := g') (σ := σ t1 (some (SV.val (.tup (stp (splitL 32 l)))))) (xs := stp (splitL 32 l)) (Inv := fun g1 => g1 = g') (Rr := fun i y => ∃ w, (splitL 32 l)[i]? = some w ∧ y = .str (strOf w)) (g0 := g')
          (by
            have so : ∀ g, srcOf (.tup (stp (splitL 32 l))) g = .ok (.fix (stp (splitL 32 l))) g := fun g => rfl
            simp! [σ, so]) (by rw [stp_len]; omega) rfl (fun j x g3 hx hg3 => by
            subst hg3
            obtain ⟨w, w1, w2⟩ := str_stp g3 hx
            refine ⟨[(some (SV.val (.lst (runD ls)))), t1, (some (SV.val (.tup (stp (splitL 32 l))))), (some (SV.val (x)))], .str (strOf w), g3, rfl, ?_, ⟨w, w1, rfl⟩, rfl⟩
            simp! [f_run_text_c2, w2])
        have hz : zs = W (splitL 32 l) := by
          refine list_eq (by rw [dl, stp_len]; unfold W; rw [List.length_map]) fun j y hy => ?_
          obtain ⟨w, w1, rfl⟩ := dr j y hy
          unfold W
          rw [List.getElem?_map, w1]
          rfl
        subst hz
        have jj := join_sp g3 (ws := splitL 32 l) (by rw [spl_jn]; omega)
        rw [spl_jn] at jj
        refine ⟨[(some (SV.val (.lst (runD ls)))), t1, (some (SV.val (.tup (stp (splitL 32 l))))), none], .str (strOf l), g3, rfl, ?_, ⟨l, hl1, rfl⟩, rfl⟩
        have dc : evF Gam C (.comp f_run_text_c2 (.n 3) (.e (.e (.v 2))) [3] .none) [(some (SV.val (.lst (runD ls)))), t1, (some (SV.val (.tup (stp (splitL 32 l))))), none] g3 = .ok (.l (W (splitL 32 l))) g3 := dc
        dsimp! [f_run_text_c3, dc, Fr.dI, Fr.gI, jj])
    have hy : ys = W ls := by
      refine list_eq (by rw [cl, lR]; unfold W; rw [List.length_map]) fun j y hy => ?_
      obtain ⟨w, w1, rfl⟩ := cr j y hy
      unfold W
      rw [List.getElem?_map, w1]
      rfl
    subst hy
    have jj := join_nl g2 hj
    have b2 : evS Gam C (ssNth f_run_text.body 2) (σ t1 t2) g2 = .ok (.ret (.v (.str (strOf (jn [10] ls)))), σ t1 t2) g2 := by
      have cc : evF Gam C (.comp f_run_text_c3 (.n 2) (.e (.e (.v 0))) [2] .none) [(some (SV.val (.lst (runD ls)))), t1, t2, none] g2 = .ok (.l (W ls)) g2 := cc
      dsimp! [ssNth, f_run_text, σ, cc, Fr.dI, Fr.gI, jj]
    exact run_ret rfl ((ss_next 0 b0).trans ((ss_next 1 b1).trans (ss_ret 2 b2)))
  · exact z.elim
/-! ### plain -/
theorem plain_cv (g : Gs) (w : List Nat) : isTs Gam g (cv w) [.bool] = some false ∧ isTs Gam g (cv w) [.int, .str] = some true := by
  unfold cv
  cases numOf w <;> exact ⟨rfl, rfl⟩
theorem plain_stp (g : Gs) {ws : List (List Nat)} {i : Nat} {d : D} (h : (stp ws)[i]? = some d) : isTs Gam g d [.bool] = some false ∧ isTs Gam g d [.int, .str] = some true := by
  cases ws with
  | nil => simp [stp] at h
  | cons w0 ws =>
    cases i with
    | zero =>
      have h : some (D.str (strOf w0)) = some d := h
      cases h
      exact ⟨rfl, rfl⟩
    | succ i =>
      have h : (ws.map cv)[i]? = some d := h
      rw [List.getElem?_map] at h
      obtain ⟨w, hw, rfl⟩ := Option.map_eq_some_iff.mp h
      exact plain_cv g w
theorem is_plain_ok (n : Nat) {ls : List (List Nat)} (hn : ls.findIdx? bad = none) (g : Gs) : callN Gam ini (n + 1) 566 [.lst (runD ls)] g = .ok (.v (.bl true)) g := by
  rw [show callN Gam ini (n + 1) 566 [.lst (runD ls)] g = runF Gam (callN Gam ini n) f__law_is_plain [.lst (runD ls)] g from rfl]
  let C := callN Gam ini n
  let σ (a b : Option SV) : Sg := [(some (SV.val (.lst (runD ls)))), a, b]
  have b0 : evS Gam C (ssNth f__law_is_plain.body 0) (σ none none) g = .ok (.nx, σ none none) g := by
    have ti : isTs Gam g (.lst (runD ls)) [.list] = some true := rfl
    simp! [ssNth, f__law_is_plain, σ, ti]
  have L := loop_fix (xs := runD ls) (tg := .n 1) (body := fun σ g => evSs Gam C f__law_is_plain_b2 σ g) (Q := fun _ _ => False)
    (Inv := fun i σ' g1 => g1 = g ∧ ∃ t1 t2, isV t1 ∧ isV t2 ∧ σ' = σ t1 t2)
    (fun i x σ' g1 hx hI => by
      obtain ⟨rfl, t1, t2, h1, h2, rfl⟩ := hI
      obtain ⟨l, hl1, rfl, hs⟩ := row_at hn hx
      refine ⟨σ (some (SV.val (.tup (stp (splitL 32 l))))) t2, by rcases h1 with rfl | ⟨d1, rfl⟩ <;> rfl, .inl ?_⟩
      have ti : isTs Gam g1 (.tup (stp (splitL 32 l))) [.tuple] = some true := rfl
      have c0 : evS Gam C (ssNth f__law_is_plain_b2 0) (σ (some (SV.val (.tup (stp (splitL 32 l))))) t2) g1 = .ok (.nx, σ (some (SV.val (.tup (stp (splitL 32 l))))) t2) g1 := by
        simp! [ssNth, f__law_is_plain_b2, σ, ti]
      have L2 := loop_fix (xs := stp (splitL 32 l)) (tg := .n 2) (body := fun σ g => evSs Gam C f__law_is_plain_b1 σ g) (Q := fun _ _ => False)
        (Inv := fun i σ' g2 => g2 = g1 ∧ ∃ t2, isV t2 ∧ σ' = σ (some (SV.val (.tup (stp (splitL 32 l))))) t2)
        (fun j d σ' g2 hd hI => by
          obtain ⟨rfl, t2, h2, rfl⟩ := hI
          obtain ⟨p1, p2⟩ := plain_stp g2 hd
          refine ⟨σ (some (SV.val (.tup (stp (splitL 32 l))))) (some (SV.val (d))), by rcases h2 with rfl | ⟨d2, rfl⟩ <;> rfl, .inl ⟨σ (some (SV.val (.tup (stp (splitL 32 l))))) (some (SV.val (d))), g2, ?_, rfl, _, .inr ⟨_, rfl⟩, rfl⟩⟩
          simp! [f__law_is_plain_b1, σ, p1, p2])
        ((stp (splitL 32 l)).length + 1) 0 (σ (some (SV.val (.tup (stp (splitL 32 l))))) t2) g1 (by omega) (by omega) ⟨rfl, t2, h2, rfl⟩
      rcases L2 with ⟨_, g2, e, rfl, t3, h3, rfl⟩ | ⟨_, _, _, _, z⟩
      · have c1 : evS Gam C (ssNth f__law_is_plain_b2 1) (σ (some (SV.val (.tup (stp (splitL 32 l))))) t2) g2 = .ok (.nx, σ (some (SV.val (.tup (stp (splitL 32 l))))) t3) g2 := e
        exact ⟨_, g2, (ss_next (b := f__law_is_plain_b2) 0 c0).trans ((ss_next 1 c1).trans (ss_end 2)), rfl, _, _, .inr ⟨_, rfl⟩, h3, rfl⟩
      · exact z.elim)
    ((runD ls).length + 1) 0 (σ none none) g (by omega) (by omega) ⟨rfl, none, none, .inl rfl, .inl rfl, rfl⟩
  rcases L with ⟨_, g1, e, rfl, t1, t2, h1, h2, rfl⟩ | ⟨_, _, _, _, z⟩
  · have b1 : evS Gam C (ssNth f__law_is_plain.body 1) (σ none none) g1 = .ok (.nx, σ t1 t2) g1 := e
    exact run_ret rfl ((ss_next 0 b0).trans ((ss_next 1 b1).trans (ss_ret (v := .v (.bl true)) (σ' := σ t1 t2) 2 rfl)))
  · exact z.elim
/-! ### asked -/
theorem asked_ret (n : Nat) {x : D} {ls : List (List Nat)} {g g' : Gs} (hn : ls.findIdx? bad = none) (h : callN Gam ini (n + 1) 561 [x] g = .ok (.f (.l (runD ls))) g') : callN Gam ini (n + 2) 339 [x] g = .ok (.v (.tup [.str "told", .lst (runD ls)])) g' := by
  rw [show callN Gam ini (n + 2) 339 [x] g = runF Gam (callN Gam ini (n + 1)) f__law_asked [x] g from rfl]
  let C := callN Gam ini (n + 1)
  let σ (a : Option SV) : Sg := [(some (SV.val (x))), a, none]
  have h : C 561 [x] g = .ok (.f (.l (runD ls))) g' := h
  have pl : C 566 [.lst (runD ls)] g' = .ok (.v (.bl true)) g' := is_plain_ok n hn g'
  have b0 : evS Gam C (ssNth f__law_asked.body 0) (σ none) g = .ok (.nx, σ (some (SV.val (.lst (runD ls))))) g' := by
    have e : evSs Gam C (.cons (.set (.n 1) (.call 561 (.cons (.v 0) .nil))) .nil) (σ none) g = .ok (.nx, σ (some (SV.val (.lst (runD ls))))) g' := by
      simp! [σ, h]
    have : evS Gam C (ssNth f__law_asked.body 0) (σ none) g = (if ownF (σ none) then (match evSs Gam C (.cons (.set (.n 1) (.call 561 (.cons (.v 0) .nil))) .nil) (σ none) g with
      | .ex c ds g' => evHs Gam C (.told 7 2 3 5 14 .nil) c ds (wipeS (σ none) (Ss.own (.cons (.set (.n 1) (.call 561 (.cons (.v 0) .nil))) .nil))) g'
      | r => r) else .no) := by
      simp only [ssNth, f__law_asked, evS]
      all_goals rfl
    rw [this, e]
    rfl
  have b1 : evS Gam C (ssNth f__law_asked.body 1) (σ (some (SV.val (.lst (runD ls))))) g' = .ok (.nx, σ (some (SV.val (.lst (runD ls))))) g' := by simp! [ssNth, f__law_asked, σ, pl]
  exact run_ret rfl ((ss_next 0 b0).trans ((ss_next 1 b1).trans (ss_ret (v := .v (.tup [.str "told", .lst (runD ls)])) (σ' := σ (some (SV.val (.lst (runD ls))))) 2 rfl)))
theorem asked_ex (n : Nat) {x : D} {k : Int} {g g' : Gs} (h : callN Gam ini (n + 1) 561 [x] g = .ex 7 [.int k] g') : callN Gam ini (n + 2) 339 [x] g = .ok (.v (.tup [.str "refused", .int k])) g' := by
  rw [show callN Gam ini (n + 2) 339 [x] g = runF Gam (callN Gam ini (n + 1)) f__law_asked [x] g from rfl]
  let C := callN Gam ini (n + 1)
  let σ (a : Option SV) : Sg := [(some (SV.val (x))), a, none]
  have h : C 561 [x] g = .ex 7 [.int k] g' := h
  have b0 : evS Gam C (ssNth f__law_asked.body 0) (σ none) g = .ok (.ret (.v (.tup [.str "refused", .int k])), σ none) g' := by
    have e : evSs Gam C (.cons (.set (.n 1) (.call 561 (.cons (.v 0) .nil))) .nil) (σ none) g = .ex 7 [.int k] g' := by
      simp! [σ, h]
    have : evS Gam C (ssNth f__law_asked.body 0) (σ none) g = (if ownF (σ none) then (match evSs Gam C (.cons (.set (.n 1) (.call 561 (.cons (.v 0) .nil))) .nil) (σ none) g with
      | .ex c ds g' => evHs Gam C (.told 7 2 3 5 14 .nil) c ds (wipeS (σ none) (Ss.own (.cons (.set (.n 1) (.call 561 (.cons (.v 0) .nil))) .nil))) g'
      | r => r) else .no) := by
      simp only [ssNth, f__law_asked, evS]
      all_goals rfl
    rw [this, e]
    rfl
  exact run_ret rfl (ss_ret 0 b0)
theorem read_nil (n : Nat) {t : Str} (h : cd t = []) (g : Gs) : callN Gam ini (n + 1) 561 [.str t] g = .ok (.f (.l [])) g := by
  rw [show callN Gam ini (n + 1) 561 [.str t] g = runF Gam (callN Gam ini n) f_read_run [.str t] g from rfl]
  have em := eq_emp g t
  rw [decide_eq_true h] at em
  have ti : isTs Gam g (.str t) [.str] = some true := rfl
  simp! [f_read_run, ti, em]
theorem read_bad (n : Nat) {x : D} {g : Gs} (h : isTs Gam g x [.str] = some false) : callN Gam ini (n + 1) 561 [x] g = .ex 7 [.int (-1)] g := by
  rw [show callN Gam ini (n + 1) 561 [x] g = runF Gam (callN Gam ini n) f_read_run [x] g from rfl]
  simp! [f_read_run, h, xf7]
theorem asked_ok (n : Nat) {t : Str} (ht : (cd t).length + 2 ≤ 45000) (g : Gs) : ∃ g', callN Gam ini (n + 5) 339 [.str t] g = .ok (.v (dueD t)) g' ∧ Kq g g' := by
  unfold dueD
  by_cases h0 : cd t = []
  · rw [if_pos h0]
    exact ⟨g, asked_ret (n + 3) (ls := []) rfl (read_nil (n + 3) h0 g), Kq.refl g⟩
  · rw [if_neg h0]
    have e := read_run_ok n ht h0 g
    unfold readO at e
    unfold resD
    cases q : (splitL 10 (cd t)).findIdx? bad with
    | none =>
      rw [q] at e
      exact ⟨g.bump, asked_ret (n + 3) q e, Kq.bump g⟩
    | some k =>
      rw [q] at e
      exact ⟨g.bump, asked_ex (n + 3) e, Kq.bump g⟩
/-! ### == of plain values -/
def plL : D → Bool
  | .int _ => true
  | .str _ => true
  | _ => false
def pl : Nat → D → Bool
  | 0, x => plL x
  | n + 1, x => match x with
    | .tup xs => xs.all (pl n)
    | .lst xs => xs.all (pl n)
    | x => plL x
theorem same_pl : ∀ {n : Nat} {x : D}, pl n x = true → sameI x x = false
  | 0, x, h => by cases x <;> first | rfl | cases h
  | n + 1, x, h => by cases x <;> first | rfl | cases h
theorem items_refl {f : D → D → Option Bool} : ∀ {xs : List D}, (∀ x ∈ xs, f x x = some true) → eqItems f xs xs = some true
  | [], _ => rfl
  | x :: xs, h => by
    unfold eqItems
    rw [h x (List.mem_cons_self ..), items_refl fun y hy => h y (List.mem_cons_of_mem _ hy)]
    rfl
theorem leaf_refl {x : D} (h : plL x = true) : eqLeaf x x = some true := by
  cases x <;> first
    | (cases h; done)
    | (show some (_ == _) = _; rw [beq_self_eq_true])
theorem eqD_refl : ∀ (n : Nat) {x : D} (m : Nat), pl n x = true → n ≤ m → eqD m x x = some true
  | 0, x, m, h, _ => by
    have h : plL x = true := h
    cases m with
    | zero => exact leaf_refl h
    | succ m => cases x <;> first | exact leaf_refl h | cases h
  | n + 1, x, 0, h, hm => by omega
  | n + 1, x, m + 1, h, hm => by
    have it : ∀ xs : List D, xs.all (pl n) = true → eqItems (eqI (eqD m)) xs xs = some true := fun xs hx => items_refl fun y hy => by
      have := List.all_eq_true.mp hx y hy
      unfold eqI
      rw [same_pl this, if_neg Bool.false_ne_true]
      exact eqD_refl n m this (by omega)
    cases x with
    | tup xs => exact it xs h
    | lst xs =>
      show (if xs.length = xs.length then eqItems (eqI (eqD m)) xs xs else some false) = _
      rw [if_pos rfl]
      exact it xs h
    | int i => exact leaf_refl (x := .int i) rfl
    | str s => exact leaf_refl (x := .str s) rfl
    | _ => cases h
theorem pl_cv (w : List Nat) : pl 0 (cv w) = true := by
  unfold cv
  cases numOf w <;> rfl
theorem pl_stp (ws : List (List Nat)) : pl 1 (.tup (stp ws)) = true := by
  cases ws with
  | nil => rfl
  | cons w r =>
    show (D.str (strOf w) :: r.map cv).all (pl 0) = true
    rw [List.all_cons]
    show (true && (r.map cv).all (pl 0)) = true
    rw [Bool.true_and, List.all_map]
    exact List.all_eq_true.mpr fun w _ => pl_cv w
theorem due_refl (t : Str) : eqT (dueD t) (dueD t) = some true := by
  have key : pl 3 (dueD t) = true ∧ ∃ xs, dueD t = .tup xs := by
    unfold dueD
    by_cases h0 : cd t = []
    · rw [if_pos h0]
      exact ⟨rfl, _, rfl⟩
    · rw [if_neg h0]
      unfold resD
      cases q : (splitL 10 (cd t)).findIdx? bad with
      | some k => exact ⟨rfl, _, rfl⟩
      | none =>
        refine ⟨?_, _, rfl⟩
        show ([D.str "told", .lst (runD (splitL 10 (cd t)))]).all (pl 2) = true
        have : (runD (splitL 10 (cd t))).all (pl 1) = true := List.all_eq_true.mpr fun d hd => by
          obtain ⟨i, hi⟩ := List.getElem?_of_mem hd
          obtain ⟨l, _, rfl, _⟩ := row_at q hi
          exact pl_stp _
        show (true && ((runD (splitL 10 (cd t))).all (pl 1) && true)) = true
        rw [this]
        rfl
  obtain ⟨h1, xs, h2⟩ := key
  have e := eqD_refl 3 60 h1 (by decide)
  rw [h2] at e ⊢
  exact e
end VL

set_option maxRecDepth 20000
namespace VL
open PySem VM
theorem due_cases (t : Str) (ht : (cd t).length + 2 ≤ 45000) : (∃ k : Nat, dueD t = .tup [.str "refused", .int (k : Nat)]) ∨ (∃ rows, dueD t = .tup [.str "told", .lst rows] ∧ ∀ n g, callN Gam ini (n + 4) 558 [.lst rows] g = .ok (.v (.str t)) g) := by
  unfold dueD
  by_cases h0 : cd t = []
  · rw [if_pos h0]
    refine .inr ⟨[], rfl, fun n g => ?_⟩
    have e := run_text_ok n (ls := []) rfl (fun l hl => by cases hl) (Nat.zero_le _) (Nat.zero_le _) g
    have e2 : strOf (jn [10] []) = t := str_ext (by rw [show t.cps.toList = [] from h0]; rfl)
    rw [e2] at e
    exact e
  · rw [if_neg h0]
    unfold resD
    have hL := spl_len 10 (cd t)
    cases q : (splitL 10 (cd t)).findIdx? bad with
    | some k => exact .inl ⟨k, rfl⟩
    | none =>
      refine .inr ⟨_, rfl, fun n g => ?_⟩
      have e := run_text_ok n q (fun l hl => by have := hL.1 l hl; omega) (by have := hL.2; omega) (by rw [spl_jn]; omega) g
      rw [spl_jn, strOf_cd] at e
      exact e
/-! ### the lines, changed -/
structure Ls (m T : Nat) (k : Nat) (ls : List Str) : Prop where
  len : ls.length = k
  tx : ∀ s ∈ ls, Tx m s
  tot : tot ls ≤ T
theorem Ls.set {m T k a : Nat} {ls : List Str} {t : Str} (h : Ls m T k ls) (ha : a < ls.length) (ht : Tx (2 * (cd ls[a]).length + 5100) t) : Ls (2 * m + 5100) (T + m + 5100) k (ls.set a t) := by
  have h1 := (h.tx _ (List.getElem_mem ha)).len
  refine ⟨by rw [List.length_set]; exact h.len, fun s hs => ?_, ?_⟩
  · rcases List.mem_or_eq_of_mem_set hs with hs | rfl
    · exact (h.tx s hs).mono (by omega)
    · exact ht.mono (by omega)
  · have e := tot_set (ss := ls) (k := a) (t := t) ha
    have h2 := ht.len
    have h3 := h.tot
    omega
theorem Ls.up {m T k : Nat} {ls : List Str} (h : Ls m T k ls) : Ls (2 * m + 5100) (T + m + 5100) k ls := ⟨h.len, fun s hs => (h.tx s hs).mono (by omega), by have := h.tot; omega⟩
def Mx : Nat → Nat
  | 0 => 20
  | i + 1 => 2 * Mx i + 5100
def Tt : Nat → Nat
  | 0 => 4020
  | i + 1 => Tt i + Mx i + 5100
theorem map_set_str (ls : List Str) (a : Nat) (t : Str) : (ls.map D.str).set a (.str t) = (ls.set a t).map D.str := by rw [List.map_set]
theorem set_i (ls : List Str) {a : Nat} (h : a < ls.length) (t : Str) : setI (ls.map D.str) (.int (a : Nat)) (.str t) = some ((ls.set a t).map D.str) := by
  show (if 0 ≤ (a : Int) ∧ (a : Int) < (ls.map D.str).length then some ((ls.map D.str).set (a : Int).toNat (.str t)) else none) = _
  rw [if_pos ⟨by omega, by rw [List.length_map]; omega⟩, show (a : Int).toNat = a from by omega, map_set_str]
/-- a turn of the changes -/
theorem turn_ok (n : Nat) {i b k p : Nat} {g : Gs} {ls : List Str} {lg : Bool} {s0 v3 s6 : D} {s7 s8 : Option SV} (h : PoolAt b g p) (hb : b < 50000) (hi : Mx i ≤ 40000) (hk : k ≤ 1000) (hl : Ls (Mx i) (Tt i) k ls) (h7 : isV s7) (h8 : isV s8) :
    ∃ ls' lg' s7' s8' g', isV s7' ∧ isV s8' ∧ Ls (Mx (i + 1)) (Tt (i + 1)) k ls' ∧ PoolAt (b + 21) g' p ∧
      evSs Gam (callN Gam ini (n + 6)) f_law_b2 [(some (SV.val (s0))), (some (SV.val (.glo p))), (some (SV.val (.int (k : Nat)))), (some (SV.val (v3))), some (.ml (ls.map D.str)), (some (SV.val (.bl lg))), (some (SV.val (s6))), s7, s8, none, none, none, none] g =
        .ok (.nx, [(some (SV.val (s0))), (some (SV.val (.glo p))), (some (SV.val (.int (k : Nat)))), (some (SV.val (v3))), some (.ml (ls'.map D.str)), (some (SV.val (.bl lg'))), (some (SV.val (s6))), s7', s8', none, none, none, none]) g' := by
  by_cases hk0 : k = 0
  · have d : decide ((0 : Int) < ((k : Nat) : Int)) = false := decide_eq_false (by omega)
    refine ⟨ls, lg, s7, s8, g, h7, h8, hl.up, h.mono (by omega), ?_⟩
    simp! [f_law_b2, cmp_gt, d]
  · have d : decide ((0 : Int) < ((k : Nat) : Int)) = true := decide_eq_true (by omega)
    obtain ⟨a, g1, e1, a1, k1⟩ := drawI (n + 4) h (by omega) (m := (k : Nat)) (by omega) (by omega)
    have e1 : callN Gam ini (n + 6) 13 [.glo p, .int (k : Nat)] g = .ok (.v (.int a)) g1 := e1
    have ha : a < ls.length := by rw [hl.len]; omega
    have ht := hl.tx _ (List.getElem_mem ha)
    have hix : ∀ g, idxD g (.lst (ls.map D.str)) (.int (a : Nat)) = some (.str ls[a]) := fun g => idx_strs g ha
    have hlen := ht.len
    obtain ⟨t, g2, e2, tt, k2⟩ := changed_ok (n + 1) k1 (by omega) (m := (cd ls[a]).length) ⟨Nat.le_refl _, ht.asc⟩ (by omega)
    have e2 : callN Gam ini (n + 6) 73 [.glo p, .str ls[a]] g1 = .ok (.v (.str t)) g2 := e2
    have hs := hl.set ha tt
    have tl := tt.len
    have le := len_s g2 (w := t) (by omega)
    have si := set_i ls ha t
    by_cases c1 : (cd t).length < 40
    · have q1 : decide ((((cd t).length : Nat) : Int) < 40) = true := decide_eq_true (by omega)
      refine ⟨ls.set a t, lg, (some (SV.val (.int (a : Nat)))), (some (SV.val (.str t))), g2, .inr ⟨_, rfl⟩, .inr ⟨_, rfl⟩, hs, k2.mono (by omega), ?_⟩
      rcases h7 with rfl | ⟨d7, rfl⟩ <;> rcases h8 with rfl | ⟨d8, rfl⟩ <;> cases lg <;> simp! [f_law_b2, cmp_gt, d, e1, hix, e2, cmp_lt, le, q1, si, cmp_ge]
    · have q1 : decide ((((cd t).length : Nat) : Int) < 40) = false := decide_eq_false (by omega)
      cases lg with
      | true =>
        refine ⟨ls, true, (some (SV.val (.int (a : Nat)))), (some (SV.val (.str t))), g2, .inr ⟨_, rfl⟩, .inr ⟨_, rfl⟩, hl.up, k2.mono (by omega), ?_⟩
        rcases h7 with rfl | ⟨d7, rfl⟩ <;> rcases h8 with rfl | ⟨d8, rfl⟩ <;> simp! [f_law_b2, cmp_gt, d, e1, hix, e2, cmp_lt, le, q1]
      | false =>
        refine ⟨ls.set a t, true, (some (SV.val (.int (a : Nat)))), (some (SV.val (.str t))), g2, .inr ⟨_, rfl⟩, .inr ⟨_, rfl⟩, hs, k2.mono (by omega), ?_⟩
        rcases h7 with rfl | ⟨d7, rfl⟩ <;> rcases h8 with rfl | ⟨d8, rfl⟩ <;> simp! [f_law_b2, cmp_gt, d, e1, hix, e2, cmp_lt, le, q1, si, cmp_ge]
end VL

set_option maxRecDepth 20000
namespace VL
open PySem VM
theorem idx_e2 {call : CallT} {a i : VM.E} {σ : Sg} {g g' g2 : Gs} {u v w : D} (ha : evE Gam call a σ g = .ok u g') (hi : evE Gam call i σ g' = .ok v g2) (h : idxD g2 u v = some w) : evE Gam call (.idx (.e a) i) σ g = .ok w g2 := by
  simp only [evE, evP, ha, hi, Out.bind, Out.opt, h]
theorem refused_eq : cmpD g .ne (.tup [.str "refused", .int (-1)]) (.tup [.str "refused", .int (-1)]) = some (.bl false) := rfl
set_option maxHeartbeats 1000000 in
theorem law_run (n : Nat) (ns : List Int) : ∃ g', callN Gam ini (n + 7) 64 [.kst (ns.map D.int)] g1 = .ok (.v (.bl true)) g' := by
  suffices h : ∃ g', runF Gam (callN Gam ini (n + 6)) f_law [.kst (ns.map D.int)] g1 = .ok (.v (.bl true)) g' by
    obtain ⟨g', e⟩ := h
    exact ⟨g', e⟩
  let C := callN Gam ini (n + 6)
  let σ (a b c d e f s7 s8 s9 s10 s11 s12 : Option SV) : Sg := [(some (SV.val (.kst (ns.map D.int)))), a, b, c, d, e, f, s7, s8, s9, s10, s11, s12]
  let P : Option SV := (some (SV.val (.glo 1)))
  obtain ⟨cs, sd, hcs, e0⟩ := draws_ok (n + 4) ns g1
  have e0 : C 560 [.kst (ns.map D.int)] g1 = .ok (.f (.d pk (pv cs 0 0 sd 0))) g1 := e0
  let ga : Gs := g1.new (.dct pk (pv cs 0 0 sd 0))
  have hp : PoolAt 0 ga 1 := ⟨(by show 1 < 1 + 1; decide), cs, 0, 0, sd, 0, rfl, by decide, by omega, hcs, by decide, by decide⟩
  have b0 : evS Gam C (ssNth f_law.body 0) (σ none none none none none none none none none none none none) g1 = .ok (.nx, σ P none none none none none none none none none none none) ga := by
    simp! [ssNth, f_law, σ, e0]
    rfl
  obtain ⟨r1, gb, e1, h1, k1⟩ := drawI (n + 4) hp (by omega) (m := 10) (by decide) (by decide)
  have e1 : C 13 [.glo 1, .int 10] ga = .ok (.v (.int r1)) gb := e1
  have b1 : evS Gam C (ssNth f_law.body 1) (σ P none none none none none none none none none none none) ga = .ok (.nx, σ P (some (SV.val (.int (r1 : Nat)))) none none none none none none none none none none) gb := by
    simp! [ssNth, f_law, σ, P, e1]
  obtain ⟨r2, gc, e2, h2, k2⟩ := drawI (n + 4) k1 (by omega) (m := 8) (by decide) (by decide)
  have e2 : C 13 [.glo 1, .int 8] gb = .ok (.v (.int r2)) gc := e2
  -- the size
  have b2 : ∃ (k : Nat) (gd : Gs), k ≤ 200 ∧ PoolAt 3 gd 1 ∧ evS Gam C (ssNth f_law.body 2) (σ P (some (SV.val (.int (r1 : Nat)))) none none none none none none none none none none) gb = .ok (.nx, σ P (some (SV.val (.int (k : Nat)))) none none none none none none none none none none) gd := by
    by_cases q : r2 = 0
    · have d : decide (((r2 : Nat) : Int) = 0) = true := decide_eq_true (by omega)
      obtain ⟨r3, gd, e3, h3, k3⟩ := drawI (n + 4) k2 (by omega) (m := 201) (by decide) (by decide)
      have e3 : C 13 [.glo 1, .int 201] gc = .ok (.v (.int r3)) gd := e3
      refine ⟨r3, gd, by omega, k3, ?_⟩
      simp! [ssNth, f_law, σ, P, e2, d, e3]
    · have d : decide (((r2 : Nat) : Int) = 0) = false := decide_eq_false (by omega)
      refine ⟨r1, gc, by omega, k2.mono (by omega), ?_⟩
      simp! [ssNth, f_law, σ, P, e2, d]
  obtain ⟨k, gd, hk, kd, b2⟩ := b2
  obtain ⟨r4, ge, e4, h4, k4⟩ := drawI (n + 4) kd (by omega) (m := 4) (by decide) (by decide)
  have e4 : C 13 [.glo 1, .int 4] gd = .ok (.v (.int r4)) ge := e4
  have b3 : evS Gam C (ssNth f_law.body 3) (σ P (some (SV.val (.int (k : Nat)))) none none none none none none none none none none) gd = .ok (.nx, σ P (some (SV.val (.int (k : Nat)))) (some (SV.val (.int (r4 : Nat)))) none none none none none none none none none) ge := by
    simp! [ssNth, f_law, σ, P, e4]
  -- the lines
  obtain ⟨ys, gf, cc, cl, cr, kf⟩ := comp_okI (call := C) (elt := f_law_c1) (tg := .n 6) (own := [6]) (it := .rng (.v 2)) (g := ge) (σ := σ P (some (SV.val (.int (k : Nat)))) (some (SV.val (.int (r4 : Nat)))) none none none none none none none none none) (xs := rngL 0 (k : Nat)) (Inv := fun i g' => PoolAt (4 + 12 * i) g' 1) (Rr := fun i y => ∃ s, y = .str s ∧ Tx 20 s) (g0 := ge)
    (by
      have hr : (((k : Nat) : Int) ≤ 1000000 ∧ -1000000 ≤ ((k : Nat) : Int)) = True := by
        simp only [eq_iff_iff, iff_true]
        omega
      simp! [σ, P, hr]) (by rw [rng_len]; omega) (k4.mono (by omega)) (fun i x g' hx hg => by
      have hi := (List.getElem?_eq_some_iff.mp hx).1
      rw [rng_len] at hi
      obtain ⟨s, g2, es, hs, ks⟩ := line_ok (n + 2) hg (by omega)
      have es : C 559 [.glo 1] g' = .ok (.v (.str s)) g2 := es
      refine ⟨σ P (some (SV.val (.int (k : Nat)))) (some (SV.val (.int (r4 : Nat)))) none none (some (SV.val (x))) none none none none none none, .str s, g2, rfl, ?_, ⟨s, rfl, hs⟩, ks.mono (by omega)⟩
      simp! [f_law_c1, σ, P, es])
  obtain ⟨ls, rfl, hls⟩ := strs_of cr
  rw [rng_len, List.length_map] at cl
  rw [rng_len] at kf
  have cl : ls.length = k := by omega
  have L0 : Ls (Mx 0) (Tt 0) k ls := ⟨cl, hls, by
    have := tot_le (m := 20) (ss := ls) fun s hs => (hls s hs).len
    show tot ls ≤ 4020
    rw [cl] at this
    have : k * 20 ≤ 200 * 20 := Nat.mul_le_mul_right _ hk
    omega⟩
  have b4 : evS Gam C (ssNth f_law.body 4) (σ P (some (SV.val (.int (k : Nat)))) (some (SV.val (.int (r4 : Nat)))) none none none none none none none none none) ge = .ok (.nx, σ P (some (SV.val (.int (k : Nat)))) (some (SV.val (.int (r4 : Nat)))) (some (.ml (ls.map D.str))) none none none none none none none none) gf := by
    have e : evS Gam C (ssNth f_law.body 4) (σ P (some (SV.val (.int (k : Nat)))) (some (SV.val (.int (r4 : Nat)))) none none none none none none none none none) ge = (evF Gam C (.comp f_law_c1 (.n 6) (.rng (.v 2)) [6] .none) (σ P (some (SV.val (.int (k : Nat)))) (some (SV.val (.int (r4 : Nat)))) none none none none none none none none none) ge).bind fun r g => match (σ P (some (SV.val (.int (k : Nat)))) (some (SV.val (.int (r4 : Nat)))) none none none none none none none none none)[4]? with
      | some _ => nx ((σ P (some (SV.val (.int (k : Nat)))) (some (SV.val (.int (r4 : Nat)))) none none none none none none none none none).set 4 (some r.sv)) g
      | none => .no := by
      simp only [ssNth, f_law, evS]
      all_goals rfl
    rw [e, cc]
    rfl
  have b5 : evS Gam C (ssNth f_law.body 5) (σ P (some (SV.val (.int (k : Nat)))) (some (SV.val (.int (r4 : Nat)))) (some (.ml (ls.map D.str))) none none none none none none none none) gf = .ok (.nx, σ P (some (SV.val (.int (k : Nat)))) (some (SV.val (.int (r4 : Nat)))) (some (.ml (ls.map D.str))) (some (SV.val (.bl false))) none none none none none none none) gf := rfl
  -- the changes
  have kf : PoolAt 2404 gf 1 := kf.mono (by omega)
  have LL := loop_fix (xs := rngL 0 (r4 : Nat)) (tg := .n 6) (body := fun σ g => evSs Gam C f_law_b2 σ g) (Q := fun _ _ => False)
    (Inv := fun i σ' g' => PoolAt (2404 + 21 * i) g' 1 ∧ ∃ ls' lg s6 s7 s8, isV s6 ∧ isV s7 ∧ isV s8 ∧ Ls (Mx i) (Tt i) k ls' ∧ σ' = σ P (some (SV.val (.int (k : Nat)))) (some (SV.val (.int (r4 : Nat)))) (some (.ml (ls'.map D.str))) (some (SV.val (.bl lg))) s6 s7 s8 none none none none)
    (fun i x σ' g' hx hI => by
      obtain ⟨kg, ls', lg, s6, s7, s8, v6, v7, v8, hL, rfl⟩ := hI
      obtain ⟨rfl, hi⟩ := rng_at hx
      have hi : i < 3 := by omega
      have hM : Mx i ≤ 40000 := by
        rcases (show i = 0 ∨ i = 1 ∨ i = 2 by omega) with rfl | rfl | rfl <;> decide
      obtain ⟨ls2, lg2, s7', s8', g2, v7', v8', hL2, kg2, e⟩ := turn_ok n (i := i) (s0 := .kst (ns.map D.int)) (v3 := .int (r4 : Nat)) (s6 := .int (i : Nat)) (lg := lg) kg (by omega) hM (by omega) hL v7 v8
      exact ⟨σ P (some (SV.val (.int (k : Nat)))) (some (SV.val (.int (r4 : Nat)))) (some (.ml (ls'.map D.str))) (some (SV.val (.bl lg))) (some (SV.val (.int (i : Nat)))) s7 s8 none none none none, by rcases v6 with rfl | ⟨d, rfl⟩ <;> rfl, .inl ⟨_, g2, e, kg2.mono (by omega), ls2, lg2, _, s7', s8', .inr ⟨_, rfl⟩, v7', v8', hL2, rfl⟩⟩)
    ((rngL 0 (r4 : Nat)).length + 1) 0 (σ P (some (SV.val (.int (k : Nat)))) (some (SV.val (.int (r4 : Nat)))) (some (.ml (ls.map D.str))) (some (SV.val (.bl false))) none none none none none none none) gf (by omega) (by omega) ⟨kf, ls, false, none, none, none, .inl rfl, .inl rfl, .inl rfl, L0, rfl⟩
  rcases LL with ⟨_, gg, e6, kg, ls2, lg, s6, s7, s8, v6, v7, v8, hL, rfl⟩ | ⟨_, _, _, _, z⟩
  · rw [rng_len] at kg hL
    have hr4 : ((r4 : Nat) : Int).toNat = r4 := by omega
    rw [hr4] at kg hL
    have hTk : Tt r4 ≤ 39860 := by
      rcases (show r4 = 0 ∨ r4 = 1 ∨ r4 = 2 ∨ r4 = 3 by omega) with rfl | rfl | rfl | rfl <;> decide
    have kg : PoolAt 2500 gg 1 := kg.mono (by omega)
    have b6 : evS Gam C (ssNth f_law.body 6) (σ P (some (SV.val (.int (k : Nat)))) (some (SV.val (.int (r4 : Nat)))) (some (.ml (ls.map D.str))) (some (SV.val (.bl false))) none none none none none none none) gf = .ok (.nx, σ P (some (SV.val (.int (k : Nat)))) (some (SV.val (.int (r4 : Nat)))) (some (.ml (ls2.map D.str))) (some (SV.val (.bl lg))) s6 s7 s8 none none none none) gg := by
      have e : evS Gam C (ssNth f_law.body 6) (σ P (some (SV.val (.int (k : Nat)))) (some (SV.val (.int (r4 : Nat)))) (some (.ml (ls.map D.str))) (some (SV.val (.bl false))) none none none none none none none) gf = (evIt Gam C (.rng (.v 3)) (σ P (some (SV.val (.int (k : Nat)))) (some (SV.val (.int (r4 : Nat)))) (some (.ml (ls.map D.str))) (some (SV.val (.bl false))) none none none none none none none) gf).bind fun s g => loopI (fun σ g => evSs Gam C f_law_b2 σ g) (.n 6) s s.fuel 0 (σ P (some (SV.val (.int (k : Nat)))) (some (SV.val (.int (r4 : Nat)))) (some (.ml (ls.map D.str))) (some (SV.val (.bl false))) none none none none none none none) g := by
        simp only [ssNth, f_law, evS]
      have it : evIt Gam C (.rng (.v 3)) (σ P (some (SV.val (.int (k : Nat)))) (some (SV.val (.int (r4 : Nat)))) (some (.ml (ls.map D.str))) (some (SV.val (.bl false))) none none none none none none none) gf = .ok (.fix (rngL 0 (r4 : Nat))) gf := by
        have hr : (((r4 : Nat) : Int) ≤ 1000000 ∧ -1000000 ≤ ((r4 : Nat) : Int)) = True := by
          simp only [eq_iff_iff, iff_true]
          omega
        simp! [σ, P, hr]
      rw [e, it]
      exact e6
    -- the text
    let A : Option SV := some (.ml (ls2.map D.str))
    have hnl : cd "\n" = [10] := by decide +kernel
    have hj : (jn (cd "\n") (ls2.map cd)).length ≤ 40060 := by
      have := jn_tot (sep := cd "\n") ls2
      rw [hnl] at this ⊢
      have h5 := hL.tot
      have h6 := hL.len
      have : ls2.length * [10].length = ls2.length := by show ls2.length * 1 = _; omega
      omega
    have jf := join_fact gg (sep := "\n") (ss := ls2) (by omega) (by decide +kernel)
    let t0 := jns "\n" ls2
    have ht0 : (cd t0).length ≤ 40060 := hj
    have b7 : evS Gam C (ssNth f_law.body 7) (σ P (some (SV.val (.int (k : Nat)))) (some (SV.val (.int (r4 : Nat)))) A (some (SV.val (.bl lg))) s6 s7 s8 none none none none) gg = .ok (.nx, σ P (some (SV.val (.int (k : Nat)))) (some (SV.val (.int (r4 : Nat)))) A (some (SV.val (.bl lg))) s6 s7 s8 (some (SV.val (.str t0))) none none none) gg := by
      simp! [ssNth, f_law, σ, P, A, jf]
      rfl
    obtain ⟨r8, gh, e8, h8, k8⟩ := drawI (n + 4) kg (by omega) (m := 8) (by decide) (by decide)
    have e8 : C 13 [.glo 1, .int 8] gg = .ok (.v (.int r8)) gh := e8
    have b8 : ∃ t : Str, (cd t).length ≤ 40100 ∧ evS Gam C (ssNth f_law.body 8) (σ P (some (SV.val (.int (k : Nat)))) (some (SV.val (.int (r4 : Nat)))) A (some (SV.val (.bl lg))) s6 s7 s8 (some (SV.val (.str t0))) none none none) gg = .ok (.nx, σ P (some (SV.val (.int (k : Nat)))) (some (SV.val (.int (r4 : Nat)))) A (some (SV.val (.bl lg))) s6 s7 s8 (some (SV.val (.str t))) none none none) gh := by
      by_cases q : r8 = 0
      · have d : decide (((r8 : Nat) : Int) = 0) = true := decide_eq_true (by omega)
        have ad : binD gh .add (.str t0) (.str "\n") = some (.str (ap t0 "\n")) := add_str gh (by
          rw [← cd_len, ← cd_len, hnl]
          show (cd t0).length + 1 ≤ 100000
          omega)
        refine ⟨ap t0 "\n", by rw [cd_ap, List.length_append, hnl]; show (cd t0).length + 1 ≤ _; omega, ?_⟩
        simp! [ssNth, f_law, σ, P, A, e8, d, ad]
      · have d : decide (((r8 : Nat) : Int) = 0) = false := decide_eq_false (by omega)
        refine ⟨t0, by omega, ?_⟩
        simp! [ssNth, f_law, σ, P, A, e8, d]
    obtain ⟨t, ht, b8⟩ := b8
    have hdue : C 42 [.str t] gh = .ok (.v (dueD t)) gh := due_ok (n + 3) (by omega) gh
    have b9 : evS Gam C (ssNth f_law.body 9) (σ P (some (SV.val (.int (k : Nat)))) (some (SV.val (.int (r4 : Nat)))) A (some (SV.val (.bl lg))) s6 s7 s8 (some (SV.val (.str t))) none none none) gh = .ok (.nx, σ P (some (SV.val (.int (k : Nat)))) (some (SV.val (.int (r4 : Nat)))) A (some (SV.val (.bl lg))) s6 s7 s8 (some (SV.val (.str t))) (some (SV.val (dueD t))) none none) gh := by
      simp! [ssNth, f_law, σ, P, A, hdue]
    obtain ⟨gi, hask, kq⟩ := asked_ok (n + 1) (t := t) (by omega) gh
    have hask : C 339 [.str t] gh = .ok (.v (dueD t)) gi := hask
    have ki := k8.kq kq
    have b10 : evS Gam C (ssNth f_law.body 10) (σ P (some (SV.val (.int (k : Nat)))) (some (SV.val (.int (r4 : Nat)))) A (some (SV.val (.bl lg))) s6 s7 s8 (some (SV.val (.str t))) (some (SV.val (dueD t))) none none) gh = .ok (.nx, σ P (some (SV.val (.int (k : Nat)))) (some (SV.val (.int (r4 : Nat)))) A (some (SV.val (.bl lg))) s6 s7 s8 (some (SV.val (.str t))) (some (SV.val (dueD t))) (some (SV.val (dueD t))) none) gi := by
      simp! [ssNth, f_law, σ, P, A, hask]
    let τ (a s12 : Option SV) : Sg := σ P (some (SV.val (.int (k : Nat)))) (some (SV.val (.int (r4 : Nat)))) a (some (SV.val (.bl lg))) s6 s7 s8 (some (SV.val (.str t))) (some (SV.val (dueD t))) (some (SV.val (dueD t))) s12
    have hne : ∀ g, cmpD g .ne (dueD t) (dueD t) = some (.bl false) := fun g => by
      show (eqT (dueD t) (dueD t)).map (fun r => D.bl (!r)) = _
      rw [due_refl]
      rfl
    have heq : ∀ g, cmpD g .eq (dueD t) (dueD t) = some (.bl true) := fun g => by
      show (eqT (dueD t) (dueD t)).map D.bl = _
      rw [due_refl]
      rfl
    have b11 : evS Gam C (ssNth f_law.body 11) (τ A none) gi = .ok (.nx, τ A none) gi := by
      simp! [ssNth, f_law, τ, σ, P, A, hne]
    have b12 : evS Gam C (ssNth f_law.body 12) (τ A none) gi = .ok (.nx, τ A none) gi := by
      rcases due_cases t (by omega) with ⟨kk, hd⟩ | ⟨rows, hd, hrt⟩
      · have i0 : idxD gi (dueD t) (.int 0) = some (.str "refused") := by rw [hd]; rfl
        have c0 : cmpD gi .eq (.str "refused") (.str "told") = some (.bl false) := rfl
        simp! [ssNth, f_law, τ, σ, P, A, i0, c0]
      · have i0 : ∀ g, idxD g (dueD t) (.int 0) = some (.str "told") := fun g => by rw [hd]; rfl
        have i1 : ∀ g, idxD g (dueD t) (.int 1) = some (.lst rows) := fun g => by rw [hd]; rfl
        have c0 : cmpD gi .eq (.str "told") (.str "told") = some (.bl true) := rfl
        have rt : C 558 [.lst rows] gi = .ok (.v (.str t)) gi := hrt (n + 2) gi
        have fl : evF Gam C (.list (.e (.idx (.e (.v 10)) (.cst (.int 1))))) (τ A none) gi = .ok (.l rows) gi := by
          simp! [τ, σ, P, A, i1, seqA, seqL, Out.optL]
        have fl : evF Gam C (.list (.e (.idx (.e (.v 10)) (.cst (.int 1))))) [(some (SV.val (.kst (ns.map D.int)))), (some (SV.val (.glo 1))), (some (SV.val (.int (k : Nat)))), (some (SV.val (.int (r4 : Nat)))), some (.ml (ls2.map D.str)), (some (SV.val (.bl lg))), s6, s7, s8, (some (SV.val (.str t))), (some (SV.val (dueD t))), (some (SV.val (dueD t))), none] gi = .ok (.l rows) gi := fl
        have nt : cmpD gi .ne (.str t) (.str t) = some (.bl false) := by
          show some (D.bl (!(t == t))) = _
          rw [beq_self_eq_true]
          rfl
        dsimp! [ssNth, f_law, τ, σ, P, A, i0, c0, fl, Fr.dI, Fr.gI, rt, nt]
    obtain ⟨r13, gj, e13, h13, k13⟩ := drawI (n + 4) ki (by omega) (m := 8) (by decide) (by decide)
    have e13 : C 13 [.glo 1, .int 8] gi = .ok (.v (.int r13)) gj := e13
    have b13 : ∃ a s12 gk, evS Gam C (ssNth f_law.body 13) (τ A none) gi = .ok (.nx, τ a s12) gk := by
      by_cases q : r13 = 0
      · have d : decide (((r13 : Nat) : Int) = 0) = true := decide_eq_true (by omega)
        let F : Option SV := (some (SV.val (.lst (ls2.map D.str))))
        let odd : List D := [.non, .int 0, .bl true, .lst (ls2.map D.str), .tup [.str "end"], .dct gj.next [.str "end"] [.int 0], .int (-1)]
        obtain ⟨r14, gk, e14, h14, k14⟩ := drawI (n + 4) (k13.kq (Kq.bump gj)) (by omega) (m := 7) (by decide) (by decide)
        have e14 : C 13 [.glo 1, .int 7] gj.bump = .ok (.v (.int r14)) gk := e14
        have hr : r14 < odd.length := by show r14 < 7; omega
        have ix : idxD gk (.lst odd) (.int (r14 : Nat)) = some odd[r14] := idxL gk odd hr
        have bad : ∀ g, isTs Gam g odd[r14] [.str] = some false := fun g => by
          have all : ∀ x ∈ odd, isTs Gam g x [.str] = some false := fun x hx => by
            simp only [odd, List.mem_cons, List.not_mem_nil, or_false] at hx
            rcases hx with rfl | rfl | rfl | rfl | rfl | rfl | rfl <;> rfl
          exact all _ (List.getElem_mem hr)
        generalize odd[r14] = x at ix bad
        have ax : C 339 [x] gk = .ok (.v (.tup [.str "refused", .int (-1)])) gk := asked_ex (n + 4) (read_bad (n + 4) (bad gk))
        have fl : evF Gam C (.lst (.cons (.cst .non) (.cons (.cst (.int 0)) (.cons (.cst (.bl true)) (.cons (.v 4) (.cons (.tup (.cons (.cst (.str "end")) .nil)) (.cons (.fz (.dlit (.cons (.cst (.str "end")) (.cst (.int 0)) .nil))) (.cons (.neg (.cst (.int 1))) .nil)))))))) (τ F none) gj = .ok (.l odd) gj.bump := rfl
        let body : Ss := .cons (.frz 4) (.cons (.set (.n 12) (.idx (.e (.fz (.lst (.cons (.cst .non) (.cons (.cst (.int 0)) (.cons (.cst (.bl true)) (.cons (.v 4) (.cons (.tup (.cons (.cst (.str "end")) .nil)) (.cons (.fz (.dlit (.cons (.cst (.str "end")) (.cst (.int 0)) .nil))) (.cons (.neg (.cst (.int 1))) .nil)))))))))) (.call 13 (.cons (.v 1) (.cons (.cst (.int 7)) .nil))))) (.cons (.if_ (.e (.cmp .ne (.e (.call 339 (.cons (.v 12) .nil))) (.e (.tup (.cons (.cst (.str "refused")) (.cons (.neg (.cst (.int 1))) .nil)))))) (.cons (.ret (.cst (.bl false))) .nil) .nil) .nil))
        have c0 : evS Gam C (ssNth body 0) (τ A none) gj = .ok (.nx, τ F none) gj := rfl
        have c1 : evS Gam C (ssNth body 1) (τ F none) gj = .ok (.nx, τ F (some (SV.val (x)))) gk := by
          have ea : evE Gam C (.fz (.lst (.cons (.cst .non) (.cons (.cst (.int 0)) (.cons (.cst (.bl true)) (.cons (.v 4) (.cons (.tup (.cons (.cst (.str "end")) .nil)) (.cons (.fz (.dlit (.cons (.cst (.str "end")) (.cst (.int 0)) .nil))) (.cons (.neg (.cst (.int 1))) .nil))))))))) (τ F none) gj = .ok (.lst odd) gj.bump := by
            have : ∀ F' σ g, evE Gam C (.fz F') σ g = (evF Gam C F' σ g).bind fun r g => .ok (r.dI g.next) (r.gI g) := fun F' σ g => by simp only [evE]
            rw [this, fl]
            rfl
          have eb : evE Gam C (.call 13 (.cons (.v 1) (.cons (.cst (.int 7)) .nil))) (τ F none) gj.bump = .ok (.int (r14 : Nat)) gk := by
            simp! [τ, σ, P, F, e14]
          have ec := idx_e2 ea eb ix
          have es : ∀ E σ g, evS Gam C (.set (.n 12) E) σ g = (evE Gam C E σ g).bind fun x g => Out.opt ((bindT g σ x (.n 12)).map fun σ => (.nx, σ)) g := fun E σ g => by simp only [evS]
          show evS Gam C (.set (.n 12) (.idx (.e (.fz (.lst (.cons (.cst .non) (.cons (.cst (.int 0)) (.cons (.cst (.bl true)) (.cons (.v 4) (.cons (.tup (.cons (.cst (.str "end")) .nil)) (.cons (.fz (.dlit (.cons (.cst (.str "end")) (.cst (.int 0)) .nil))) (.cons (.neg (.cst (.int 1))) .nil)))))))))) (.call 13 (.cons (.v 1) (.cons (.cst (.int 7)) .nil))))) (τ F none) gj = _
          rw [es, ec]
          rfl
        have c2 : evS Gam C (ssNth body 2) (τ F (some (SV.val (x)))) gk = .ok (.nx, τ F (some (SV.val (x)))) gk := by
          have ne : cmpD gk .ne (.tup [.str "refused", .int (-1)]) (.tup [.str "refused", .int (-1)]) = some (.bl false) := rfl
          have ne : cmpD gk .ne (.tup [.str "refused", .int (-1)]) (.tup [.str "refused", .int (-(1))]) = some (.bl false) := ne
          simp! [ssNth, body, τ, σ, P, F, ax, ne]
        have hb : evSs Gam C (ssDrop body 0) (τ A none) gj = .ok (.nx, τ F (some (SV.val (x)))) gk := (ss_next 0 c0).trans ((ss_next 1 c1).trans ((ss_next 2 c2).trans (ss_end 3)))
        have hc : evT Gam C (.e (.cmp .eq (.e (.call 13 (.cons (.v 1) (.cons (.cst (.int 8)) .nil)))) (.e (.cst (.int 0))))) (τ A none) gi = .ok true gj := by
          simp! [τ, σ, P, A, e13, d]
        exact ⟨F, (some (SV.val (x))), gk, (if_t (a := body) (b := .nil) hc).trans hb⟩
      · have d : decide (((r13 : Nat) : Int) = 0) = false := decide_eq_false (by omega)
        refine ⟨A, none, gj, ?_⟩
        simp! [ssNth, f_law, τ, σ, P, A, e13, d]
    obtain ⟨a, s12, gk, b13⟩ := b13
    obtain ⟨gl, hask2, kq2⟩ := asked_ok (n + 1) (t := t) (by omega) gk
    have hask2 : C 339 [.str t] gk = .ok (.v (dueD t)) gl := hask2
    have b14 : evS Gam C (ssNth f_law.body 14) (τ a s12) gk = .ok (.ret (.v (.bl true)), τ a s12) gl := by
      simp! [ssNth, f_law, τ, σ, P, hask2, heq]
    exact ⟨gl, run_ret rfl ((ss_next 0 b0).trans ((ss_next 1 b1).trans ((ss_next 2 b2).trans ((ss_next 3 b3).trans ((ss_next 4 b4).trans ((ss_next 5 b5).trans ((ss_next 6 b6).trans ((ss_next 7 b7).trans ((ss_next 8 b8).trans ((ss_next 9 b9).trans ((ss_next 10 b10).trans ((ss_next 11 b11).trans ((ss_next 12 b12).trans ((ss_next 13 b13).trans (ss_ret 14 b14)))))))))))))))⟩
  · exact z.elim
end VL

namespace VL
open PySem VM
theorem law_pure (ns : List Int) (_h : ns.length ≤ 63) : ∃ g', callN Gam ini 21 64 [.kst (ns.map D.int)] g1 = .ok (.v (.bl true)) g' := law_run 14 ns
end VL

set_option maxHeartbeats 0
namespace VL
open PySem L2 VM
theorem all_mk {l : PySem.W.OpenLaw} {w : World} {K : PySem.W.Frag} {h : Heap} {mg : Str → Option Value} {fa : Addr} (X : K.In h) (G : h.Ns mainGlobals mg) (hfa : mg "law" = some (.ref fa)) {f0 f1 f2 f3 f4 f5 f6 f7 f8 f9 f10 f11 f12 f13 f14 f15 f16 f17 f18 f19 f20 CCopyError CNoRun xNoRun CNoText xNoText : Addr} {d0od d0an : Option Addr} {d0sl : Array (Option Value)} {d0oc d0kV d0dc d0pm d0cd d0ct : Value} {d1od d1an : Option Addr} {d1sl : Array (Option Value)} {d1oc d1kV d1dc d1pm d1cd d1ct : Value} {d2od d2an : Option Addr} {d2sl : Array (Option Value)} {d2oc d2kV d2dc d2pm d2cd d2ct : Value} {d3od d3an : Option Addr} {d3sl : Array (Option Value)} {d3oc d3kV d3dc d3pm d3cd d3ct : Value} {d4od d4an : Option Addr} {d4sl : Array (Option Value)} {d4oc d4kV d4dc d4pm d4cd d4ct : Value} {d5od d5an : Option Addr} {d5sl : Array (Option Value)} {d5oc d5kV d5dc d5pm d5cd d5ct : Value} {d6od d6an : Option Addr} {d6sl : Array (Option Value)} {d6oc d6kV d6dc d6pm d6cd d6ct : Value} {d7od d7an : Option Addr} {d7sl : Array (Option Value)} {d7oc d7kV d7dc d7pm d7cd d7ct : Value} {d8od d8an : Option Addr} {d8sl : Array (Option Value)} {d8oc d8kV d8dc d8pm d8cd d8ct : Value} {d9od d9an : Option Addr} {d9sl : Array (Option Value)} {d9oc d9kV d9dc d9pm d9cd d9ct : Value} {d10od d10an : Option Addr} {d10sl : Array (Option Value)} {d10oc d10kV d10dc d10pm d10cd d10ct : Value} {d11od d11an : Option Addr} {d11sl : Array (Option Value)} {d11oc d11kV d11dc d11pm d11cd d11ct : Value} {d12od d12an : Option Addr} {d12sl : Array (Option Value)} {d12oc d12kV d12dc d12pm d12cd d12ct : Value} {d13od d13an : Option Addr} {d13sl : Array (Option Value)} {d13oc d13kV d13dc d13pm d13cd d13ct : Value} {d14od d14an : Option Addr} {d14sl : Array (Option Value)} {d14oc d14kV d14dc d14pm d14cd d14ct : Value} {d15od d15an : Option Addr} {d15sl : Array (Option Value)} {d15oc d15kV d15dc d15pm d15cd d15ct : Value} {d16od d16an : Option Addr} {d16sl : Array (Option Value)} {d16oc d16kV d16dc d16pm d16cd d16ct : Value} {d17od d17an : Option Addr} {d17sl : Array (Option Value)} {d17oc d17kV d17dc d17pm d17cd d17ct : Value} {d18od d18an : Option Addr} {d18sl : Array (Option Value)} {d18oc d18kV d18dc d18pm d18cd d18ct : Value} {d19od d19an : Option Addr} {d19sl : Array (Option Value)} {d19oc d19kV d19dc d19pm d19cd d19ct : Value} {d20od d20an : Option Addr} {d20sl : Array (Option Value)} {d20oc d20kV d20dc d20pm d20cd d20ct : Value} {xNoRunnm xNoRunqn : Str} {xNoRunnN : Addr} {xNoRunbs xNoRunbm : List Value} {xNoRunsn : List Str} {xNoRunsb : List Value} {xNoRunab : Bool} {xNoRunco : Option Bool} {xNoRundd : Option Addr} {xNoRunu0 xNoRunu1 xNoRunu2 xNoRunu3 xNoRunu5 : Option Value} {xNoRunod xNoRunan : Option Addr} {xNoRunsl : Array (Option Value)} {xNoRunoc xNoRunkV xNoRundc xNoRunpm xNoRuncd xNoRunct : Value} {xNoTextnm xNoTextqn : Str} {xNoTextnN : Addr} {xNoTextbs xNoTextbm : List Value} {xNoTextsn : List Str} {xNoTextsb : List Value} {xNoTextab : Bool} {xNoTextco : Option Bool} {xNoTextdd : Option Addr} {xNoTextu0 xNoTextu1 xNoTextu2 xNoTextu3 xNoTextu5 : Option Value} {xNoTextod xNoTextan : Option Addr} {xNoTextsl : Array (Option Value)} {xNoTextoc xNoTextkV xNoTextdc xNoTextpm xNoTextcd xNoTextct : Value} {kLETTERSt : Tok} {kMOST_CACHESt : Tok} {kMOST_INDEXt : Tok}
    (a0 : PySem.W.nsIn K mainGlobals "is_whole" = some (some (.ref f0)))
    (d0l : K.lookup f0 = some ⟨d0oc, d0od, .func (PySem.W.fnOf "is_whole" "is_whole" (defArgs s_is_whole) (defBody s_is_whole) (defScope s_is_whole) .none d0kV d0dc d0pm d0an d0cd d0ct), d0sl⟩)
    (d0c : PySem.W.codeIn K d0cd "is_whole" = true)
    (d0k : PySem.W.keepIn K (.ref f0) = true)
    (a1 : PySem.W.nsIn K mainGlobals "is_integer" = some (some (.ref f1)))
    (d1l : K.lookup f1 = some ⟨d1oc, d1od, .func (PySem.W.fnOf "is_integer" "is_integer" (defArgs s_is_integer) (defBody s_is_integer) (defScope s_is_integer) .none d1kV d1dc d1pm d1an d1cd d1ct), d1sl⟩)
    (d1c : PySem.W.codeIn K d1cd "is_integer" = true)
    (d1k : PySem.W.keepIn K (.ref f1) = true)
    (a2 : PySem.W.nsIn K mainGlobals "is_name" = some (some (.ref f2)))
    (d2l : K.lookup f2 = some ⟨d2oc, d2od, .func (PySem.W.fnOf "is_name" "is_name" (defArgs s_is_name) (defBody s_is_name) (defScope s_is_name) .none d2kV d2dc d2pm d2an d2cd d2ct), d2sl⟩)
    (d2c : PySem.W.codeIn K d2cd "is_name" = true)
    (d2k : PySem.W.keepIn K (.ref f2) = true)
    (a3 : PySem.W.nsIn K mainGlobals "is_step" = some (some (.ref f3)))
    (d3l : K.lookup f3 = some ⟨d3oc, d3od, .func (PySem.W.fnOf "is_step" "is_step" (defArgs s_is_step) (defBody s_is_step) (defScope s_is_step) .none d3kV d3dc d3pm d3an d3cd d3ct), d3sl⟩)
    (d3c : PySem.W.codeIn K d3cd "is_step" = true)
    (d3k : PySem.W.keepIn K (.ref f3) = true)
    (a4 : PySem.W.nsIn K mainGlobals "run_text" = some (some (.ref f4)))
    (d4l : K.lookup f4 = some ⟨d4oc, d4od, .func (PySem.W.fnOf "run_text" "run_text" (defArgs s_run_text) (defBody s_run_text) (defScope s_run_text) .none d4kV d4dc d4pm d4an d4cd d4ct), d4sl⟩)
    (d4c : PySem.W.codeIn K d4cd "run_text" = true)
    (d4k : PySem.W.keepIn K (.ref f4) = true)
    (a5 : PySem.W.nsIn K mainGlobals "read_run" = some (some (.ref f5)))
    (d5l : K.lookup f5 = some ⟨d5oc, d5od, .func (PySem.W.fnOf "read_run" "read_run" (defArgs s_read_run) (defBody s_read_run) (defScope s_read_run) .none d5kV d5dc d5pm d5an d5cd d5ct), d5sl⟩)
    (d5c : PySem.W.codeIn K d5cd "read_run" = true)
    (d5k : PySem.W.keepIn K (.ref f5) = true)
    (a6 : PySem.W.nsIn K mainGlobals "_law_mix" = some (some (.ref f6)))
    (d6l : K.lookup f6 = some ⟨d6oc, d6od, .func (PySem.W.fnOf "_law_mix" "_law_mix" (defArgs s__law_mix) (defBody s__law_mix) (defScope s__law_mix) .none d6kV d6dc d6pm d6an d6cd d6ct), d6sl⟩)
    (d6c : PySem.W.codeIn K d6cd "_law_mix" = true)
    (d6k : PySem.W.keepIn K (.ref f6) = true)
    (a7 : PySem.W.nsIn K mainGlobals "_law_draws" = some (some (.ref f7)))
    (d7l : K.lookup f7 = some ⟨d7oc, d7od, .func (PySem.W.fnOf "_law_draws" "_law_draws" (defArgs s__law_draws) (defBody s__law_draws) (defScope s__law_draws) .none d7kV d7dc d7pm d7an d7cd d7ct), d7sl⟩)
    (d7c : PySem.W.codeIn K d7cd "_law_draws" = true)
    (d7k : PySem.W.keepIn K (.ref f7) = true)
    (a8 : PySem.W.nsIn K mainGlobals "_law_draw" = some (some (.ref f8)))
    (d8l : K.lookup f8 = some ⟨d8oc, d8od, .func (PySem.W.fnOf "_law_draw" "_law_draw" (defArgs s__law_draw) (defBody s__law_draw) (defScope s__law_draw) .none d8kV d8dc d8pm d8an d8cd d8ct), d8sl⟩)
    (d8c : PySem.W.codeIn K d8cd "_law_draw" = true)
    (d8k : PySem.W.keepIn K (.ref f8) = true)
    (a9 : PySem.W.nsIn K mainGlobals "_law_sign" = some (some (.ref f9)))
    (d9l : K.lookup f9 = some ⟨d9oc, d9od, .func (PySem.W.fnOf "_law_sign" "_law_sign" (defArgs s__law_sign) (defBody s__law_sign) (defScope s__law_sign) .none d9kV d9dc d9pm d9an d9cd d9ct), d9sl⟩)
    (d9c : PySem.W.codeIn K d9cd "_law_sign" = true)
    (d9k : PySem.W.keepIn K (.ref f9) = true)
    (a10 : PySem.W.nsIn K mainGlobals "_law_name" = some (some (.ref f10)))
    (d10l : K.lookup f10 = some ⟨d10oc, d10od, .func (PySem.W.fnOf "_law_name" "_law_name" (defArgs s__law_name) (defBody s__law_name) (defScope s__law_name) .none d10kV d10dc d10pm d10an d10cd d10ct), d10sl⟩)
    (d10c : PySem.W.codeIn K d10cd "_law_name" = true)
    (d10k : PySem.W.keepIn K (.ref f10) = true)
    (a11 : PySem.W.nsIn K mainGlobals "_law_line" = some (some (.ref f11)))
    (d11l : K.lookup f11 = some ⟨d11oc, d11od, .func (PySem.W.fnOf "_law_line" "_law_line" (defArgs s__law_line) (defBody s__law_line) (defScope s__law_line) .none d11kV d11dc d11pm d11an d11cd d11ct), d11sl⟩)
    (d11c : PySem.W.codeIn K d11cd "_law_line" = true)
    (d11k : PySem.W.keepIn K (.ref f11) = true)
    (a12 : PySem.W.nsIn K mainGlobals "_law_number" = some (some (.ref f12)))
    (d12l : K.lookup f12 = some ⟨d12oc, d12od, .func (PySem.W.fnOf "_law_number" "_law_number" (defArgs s__law_number) (defBody s__law_number) (defScope s__law_number) .none d12kV d12dc d12pm d12an d12cd d12ct), d12sl⟩)
    (d12c : PySem.W.codeIn K d12cd "_law_number" = true)
    (d12k : PySem.W.keepIn K (.ref f12) = true)
    (a13 : PySem.W.nsIn K mainGlobals "_law_changed" = some (some (.ref f13)))
    (d13l : K.lookup f13 = some ⟨d13oc, d13od, .func (PySem.W.fnOf "_law_changed" "_law_changed" (defArgs s__law_changed) (defBody s__law_changed) (defScope s__law_changed) .none d13kV d13dc d13pm d13an d13cd d13ct), d13sl⟩)
    (d13c : PySem.W.codeIn K d13cd "_law_changed" = true)
    (d13k : PySem.W.keepIn K (.ref f13) = true)
    (a14 : PySem.W.nsIn K mainGlobals "_law_place" = some (some (.ref f14)))
    (d14l : K.lookup f14 = some ⟨d14oc, d14od, .func (PySem.W.fnOf "_law_place" "_law_place" (defArgs s__law_place) (defBody s__law_place) (defScope s__law_place) .none d14kV d14dc d14pm d14an d14cd d14ct), d14sl⟩)
    (d14c : PySem.W.codeIn K d14cd "_law_place" = true)
    (d14k : PySem.W.keepIn K (.ref f14) = true)
    (a15 : PySem.W.nsIn K mainGlobals "_law_is_name" = some (some (.ref f15)))
    (d15l : K.lookup f15 = some ⟨d15oc, d15od, .func (PySem.W.fnOf "_law_is_name" "_law_is_name" (defArgs s__law_is_name) (defBody s__law_is_name) (defScope s__law_is_name) .none d15kV d15dc d15pm d15an d15cd d15ct), d15sl⟩)
    (d15c : PySem.W.codeIn K d15cd "_law_is_name" = true)
    (d15k : PySem.W.keepIn K (.ref f15) = true)
    (a16 : PySem.W.nsIn K mainGlobals "_law_read" = some (some (.ref f16)))
    (d16l : K.lookup f16 = some ⟨d16oc, d16od, .func (PySem.W.fnOf "_law_read" "_law_read" (defArgs s__law_read) (defBody s__law_read) (defScope s__law_read) .none d16kV d16dc d16pm d16an d16cd d16ct), d16sl⟩)
    (d16c : PySem.W.codeIn K d16cd "_law_read" = true)
    (d16k : PySem.W.keepIn K (.ref f16) = true)
    (a17 : PySem.W.nsIn K mainGlobals "_law_due" = some (some (.ref f17)))
    (d17l : K.lookup f17 = some ⟨d17oc, d17od, .func (PySem.W.fnOf "_law_due" "_law_due" (defArgs s__law_due) (defBody s__law_due) (defScope s__law_due) .none d17kV d17dc d17pm d17an d17cd d17ct), d17sl⟩)
    (d17c : PySem.W.codeIn K d17cd "_law_due" = true)
    (d17k : PySem.W.keepIn K (.ref f17) = true)
    (a18 : PySem.W.nsIn K mainGlobals "_law_is_plain" = some (some (.ref f18)))
    (d18l : K.lookup f18 = some ⟨d18oc, d18od, .func (PySem.W.fnOf "_law_is_plain" "_law_is_plain" (defArgs s__law_is_plain) (defBody s__law_is_plain) (defScope s__law_is_plain) .none d18kV d18dc d18pm d18an d18cd d18ct), d18sl⟩)
    (d18c : PySem.W.codeIn K d18cd "_law_is_plain" = true)
    (d18k : PySem.W.keepIn K (.ref f18) = true)
    (a19 : PySem.W.nsIn K mainGlobals "_law_asked" = some (some (.ref f19)))
    (d19l : K.lookup f19 = some ⟨d19oc, d19od, .func (PySem.W.fnOf "_law_asked" "_law_asked" (defArgs s__law_asked) (defBody s__law_asked) (defScope s__law_asked) .none d19kV d19dc d19pm d19an d19cd d19ct), d19sl⟩)
    (d19c : PySem.W.codeIn K d19cd "_law_asked" = true)
    (d19k : PySem.W.keepIn K (.ref f19) = true)
    (a20 : PySem.W.nsIn K mainGlobals "law" = some (some (.ref f20)))
    (d20l : K.lookup f20 = some ⟨d20oc, d20od, .func (PySem.W.fnOf "law" "law" (defArgs s_law) (defBody s_law) (defScope s_law) .none d20kV d20dc d20pm d20an d20cd d20ct), d20sl⟩)
    (d20c : PySem.W.codeIn K d20cd "law" = true)
    (d20k : PySem.W.keepIn K (.ref f20) = true)
    (z_len : PySem.W.nsIn K mainGlobals "len" = some none)
    (z_isinstance : PySem.W.nsIn K mainGlobals "isinstance" = some none)
    (z_list : PySem.W.nsIn K mainGlobals "list" = some none)
    (z_tuple : PySem.W.nsIn K mainGlobals "tuple" = some none)
    (z_dict : PySem.W.nsIn K mainGlobals "dict" = some none)
    (z_int : PySem.W.nsIn K mainGlobals "int" = some none)
    (z_bool : PySem.W.nsIn K mainGlobals "bool" = some none)
    (z_str : PySem.W.nsIn K mainGlobals "str" = some none)
    (z_range : PySem.W.nsIn K mainGlobals "range" = some none)
    (z_enumerate : PySem.W.nsIn K mainGlobals "enumerate" = some none)
    (z_zip : PySem.W.nsIn K mainGlobals "zip" = some none)
    (z_all : PySem.W.nsIn K mainGlobals "all" = some none)
    (z_any : PySem.W.nsIn K mainGlobals "any" = some none)
    (z_sum : PySem.W.nsIn K mainGlobals "sum" = some none)
    (z_min : PySem.W.nsIn K mainGlobals "min" = some none)
    (z_max : PySem.W.nsIn K mainGlobals "max" = some none)
    (z_abs : PySem.W.nsIn K mainGlobals "abs" = some none)
    (z_sorted : PySem.W.nsIn K mainGlobals "sorted" = some none)
    (z_repr : PySem.W.nsIn K mainGlobals "repr" = some none)
    (z_ord : PySem.W.nsIn K mainGlobals "ord" = some none)
    (z_ValueError : PySem.W.nsIn K mainGlobals "ValueError" = some none)
    (spn : PySem.W.specialIn K (.builtin "object.__class__") "__get__" = some (some (.builtin "getset_descriptor.__get__")))
    (tkn : PySem.W.takesIn K (.builtin "object.__class__") = some true)
    (CopyErrorm : PySem.W.nsIn K mainGlobals "CopyError" = some (some (.ref CCopyError)))
    (NoRunm : PySem.W.nsIn K mainGlobals "NoRun" = some (some (.ref CNoRun)))
    (NoTextm : PySem.W.nsIn K mainGlobals "NoText" = some (some (.ref CNoText)))
    (CopyErrorex : PySem.W.subIn K (.ref CCopyError) (.type "BaseException") = some true)
    (CopyErrorty : PySem.W.typeIn K (.ref CCopyError) = some (.type "type"))
    (CopyErrorhd : PySem.W.hasDictIn K CCopyError = true)
    (CopyErrorkc : PySem.W.keepIn K (.ref CCopyError) = true)
    (CopyErrorsCopyError : PySem.W.subIn K (.ref CCopyError) (.ref CCopyError) = some true)
    (CopyErrorsNoRun : PySem.W.subIn K (.ref CCopyError) (.ref CNoRun) = some false)
    (CopyErrorsNoText : PySem.W.subIn K (.ref CCopyError) (.ref CNoText) = some false)
    (CopyErrorga : PySem.W.findIn K (.ref CCopyError) "__getattribute__" = some (some (.builtin "BaseException.__getattribute__")))
    (CopyErrorgg : PySem.W.findIn K (.ref CCopyError) "__getattr__" = some none)
    (CopyErrorca : PySem.W.findIn K (.ref CCopyError) "__class__" = some (some (.builtin "object.__class__")))
    (CopyErrorcm : PySem.W.mroIn K CCopyError (.type "object") = some true)
    (CopyErrorkv : PySem.W.kitOne K (.ref CCopyError) (.type "ValueError") = some true)
    (CopyErrorkCopyError : PySem.W.kitOne K (.ref CCopyError) (.ref CCopyError) = some true)
    (CopyErrorkNoRun : PySem.W.kitOne K (.ref CCopyError) (.ref CNoRun) = some false)
    (CopyErrorkNoText : PySem.W.kitOne K (.ref CCopyError) (.ref CNoText) = some false)
    (CopyErrore : PySem.W.excIn K CCopyError [.type "ValueError", .type "Exception", .type "BaseException", .type "object"] "ValueError.__new__" = true)
    (NoRunex : PySem.W.subIn K (.ref CNoRun) (.type "BaseException") = some true)
    (NoRunty : PySem.W.typeIn K (.ref CNoRun) = some (.type "type"))
    (NoRunhd : PySem.W.hasDictIn K CNoRun = true)
    (NoRunkc : PySem.W.keepIn K (.ref CNoRun) = true)
    (NoRunsCopyError : PySem.W.subIn K (.ref CNoRun) (.ref CCopyError) = some true)
    (NoRunsNoRun : PySem.W.subIn K (.ref CNoRun) (.ref CNoRun) = some true)
    (NoRunsNoText : PySem.W.subIn K (.ref CNoRun) (.ref CNoText) = some false)
    (NoRunga : PySem.W.findIn K (.ref CNoRun) "__getattribute__" = some (some (.builtin "BaseException.__getattribute__")))
    (NoRungg : PySem.W.findIn K (.ref CNoRun) "__getattr__" = some none)
    (NoRunca : PySem.W.findIn K (.ref CNoRun) "__class__" = some (some (.builtin "object.__class__")))
    (NoRuncm : PySem.W.mroIn K CNoRun (.type "object") = some true)
    (NoRunkv : PySem.W.kitOne K (.ref CNoRun) (.type "ValueError") = some true)
    (NoRunkCopyError : PySem.W.kitOne K (.ref CNoRun) (.ref CCopyError) = some true)
    (NoRunkNoRun : PySem.W.kitOne K (.ref CNoRun) (.ref CNoRun) = some true)
    (NoRunkNoText : PySem.W.kitOne K (.ref CNoRun) (.ref CNoText) = some false)
    (NoRuno : K.lookup CNoRun = some (excClassObj xNoRunnm xNoRunqn CNoRun xNoRunnN xNoRunbs xNoRunbm true xNoRunsn xNoRunsb xNoRunab xNoRunco xNoRundd xNoRunu0 xNoRunu1 xNoRunu2 xNoRunu3 xNoRunu5 "ValueError.__new__"))
    (NoRunoo : PySem.HandSPX.refsVE xNoRunbm = true)
    (NoRunsa : PySem.W.findIn K (.ref CNoRun) "__setattr__" = some (some (.builtin "object.__setattr__")))
    (NoRuni : PySem.W.findIn K (.ref CNoRun) "__init__" = some (some (.ref xNoRun)))
    (NoRunit : PySem.W.typeIn K (.ref xNoRun) = some (.type "function"))
    (xNoRunl : K.lookup xNoRun = some ⟨xNoRunoc, xNoRunod, .func (PySem.W.fnOf "__init__" "NoRun.__init__" (defArgs s_NoRun___init__) (defBody s_NoRun___init__) (defScope s_NoRun___init__) .none xNoRunkV xNoRundc xNoRunpm xNoRunan xNoRuncd xNoRunct), xNoRunsl⟩)
    (xNoRunc : PySem.W.codeIn K xNoRuncd "NoRun.__init__" = true)
    (xNoRunk : PySem.W.keepIn K (.ref xNoRun) = true)
    (NoRunnindex : PySem.W.findIn K (.ref CNoRun) "index" = some none)
    (NoTextex : PySem.W.subIn K (.ref CNoText) (.type "BaseException") = some true)
    (NoTextty : PySem.W.typeIn K (.ref CNoText) = some (.type "type"))
    (NoTexthd : PySem.W.hasDictIn K CNoText = true)
    (NoTextkc : PySem.W.keepIn K (.ref CNoText) = true)
    (NoTextsCopyError : PySem.W.subIn K (.ref CNoText) (.ref CCopyError) = some true)
    (NoTextsNoRun : PySem.W.subIn K (.ref CNoText) (.ref CNoRun) = some false)
    (NoTextsNoText : PySem.W.subIn K (.ref CNoText) (.ref CNoText) = some true)
    (NoTextga : PySem.W.findIn K (.ref CNoText) "__getattribute__" = some (some (.builtin "BaseException.__getattribute__")))
    (NoTextgg : PySem.W.findIn K (.ref CNoText) "__getattr__" = some none)
    (NoTextca : PySem.W.findIn K (.ref CNoText) "__class__" = some (some (.builtin "object.__class__")))
    (NoTextcm : PySem.W.mroIn K CNoText (.type "object") = some true)
    (NoTextkv : PySem.W.kitOne K (.ref CNoText) (.type "ValueError") = some true)
    (NoTextkCopyError : PySem.W.kitOne K (.ref CNoText) (.ref CCopyError) = some true)
    (NoTextkNoRun : PySem.W.kitOne K (.ref CNoText) (.ref CNoRun) = some false)
    (NoTextkNoText : PySem.W.kitOne K (.ref CNoText) (.ref CNoText) = some true)
    (NoTexto : K.lookup CNoText = some (excClassObj xNoTextnm xNoTextqn CNoText xNoTextnN xNoTextbs xNoTextbm true xNoTextsn xNoTextsb xNoTextab xNoTextco xNoTextdd xNoTextu0 xNoTextu1 xNoTextu2 xNoTextu3 xNoTextu5 "ValueError.__new__"))
    (NoTextoo : PySem.HandSPX.refsVE xNoTextbm = true)
    (NoTextsa : PySem.W.findIn K (.ref CNoText) "__setattr__" = some (some (.builtin "object.__setattr__")))
    (NoTexti : PySem.W.findIn K (.ref CNoText) "__init__" = some (some (.ref xNoText)))
    (NoTextit : PySem.W.typeIn K (.ref xNoText) = some (.type "function"))
    (xNoTextl : K.lookup xNoText = some ⟨xNoTextoc, xNoTextod, .func (PySem.W.fnOf "__init__" "NoText.__init__" (defArgs s_NoText___init__) (defBody s_NoText___init__) (defScope s_NoText___init__) .none xNoTextkV xNoTextdc xNoTextpm xNoTextan xNoTextcd xNoTextct), xNoTextsl⟩)
    (xNoTextc : PySem.W.codeIn K xNoTextcd "NoText.__init__" = true)
    (xNoTextk : PySem.W.keepIn K (.ref xNoText) = true)
    (NoTextnline : PySem.W.findIn K (.ref CNoText) "line" = some none)
    (kLETTERS : PySem.W.nsIn K mainGlobals "LETTERS" = some (some (.str "abcdefghijklmnopqrstuvwxyz" kLETTERSt)))
    (kMOST_CACHES : PySem.W.nsIn K mainGlobals "MOST_CACHES" = some (some (.int 6 kMOST_CACHESt)))
    (kMOST_INDEX : PySem.W.nsIn K mainGlobals "MOST_INDEX" = some (some (.int 29 kMOST_INDEXt)))
    : ∃ fd : FuncData, (∀ (s : Shared) (v : Value), BindsTo s fd ⟨[v], []⟩ [("_law_script", v)]) ∧ ∀ base : Heap, K.In base → base.Ns mainGlobals mg → FnOk l.prog w K mg base (L2.CX l.prog w) 43 fa fd ["_law_script"] (spLawV K) := by
  have e := hfa.symm.trans (PySem.W.mg_of X G a20)
  cases e
  obtain ⟨R, fd, ps, D, rfl, F⟩ := rows (w := w) X G a0 d0l d0c d0k a1 d1l d1c d1k a2 d2l d2c d2k a3 d3l d3c d3k a4 d4l d4c d4k a5 d5l d5c d5k a6 d6l d6c d6k a7 d7l d7c d7k a8 d8l d8c d8k a9 d9l d9c d9k a10 d10l d10c d10k a11 d11l d11c d11k a12 d12l d12c d12k a13 d13l d13c d13k a14 d14l d14c d14k a15 d15l d15c d15k a16 d16l d16c d16k a17 d17l d17c d17k a18 d18l d18c d18k a19 d19l d19c d19k a20 d20l d20c d20k z_len z_isinstance z_list z_tuple z_dict z_int z_bool z_str z_range z_enumerate z_zip z_all z_any z_sum z_min z_max z_abs z_sorted z_repr z_ord z_ValueError spn tkn CopyErrorm NoRunm NoTextm CopyErrorex CopyErrorty CopyErrorhd CopyErrorkc CopyErrorsCopyError CopyErrorsNoRun CopyErrorsNoText CopyErrorga CopyErrorgg CopyErrorca CopyErrorcm CopyErrorkv CopyErrorkCopyError CopyErrorkNoRun CopyErrorkNoText CopyErrore NoRunex NoRunty NoRunhd NoRunkc NoRunsCopyError NoRunsNoRun NoRunsNoText NoRunga NoRungg NoRunca NoRuncm NoRunkv NoRunkCopyError NoRunkNoRun NoRunkNoText NoRuno NoRunoo NoRunsa NoRuni NoRunit xNoRunl xNoRunc xNoRunk NoRunnindex NoTextex NoTextty NoTexthd NoTextkc NoTextsCopyError NoTextsNoRun NoTextsNoText NoTextga NoTextgg NoTextca NoTextcm NoTextkv NoTextkCopyError NoTextkNoRun NoTextkNoText NoTexto NoTextoo NoTextsa NoTexti NoTextit xNoTextl xNoTextc xNoTextk NoTextnline kLETTERS kMOST_CACHES kMOST_INDEX
  have T : TbOk (MK K w mg [(111, f0), (112, f1), (1, f2), (123, f3), (558, f4), (561, f5), (555, f6), (560, f7), (13, f8), (563, f9), (16, f10), (559, f11), (564, f12), (73, f13), (565, f14), (31, f15), (106, f16), (42, f17), (566, f18), (339, f19), (64, fa)] [] [(3, CCopyError), (5, CNoRun), (7, CNoText)]) B0 := ⟨rfl, fun _ => rfl, rfl, rfl, rfl, rfl, rfl, rfl, fns_ok rfl⟩
  refine ⟨fd, fun s v => ?_, fun base _ _ => law_fn R T D rfl (n := 20) law_pure⟩
  obtain ⟨⟨oc, od, kV, doc, pm, an, cdv, ct, osl, rfl, _, _⟩, _⟩ := F
  exact .of_eq rfl
theorem walk {l : PySem.W.OpenLaw} {q : Program} {loose : List Str} {XP : (Str → Option Value) → Heap → Prop} {YP : World → Heap → Prop} {d : DefRec} {K : Params → PySem.W.Frag} (hn : l.most = some 63) (hdf : d.params.defaults = [])
    (hY : ∀ (w : World) (h : Heap), YP w h → (K w.params).In h)
    (F : ∀ (w : World) (mg : Str → Option Value) (fa : Addr) (h : Heap), (K w.params).In h → h.Ns mainGlobals mg → mg d.name = some (.ref fa) →
      ∃ fd : FuncData, (∀ (s : Shared) (u : Value), BindsTo s fd ⟨[u], []⟩ [("_law_script", u)]) ∧ ∀ base : Heap, (K w.params).In base → base.Ns mainGlobals mg → FnOk l.prog w (K w.params) mg base (L2.CX l.prog w) 43 fa fd ["_law_script"] (spLawV (K w.params))) :
    PySem.W.WalkO q loose XP YP l.row.toRowW d [] (fun f vs => PySem.call f vs) :=
  L2.walk_of (n := 63) (k := 43) (x := "_law_script") (CX := fun w => L2.CX l.prog w) (sp := fun w => spLawV (K w.params)) hn (by decide) hdf ⟨rfl, by decide, by decide⟩ hY F (fun _ _ a ns hl _ hS => ⟨a, ns, rfl, hS, hl, fun _ => rfl⟩) fun _ _ _ _ _ z => cx_none z
end VL
open PySem PySem.W PyProof.Rows in
set_option maxRecDepth 100000 in
set_option maxHeartbeats 0 in
theorem PySem.Challenge.cw_copybooks_k82_read_run_holds : PySem.Challenge.rw_copybooks_k82_read_run.Holds := by
  w_on; o_law; k_head; (case hw => w_witness2)
  k_fill
  refine VL.walk (l := PySem.Challenge.rw_copybooks_k82_read_run) rfl rfl (fun w h Y => PySem.W.kIn_of Y) ?F
  case F =>
    intro w mg fa h KX G hmg
    refine' VL.all_mk KX G hmg ?a0 ?d0l ?d0c ?d0k ?a1 ?d1l ?d1c ?d1k ?a2 ?d2l ?d2c ?d2k ?a3 ?d3l ?d3c ?d3k ?a4 ?d4l ?d4c ?d4k ?a5 ?d5l ?d5c ?d5k ?a6 ?d6l ?d6c ?d6k ?a7 ?d7l ?d7c ?d7k ?a8 ?d8l ?d8c ?d8k ?a9 ?d9l ?d9c ?d9k ?a10 ?d10l ?d10c ?d10k ?a11 ?d11l ?d11c ?d11k ?a12 ?d12l ?d12c ?d12k ?a13 ?d13l ?d13c ?d13k ?a14 ?d14l ?d14c ?d14k ?a15 ?d15l ?d15c ?d15k ?a16 ?d16l ?d16c ?d16k ?a17 ?d17l ?d17c ?d17k ?a18 ?d18l ?d18c ?d18k ?a19 ?d19l ?d19c ?d19k ?a20 ?d20l ?d20c ?d20k ?z_len ?z_isinstance ?z_list ?z_tuple ?z_dict ?z_int ?z_bool ?z_str ?z_range ?z_enumerate ?z_zip ?z_all ?z_any ?z_sum ?z_min ?z_max ?z_abs ?z_sorted ?z_repr ?z_ord ?z_ValueError ?spn ?tkn ?CopyErrorm ?NoRunm ?NoTextm ?CopyErrorex ?CopyErrorty ?CopyErrorhd ?CopyErrorkc ?CopyErrorsCopyError ?CopyErrorsNoRun ?CopyErrorsNoText ?CopyErrorga ?CopyErrorgg ?CopyErrorca ?CopyErrorcm ?CopyErrorkv ?CopyErrorkCopyError ?CopyErrorkNoRun ?CopyErrorkNoText ?CopyErrore ?NoRunex ?NoRunty ?NoRunhd ?NoRunkc ?NoRunsCopyError ?NoRunsNoRun ?NoRunsNoText ?NoRunga ?NoRungg ?NoRunca ?NoRuncm ?NoRunkv ?NoRunkCopyError ?NoRunkNoRun ?NoRunkNoText ?NoRuno ?NoRunoo ?NoRunsa ?NoRuni ?NoRunit ?xNoRunl ?xNoRunc ?xNoRunk ?NoRunnindex ?NoTextex ?NoTextty ?NoTexthd ?NoTextkc ?NoTextsCopyError ?NoTextsNoRun ?NoTextsNoText ?NoTextga ?NoTextgg ?NoTextca ?NoTextcm ?NoTextkv ?NoTextkCopyError ?NoTextkNoRun ?NoTextkNoText ?NoTexto ?NoTextoo ?NoTextsa ?NoTexti ?NoTextit ?xNoTextl ?xNoTextc ?xNoTextk ?NoTextnline ?kLETTERS ?kMOST_CACHES ?kMOST_INDEX
    (case a0 => k_is)
    (case d0l => k_is)
    (case d0c => k_is)
    (case d0k => k_is)
    (case a1 => k_is)
    (case d1l => k_is)
    (case d1c => k_is)
    (case d1k => k_is)
    (case a2 => k_is)
    (case d2l => k_is)
    (case d2c => k_is)
    (case d2k => k_is)
    (case a3 => k_is)
    (case d3l => k_is)
    (case d3c => k_is)
    (case d3k => k_is)
    (case a4 => k_is)
    (case d4l => k_is)
    (case d4c => k_is)
    (case d4k => k_is)
    (case a5 => k_is)
    (case d5l => k_is)
    (case d5c => k_is)
    (case d5k => k_is)
    (case a6 => k_is)
    (case d6l => k_is)
    (case d6c => k_is)
    (case d6k => k_is)
    (case a7 => k_is)
    (case d7l => k_is)
    (case d7c => k_is)
    (case d7k => k_is)
    (case a8 => k_is)
    (case d8l => k_is)
    (case d8c => k_is)
    (case d8k => k_is)
    (case a9 => k_is)
    (case d9l => k_is)
    (case d9c => k_is)
    (case d9k => k_is)
    (case a10 => k_is)
    (case d10l => k_is)
    (case d10c => k_is)
    (case d10k => k_is)
    (case a11 => k_is)
    (case d11l => k_is)
    (case d11c => k_is)
    (case d11k => k_is)
    (case a12 => k_is)
    (case d12l => k_is)
    (case d12c => k_is)
    (case d12k => k_is)
    (case a13 => k_is)
    (case d13l => k_is)
    (case d13c => k_is)
    (case d13k => k_is)
    (case a14 => k_is)
    (case d14l => k_is)
    (case d14c => k_is)
    (case d14k => k_is)
    (case a15 => k_is)
    (case d15l => k_is)
    (case d15c => k_is)
    (case d15k => k_is)
    (case a16 => k_is)
    (case d16l => k_is)
    (case d16c => k_is)
    (case d16k => k_is)
    (case a17 => k_is)
    (case d17l => k_is)
    (case d17c => k_is)
    (case d17k => k_is)
    (case a18 => k_is)
    (case d18l => k_is)
    (case d18c => k_is)
    (case d18k => k_is)
    (case a19 => k_is)
    (case d19l => k_is)
    (case d19c => k_is)
    (case d19k => k_is)
    (case a20 => k_is)
    (case d20l => k_is)
    (case d20c => k_is)
    (case d20k => k_is)
    (case z_len => k_is)
    (case z_isinstance => k_is)
    (case z_list => k_is)
    (case z_tuple => k_is)
    (case z_dict => k_is)
    (case z_int => k_is)
    (case z_bool => k_is)
    (case z_str => k_is)
    (case z_range => k_is)
    (case z_enumerate => k_is)
    (case z_zip => k_is)
    (case z_all => k_is)
    (case z_any => k_is)
    (case z_sum => k_is)
    (case z_min => k_is)
    (case z_max => k_is)
    (case z_abs => k_is)
    (case z_sorted => k_is)
    (case z_repr => k_is)
    (case z_ord => k_is)
    (case z_ValueError => k_is)
    (case spn => k_is)
    (case tkn => k_is)
    (case CopyErrorm => k_is)
    (case NoRunm => k_is)
    (case NoTextm => k_is)
    (case CopyErrorex => k_is)
    (case CopyErrorty => k_is)
    (case CopyErrorhd => k_is)
    (case CopyErrorkc => k_is)
    (case CopyErrorsCopyError => k_is)
    (case CopyErrorsNoRun => k_is)
    (case CopyErrorsNoText => k_is)
    (case CopyErrorga => k_is)
    (case CopyErrorgg => k_is)
    (case CopyErrorca => k_is)
    (case CopyErrorcm => k_is)
    (case CopyErrorkv => kit_is)
    (case CopyErrorkCopyError => kit_is)
    (case CopyErrorkNoRun => kit_is)
    (case CopyErrorkNoText => kit_is)
    (case CopyErrore => k_exc)
    (case NoRunex => k_is)
    (case NoRunty => k_is)
    (case NoRunhd => k_is)
    (case NoRunkc => k_is)
    (case NoRunsCopyError => k_is)
    (case NoRunsNoRun => k_is)
    (case NoRunsNoText => k_is)
    (case NoRunga => k_is)
    (case NoRungg => k_is)
    (case NoRunca => k_is)
    (case NoRuncm => k_is)
    (case NoRunkv => kit_is)
    (case NoRunkCopyError => kit_is)
    (case NoRunkNoRun => kit_is)
    (case NoRunkNoText => kit_is)
    (case NoRuno => k_is)
    (case NoRunoo => first | rfl | decide +kernel)
    (case NoRunsa => k_is)
    (case NoRuni => k_is)
    (case NoRunit => k_is)
    (case xNoRunl => k_is)
    (case xNoRunc => k_is)
    (case xNoRunk => k_is)
    (case NoRunnindex => k_is)
    (case NoTextex => k_is)
    (case NoTextty => k_is)
    (case NoTexthd => k_is)
    (case NoTextkc => k_is)
    (case NoTextsCopyError => k_is)
    (case NoTextsNoRun => k_is)
    (case NoTextsNoText => k_is)
    (case NoTextga => k_is)
    (case NoTextgg => k_is)
    (case NoTextca => k_is)
    (case NoTextcm => k_is)
    (case NoTextkv => kit_is)
    (case NoTextkCopyError => kit_is)
    (case NoTextkNoRun => kit_is)
    (case NoTextkNoText => kit_is)
    (case NoTexto => k_is)
    (case NoTextoo => first | rfl | decide +kernel)
    (case NoTextsa => k_is)
    (case NoTexti => k_is)
    (case NoTextit => k_is)
    (case xNoTextl => k_is)
    (case xNoTextc => k_is)
    (case xNoTextk => k_is)
    (case NoTextnline => k_is)
    (case kLETTERS => k_is)
    (case kMOST_CACHES => k_is)
    (case kMOST_INDEX => k_is)
#print axioms PySem.Challenge.cw_copybooks_k82_read_run_holds
