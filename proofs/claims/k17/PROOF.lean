import PyProof.Rows.All
import Wide.All
import OpenK.AllK
import Wide.FinOn
import HandS.ForMost
import HandS.ExcInit
import HandS.TryMany
import HandS.ExcOwn
import KE.SortData
import HandS.TupMul
import HandS.TupAny
import HandS.Deep
import HandS.Flow
import HandS.Style
import HandS.DictComp
import HandS.Zip
import HandS.IsInst
import HandS.Walk
import HandS.SetKeys
import HandS.Small
import KE.GoesEnum
import HandS.Defaults
import HandS.Comp
import PyProof.SumAny
import HandS.Star
import HandS.ExcField
import HandS.Iter
import KE.KExcInit
import KE.KExcIs
import HandS.Words
import HandS.ExcValue
import HandS.SetFor
import HandS.Strs
import KE.KDictList
import HandS.NoneIn
import HandS.Head0
import HandS.Head1
import HandS.Head2
import HandS.HeadEnd
import HandS.HeadHook1
import HandS.HeadHook2
import HandS.HeadHook4
import PyProof.TableCode
import PySem.Challenge.RW_aliasrows_k17_which_puts_are_told_and_le
section
set_option linter.all false
set_option maxRecDepth 100000
/-! Mi: a small language of the program's own kind, run by a plain Lean function: values by value, what is changed in a store. -/
namespace Mi
abbrev Cs := List Nat
inductive K2 where
  | ki (n : Int) | ks (c : Cs)
  deriving DecidableEq
inductive D where
  | non | bl (b : Bool) | int (i : Int) | str (c : Cs)
  | lst (ds : List D) | tup (ds : List D) | dct (ks : List K2) (ds : List D)
  | ref (n : Nat) | exc (c : Nat) (ds : List D)
inductive Ob where
  | lst (ds : List D) | dct (ks : List K2) (ds : List D) | ro (is : List Int) | dead
def iD (is : List Int) : List D := is.map D.int
abbrev Sto := List Ob
abbrev Env := List (Option D)
inductive Rs (α : Type) where
  | stuck | ok (a : α) (s : Sto) | ex (c : Nat) (ds : List D) (s : Sto)
def Rs.bind {α β : Type} : Rs α → (α → Sto → Rs β) → Rs β
  | .stuck, _ => .stuck
  | .ok a s, f => f a s
  | .ex c ds s, _ => .ex c ds s
inductive B2 where | add | sub | mul | fdiv | mod | pow
  deriving DecidableEq
inductive C2 where | eq | ne | lt | le | gt | ge | isin | notin | isn | notn
  deriving DecidableEq
/-- built-in types -/
inductive Ty where | int | str | bool | list | tuple | none
  deriving DecidableEq
/-- built-in functions -/
inductive Bf where | len | abs | int | list | listM | tuple | sorted | min | max | sum | all | any | isinst (ts : List Ty) | sortset | lenset | tupleS | minS | maxS | sumL | vals | dictP
  deriving DecidableEq
/-- methods of built-in types -/
inductive Mf where | append | pop | get | setdefault | strip | index | count
  deriving DecidableEq
mutual
inductive E where
  | non | bl (b : Bool) | int (i : Int) | str (c : Cs) | var (i : Nat)
  | tup (es : Es) | lst (m : Bool) (es : Es) | dict0 (m : Bool)
  | bin (op : B2) (a b : E) | catM (a b : E) | neg (a : E) | cmp (op : C2) (a b : E) | chain (p q : C2) (a b c : E)
  | and (a b : E) | or (a b : E) | not (a : E) | ite (c a b : E)
  | ix (a b : E) | sl (a : E) (lo hi : Eo) | rev (a : E)
  | call (f : Nat) (es : Es) | callk (f : Nat) (pm : List Nat) (es : Es) | blt (f : Bf) (es : Es) | mth (m : Mf) (o : E) (es : Es)
  | comp (m : Bool) (elt : E) (tg : List Nat) (src : Sr) (ifs : Es) (own : List Nat)
  | comp2 (m : Bool) (elt : E) (tg : List Nat) (src : Sr) (ifs : Es) (tg2 : List Nat) (src2 : Sr) (ifs2 : Es) (own own2 : List Nat)
  | dcomp (m : Bool) (kx vx : E) (tg : List Nat) (src : Sr) (ifs : Es) (own : List Nat)
  | dcomp2 (m : Bool) (kx vx : E) (tg : List Nat) (src : Sr) (ifs : Es) (tg2 : List Nat) (src2 : Sr) (ifs2 : Es)
  | exn (c : Nat) (es : Es) | fld (cs : List Nat) (e : E) | isE (no yes : List Nat) (e : E)
inductive Es where | nil | cons (e : E) (es : Es) | star (e : E) (es : Es)
inductive Eo where | none | some (e : E)
inductive Sr where | it (e : E) | zip (a b : E) | enum (e : E) | rng (e : E) | rng2 (a b : E) | vals (e : E) | keys (e : E)
end
mutual
inductive S where
  | set (i : Nat) (e : E) | unp (tg : List Nat) (e : E) | setix (o i e : E) | expr (e : E)
  | ifs (c : E) (a b : Ss) | for_ (tg : List Nat) (src : Sr) (body : Ss) | while_ (c : E) (body : Ss)
  | ret (e : E) | retn | pass | brk | cont | frz (i : Nat)
  | rse (e : E) | try_ (body : Ss) (hs : Hs)
inductive Ss where | nil | cons (s : S) (ss : Ss)
/-- except clauses: the classes that are none of the named one's, those that are, the slot, the suite -/
inductive Hs where | nil | cons (no yes : List Nat) (i : Option Nat) (suite : Ss) (r : Hs)
end
/-- what a statement comes to -/
inductive Fl where | nx (ρ : Env) | rt (d : D) | bk (ρ : Env) | ct (ρ : Env) | xn (c : Nat) (ds : List D) (ρ : Env)
/-- an expression within a statement -/
def Rs.stm {α : Type} : Rs α → Env → (α → Sto → Rs Fl) → Rs Fl
  | .stuck, _, _ => .stuck
  | .ok a s, _, f => f a s
  | .ex c ds s, ρ, _ => .ok (.xn c ds ρ) s

/-! ### values -/
mutual
def D.eqv : D → D → Bool
  | .non, .non => true
  | .bl a, .bl b => a == b
  | .bl a, .int j => (if a then 1 else 0) == j
  | .int i, .bl b => i == (if b then 1 else 0)
  | .int i, .int j => i == j
  | .str x, .str y => x == y
  | .lst xs, .lst ys => D.eqvs xs ys
  | .tup xs, .tup ys => D.eqvs xs ys
  | _, _ => false
def D.eqvs : List D → List D → Bool
  | [], [] => true
  | x :: xs, y :: ys => D.eqv x y && D.eqvs xs ys
  | _, _ => false
end
mutual
/-- data alone (no dict, nothing of the store), at most n deep -/
def D.pl : Nat → D → Bool
  | _, .non => true
  | _, .bl _ => true
  | _, .int _ => true
  | _, .str c => c.all fun x => Nat.blt x 1114112
  | n + 1, .lst ds => D.pls n ds
  | n + 1, .tup ds => D.pls n ds
  | _, _ => false
def D.pls : Nat → List D → Bool
  | _, [] => true
  | n, d :: ds => D.pl n d && D.pls n ds
end
mutual
/-- no address of the store from n on -/
def D.lowr (n : Nat) : D → Bool
  | .lst ds => D.lowrs n ds
  | .tup ds => D.lowrs n ds
  | .dct _ ds => D.lowrs n ds
  | .ref k => Nat.blt k n
  | .exc _ ds => D.lowrs n ds
  | _ => true
def D.lowrs (n : Nat) : List D → Bool
  | [] => true
  | d :: ds => D.lowr n d && D.lowrs n ds
end
def Ob.lowr (n : Nat) : Ob → Bool
  | .lst ds => D.lowrs n ds
  | .dct _ ds => D.lowrs n ds
  | .ro _ => true
  | .dead => true
/-- < of data that are alike; none where they are not -/
def codeLt : Cs → Cs → Bool
  | [], [] => false
  | [], _ :: _ => true
  | _ :: _, [] => false
  | a :: as, b :: bs => if a = b then codeLt as bs else decide (a < b)
mutual
def D.lt : D → D → Bool
  | .bl a, .bl b => !a && b
  | .int i, .int j => decide (i < j)
  | .str x, .str y => codeLt x y
  | .lst xs, .lst ys => D.lts xs ys
  | .tup xs, .tup ys => D.lts xs ys
  | _, _ => false
def D.lts : List D → List D → Bool
  | [], [] => false
  | [], _ :: _ => true
  | _ :: _, [] => false
  | x :: xs, y :: ys => if D.eqv x y then D.lts xs ys else D.lt x y
end
mutual
def D.alike : D → D → Bool
  | .non, .non => true
  | .bl _, .bl _ => true
  | .int _, .int _ => true
  | .str _, .str _ => true
  | .lst xs, .lst ys => D.alikes xs ys
  | .tup xs, .tup ys => D.alikes xs ys
  | _, _ => false
def D.alikes : List D → List D → Bool
  | x :: xs, y :: ys => D.alike x y && D.alikes xs ys
  | _, _ => true
end
def D.isTup1 : D → Bool
  | .tup (_ :: _) => true
  | _ => false
def D.noTup : D → Bool
  | .non => false
  | .tup _ => false
  | _ => true
/-- may be sorted -/
def sortable (ds : List D) : Bool := ds.all (D.pl 60) && ds.all (fun x => ds.all (D.alike x)) && (ds.all D.isTup1 || ds.all D.noTup)
def insD (x : D) : List D → List D
  | [] => [x]
  | y :: ys => if D.lt y x then y :: insD x ys else x :: y :: ys
def sortD : List D → List D
  | [] => []
  | x :: xs => insD x (sortD xs)
/-- each once, the first of equal ones -/
def dedup (seen : List D) : List D → List D
  | [] => []
  | x :: xs => if seen.any (D.eqv x) then dedup seen xs else x :: dedup (x :: seen) xs
def K2.of : D → Option K2
  | .int i => some (.ki i)
  | .str c => some (.ks c)
  | _ => none
def K2.d : K2 → D
  | .ki i => .int i
  | .ks c => .str c
def K2.small : K2 → Bool
  | .ki _ => true
  | .ks c => decide (c.length ≤ 16777216)
def look (k : K2) : List K2 → List D → Option D
  | j :: ks, d :: ds => if j = k then some d else look k ks ds
  | _, _ => none
def repl (k : K2) (v : D) : List K2 → List D → List D
  | j :: ks, d :: ds => (if j = k then v else d) :: repl k v ks ds
  | _, ds => ds
def putK (k : K2) (v : D) (ks : List K2) (ds : List D) : List K2 × List D := if ks.any (fun j => decide (j = k)) then (ks, repl k v ks ds) else (ks ++ [k], ds ++ [v])
/-- the place of an index -/
def ixN (n : Nat) (i : Int) : Option Nat := if 0 ≤ i then (if i < n then some i.toNat else none) else if -(n : Int) ≤ i then some (i + n).toNat else none
def sIx (n d : Nat) : Option Int → Nat
  | none => d
  | some v => if v < 0 then (v + n).toNat else min v.toNat n
def cut {α : Type} (xs : List α) (lo hi : Option Int) : List α := (xs.drop (sIx xs.length 0 lo)).take (sIx xs.length xs.length hi - sIx xs.length 0 lo)
def truth (s : Sto) : D → Option Bool
  | .non => some false
  | .bl b => some b
  | .int i => some (decide (i ≠ 0))
  | .str c => some (!c.isEmpty)
  | .lst ds => some (!ds.isEmpty)
  | .tup ds => some (!ds.isEmpty)
  | .dct _ _ => none
  | .ref n => match s[n]? with
    | some (.lst ds) => some (!ds.isEmpty)
    | some (.ro is) => some (!(iD is).isEmpty)
    | some (.dct ks _) => some (!ks.isEmpty)
    | _ => none
  | .exc _ _ => none
def typeOf : D → Option Ty
  | .non => some .none
  | .bl _ => some .bool
  | .int _ => some .int
  | .str _ => some .str
  | .lst _ => some .list
  | .tup _ => some .tuple
  | _ => none
def isInst (t : Ty) (d : D) : Option Bool := (typeOf d).map fun n => decide (n = t) || (decide (n = .bool) && decide (t = .int))
def isInsts : List Ty → D → Option Bool
  | [], _ => some false
  | t :: ts, d => match isInst t d with
    | some true => some true
    | some false => isInsts ts d
    | none => none
/-- the most that a list holds -/
def big : Nat := 16777216

/-! ### the run -/
/-- what a list or a tuple holds, by value or in the store -/
def seqOf (s : Sto) : D → Option (List D)
  | .lst ds => some ds
  | .tup ds => some ds
  | .ref n => match s[n]? with
    | some (.lst ds) => some ds
    | some (.ro is) => some (iD is)
    | _ => none
  | _ => none
/-- a list that is added to another one -/
def lstOf (s : Sto) : D → Option (List D)
  | .lst ds => some ds
  | .ref n => match s[n]? with
    | some (.lst ds) => some ds
    | _ => none
  | _ => none
def dctOf (s : Sto) : D → Option (List K2 × List D)
  | .dct ks ds => some (ks, ds)
  | .ref n => match s[n]? with
    | some (.dct ks ds) => some (ks, ds)
    | _ => none
  | _ => none
def okList (ds : List D) (s : Sto) : Rs D := if ds.length ≤ big then .ok (.lst ds) s else .stuck
def newList (m : Bool) (ds : List D) (s : Sto) : Rs D := if ds.length ≤ big then (if m then .ok (.ref s.length) (s ++ [.lst ds]) else .ok (.lst ds) s) else .stuck
def wideBits : Nat := 400000
def wide (i : Int) : Bool := decide (i.natAbs < 2 ^ 400000)
/-- a op b -/
def binD (s : Sto) : B2 → D → D → Rs D
  | .add, .int i, .int j => .ok (.int (i + j)) s
  | .add, .tup a, .tup b => if (a ++ b).length ≤ big then .ok (.tup (a ++ b)) s else .stuck
  | .sub, .int i, .int j => .ok (.int (i - j)) s
  | .mul, .int i, .int j => if (decide (i.natAbs < 2 ^ 64) || decide (j.natAbs < 2 ^ 64)) then .ok (.int (i * j)) s else .stuck
  | .mul, .lst a, .int j => if 0 ≤ j ∧ j ≤ 1000 ∧ a.length * j.toNat ≤ big then .ok (.lst (List.replicate j.toNat a).flatten) s else .stuck
  | .mul, .tup a, .int j => if 2 ≤ j ∧ j ≤ 1000 ∧ 0 < a.length ∧ a.length ≤ 1000 then .ok (.tup (List.replicate j.toNat a).flatten) s else .stuck
  | .fdiv, .int i, .int j => if 0 < j ∧ j < 1073741824 then .ok (.int (i / j)) s else .stuck
  | .mod, .int i, .int j => if 0 < j then .ok (.int (i % j)) s else .stuck
  | .pow, .int i, .int j => if 0 ≤ j ∧ j ≤ 1000 ∧ i.natAbs < 2 ^ 64 then .ok (.int (i ^ j.toNat)) s else .stuck
  | .add, x, y => match lstOf s x, lstOf s y with
    | some a, some b => okList (a ++ b) s
    | _, _ => .stuck
  | _, _, _ => .stuck
def keyed (s : Sto) (k d : D) : Option (Option D) :=
  match K2.of k, dctOf s d with
  | some k, some (ks, ds) => some (look k ks ds)
  | _, _ => none
def inD (s : Sto) (x y : D) : Option Bool :=
  match seqOf s y with
  | some ds => if D.pl 60 x && ds.all (D.pl 60) then some (ds.any fun z => D.eqv z x) else none
  | none => (keyed s x y).map (·.isSome)
/-- a op b, a comparison -/
def cmpD (s : Sto) : C2 → D → D → Option Bool
  | .eq, x, y => if D.pl 60 x && D.pl 60 y then some (D.eqv x y) else none
  | .ne, x, y => if D.pl 60 x && D.pl 60 y then some (!D.eqv x y) else none
  | .lt, .int i, .int j => some (decide (i < j))
  | .le, .int i, .int j => some (decide (i ≤ j))
  | .gt, .int i, .int j => some (decide (j < i))
  | .ge, .int i, .int j => some (decide (j ≤ i))
  | .lt, .str a, .str b => some (codeLt a b)
  | .le, .str a, .str b => some (!codeLt b a)
  | .lt, .tup a, .tup b => if D.pl 60 (.tup a) && D.pl 60 (.tup b) && D.alikes a b then some (D.lts a b) else none
  | .isin, x, y => inD s x y
  | .notin, x, y => (inD s x y).map (!·)
  | .isn, x, _ => some (match x with | .non => true | _ => false)
  | .notn, x, _ => some (match x with | .non => false | _ => true)
  | _, _, _ => none
def ofB (s : Sto) : Option Bool → Rs D
  | some b => .ok (.bl b) s
  | none => .stuck
def lift {α : Type} (s : Sto) : Option α → Rs α
  | some a => .ok a s
  | none => .stuck
def ixD (s : Sto) (o i : D) : Rs D :=
  match o, i with
  | .str c, .int i => match ixN c.length i with
    | some j => match c[j]? with
      | some x => .ok (.str [x]) s
      | none => .stuck
    | none => .stuck
  | o, i => match seqOf s o with
    | some ds => match i with
      | .int i => match ixN ds.length i with
        | some j => lift s ds[j]?
        | none => .stuck
      | _ => .stuck
    | none => match keyed s i o with
      | some (some v) => .ok v s
      | _ => .stuck
def slD (s : Sto) (o : D) (lo hi : Option Int) : Rs D :=
  match o with
  | .lst ds => .ok (.lst (cut ds lo hi)) s
  | .tup ds => .ok (.tup (cut ds lo hi)) s
  | .ref n => match s[n]? with
    | some (.lst ds) => .ok (.lst (cut ds lo hi)) s
    | some (.ro is) => .ok (.lst (cut (iD is) lo hi)) s
    | _ => .stuck
  | _ => .stuck
def revD (s : Sto) : D → Rs D
  | .lst ds => .ok (.lst ds.reverse) s
  | .tup ds => .ok (.tup ds.reverse) s
  | _ => .stuck
def intsOf : List D → Option (List Int)
  | [] => some []
  | .int i :: r => (intsOf r).map (i :: ·)
  | _ => none
def blsOf : List D → Option (List Bool)
  | [] => some []
  | .bl b :: r => (blsOf r).map (b :: ·)
  | _ => none
def strOf : D → Option Cs
  | .str c => some c
  | _ => none
/-- the first of the least ones -/
def minI : Int → List Int → Int
  | m, [] => m
  | m, x :: r => minI (if x < m then x else m) r
def maxI : Int → List Int → Int
  | m, [] => m
  | m, x :: r => maxI (if m < x then x else m) r
def sumL : List D → List D → Option (List D)
  | acc, [] => some acc
  | acc, .lst ds :: r => if (acc ++ ds).length ≤ big then sumL (acc ++ ds) r else none
  | _, _ => none
def keysD : List D → Option (List K2)
  | [] => some []
  | d :: r => match K2.of d, keysD r with
    | some k, some ks => some (k :: ks)
    | _, _ => none
def oneKd (ks : List K2) : Bool := (ks.all fun k => match k with | .ki _ => true | _ => false) || (ks.all fun k => match k with | .ks c => c.all fun x => Nat.blt x 1114112 | _ => false)
/-- each once -/
def dedK : List K2 → List K2
  | [] => []
  | k :: r => if r.any (fun j => decide (j = k)) then dedK r else k :: dedK r
/-- a dict of a list of pairs -/
def dictD (ks : List K2) (ds : List D) : List D → Option (List K2 × List D)
  | [] => some (ks, ds)
  | .tup [k, v] :: r => match K2.of k with
    | some k => dictD (putK k v ks ds).1 (putK k v ks ds).2 r
    | none => none
  | _ :: _ => none
def bltD (s : Sto) : Bf → List D → Rs D
  | .len, [.str c] => .ok (.int c.length) s
  | .len, [d] => match seqOf s d with
    | some ds => .ok (.int ds.length) s
    | none => match dctOf s d with
      | some (ks, _) => .ok (.int ks.length) s
      | none => .stuck
  | .abs, [.int i] => .ok (.int (if i < 0 then -i else i)) s
  | .int, [.int i] => .ok (.int i) s
  | .int, [.bl b] => .ok (.int (if b then 1 else 0)) s
  | .list, [d] => match seqOf s d with
    | some ds => .ok (.lst ds) s
    | none => .stuck
  | .listM, [d] => match seqOf s d with
    | some ds => .ok (.ref s.length) (s ++ [.lst ds])
    | none => .stuck
  | .tupleS, [.str c] => if c.length ≤ big then .ok (.tup (c.map fun x => .str [x])) s else .stuck
  | .tuple, [d] => match seqOf s d with
    | some ds => .ok (.tup ds) s
    | none => .stuck
  | .sorted, [d] => match seqOf s d with
    | some ds => if sortable ds then .ok (.lst (sortD ds)) s else .stuck
    | none => .stuck
  | .sortset, [d] => match (seqOf s d).bind keysD with
    | some ks => if oneKd ks && decide (ks.length < 4095) then .ok (.lst (sortD ((dedK ks).map K2.d))) s else .stuck
    | none => .stuck
  | .lenset, [d] => match (seqOf s d).bind keysD with
    | some ks => if ks.length < 4095 then .ok (.int (dedK ks).length) s else .stuck
    | none => .stuck
  | .vals, [d] => match dctOf s d with
    | some (_, ds) => .ok (.lst ds) s
    | none => .stuck
  | .dictP, [d] => match (seqOf s d).bind (dictD [] []) with
    | some (ks, ds) => .ok (.dct ks ds) s
    | none => .stuck
  | .min, [.int i, .int j] => .ok (.int (if j < i then j else i)) s
  | .max, [.int i, .int j] => .ok (.int (if j > i then j else i)) s
  | .minS, [.str i, .str j] => .ok (.str (if codeLt j i then j else i)) s
  | .maxS, [.str i, .str j] => .ok (.str (if codeLt i j then j else i)) s
  | .min, [d] => match (lstOf s d).bind intsOf with
    | some (i :: r) => .ok (.int (minI i r)) s
    | _ => .stuck
  | .max, [d] => match (lstOf s d).bind intsOf with
    | some (i :: r) => .ok (.int (maxI i r)) s
    | _ => .stuck
  | .sum, [d] => match (lstOf s d).bind intsOf with
    | some l => .ok (.int l.sum) s
    | none => .stuck
  | .sumL, [.lst ds, .lst []] => match sumL [] ds with
    | some l => .ok (.lst l) s
    | none => .stuck
  | .all, [d] => match (lstOf s d).bind blsOf with
    | some l => .ok (.bl (l.all id)) s
    | none => .stuck
  | .any, [d] => match (lstOf s d).bind blsOf with
    | some l => .ok (.bl (l.any id)) s
    | none => .stuck
  | .isinst ts, [d] => ofB s (isInsts ts d)
  | _, _ => .stuck
def stripL (cs : List Nat) : List Nat → List Nat
  | [] => []
  | x :: r => if cs.contains x then stripL cs r else x :: r
/-- the receiver is of the method's kind -/
def recv (s : Sto) : Mf → D → Bool
  | .append, .ref n => match s[n]? with
    | some (.lst _) => true
    | _ => false
  | .pop, .ref n => match s[n]? with
    | some (.lst _) => true
    | _ => false
  | .get, d => (dctOf s d).isSome
  | .setdefault, .ref n => match s[n]? with
    | some (.dct _ _) => true
    | _ => false
  | .strip, .str _ => true
  | _, _ => false
def mthD (s : Sto) : Mf → D → List D → Rs D
  | .append, .ref n, [d] => match s[n]? with
    | some (.lst ds) => if ds.length < big then .ok .non (s.set n (.lst (ds ++ [d]))) else .stuck
    | _ => .stuck
  | .pop, .ref n, [] => match s[n]? with
    | some (.lst ds) => match ds[ds.length - 1]? with
      | some d => .ok d (s.set n (.lst ds.dropLast))
      | none => .stuck
    | _ => .stuck
  | .pop, .ref n, [.int i] => match s[n]? with
    | some (.lst ds) => match ixN ds.length i with
      | some j => match ds[j]? with
        | some d => .ok d (s.set n (.lst (ds.eraseIdx j)))
        | none => .stuck
      | none => .stuck
    | _ => .stuck
  | .get, d, [k] => match keyed s k d with
    | some o => .ok (o.getD .non) s
    | none => .stuck
  | .get, d, [k, v] => match keyed s k d with
    | some o => .ok (o.getD v) s
    | none => .stuck
  | .setdefault, .ref n, [k, v] => match s[n]?, K2.of k with
    | some (.dct ks ds), some k => if ks.length < big then match look k ks ds with
        | some d => .ok d s
        | none => .ok v (s.set n (.dct (ks ++ [k]) (ds ++ [v])))
      else .stuck
    | _, _ => .stuck
  | .strip, .str c, [.str x] => .ok (.str (stripL x (stripL x c).reverse).reverse) s
  | _, _, _ => .stuck
/-- o[i] = v -/
def setD (s : Sto) (o i v : D) : Option Sto :=
  match o with
  | .ref n => match s[n]? with
    | some (.lst ds) => match i with
      | .int i => (ixN ds.length i).map fun j => s.set n (.lst (ds.set j v))
      | _ => none
    | some (.dct ks ds) => match K2.of i with
      | some k => if ks.length < big then some (s.set n (.dct (putK k v ks ds).1 (putK k v ks ds).2)) else none
      | none => none
    | _ => none
  | _ => none
/-- a target takes a value -/
def setAll : List Nat → List D → Env → Env
  | i :: is, d :: ds, ρ => setAll is ds (ρ.set i (some d))
  | _, _, ρ => ρ
def tgt (tg : List Nat) (d : D) (ρ : Env) : Option Env :=
  match tg with
  | [i] => some (ρ.set i (some d))
  | _ => match d with
    | .tup ds => if ds.length = tg.length then some (setAll tg ds ρ) else none
    | _ => none
/-- several names -/
def tgtT (tg : List Nat) (d : D) (ρ : Env) : Option Env :=
  match d with
  | .tup ds => if ds.length = tg.length then some (setAll tg ds ρ) else none
  | .lst ds => if ds.length = tg.length then some (setAll tg ds ρ) else none
  | _ => none
/-- slots forgotten -/
def clr : List Nat → Env → Env
  | [], ρ => ρ
  | i :: r, ρ => (clr r ρ).set i none
def zipD : List D → List D → List D
  | a :: as, b :: bs => .tup [a, b] :: zipD as bs
  | _, _ => []
def enumD (k : Nat) : List D → List D
  | a :: as => .tup [.int k, a] :: enumD (k + 1) as
  | [] => []
def rngD (lo : Int) (n : Nat) : List D := (List.range n).map fun (i : Nat) => D.int (lo + (i : Int))
/-- a list by value whose parts are what a walk gives -/
def walkD : D → Option (List D)
  | .lst ds => some ds
  | .tup ds => some ds
  | .str c => some (c.map fun x => .str [x])
  | _ => none
/-- what raises within a comprehension is not served -/
def noex {α : Type} : Rs α → Rs α
  | .ok a s => .ok a s
  | _ => .stuck
def compL (f : D → Sto → Rs (Option D)) : List D → Sto → Rs (List D)
  | [], s => .ok [] s
  | x :: xs, s => (noex (f x s)).bind fun o s1 => (compL f xs s1).bind fun r s2 => .ok (match o with | some y => y :: r | none => r) s2
def dcompL (f : D → Sto → Rs (Option (K2 × D))) : List K2 → List D → List D → Sto → Rs (List K2 × List D)
  | ks, ds, [], s => .ok (ks, ds) s
  | ks, ds, x :: xs, s => (noex (f x s)).bind fun o s1 => match o with
    | some (k, v) => dcompL f (putK k v ks ds).1 (putK k v ks ds).2 xs s1
    | none => dcompL f ks ds xs s1
def accL (f : D → List K2 → List D → Sto → Rs (List K2 × List D)) : List K2 → List D → List D → Sto → Rs (List K2 × List D)
  | ks, ds, [], s => .ok (ks, ds) s
  | ks, ds, x :: xs, s => (noex (f x ks ds s)).bind fun p s1 => accL f p.1 p.2 xs s1
def accM (f : D → List D → Sto → Rs (List D)) : List D → List D → Sto → Rs (List D)
  | ys, [], s => .ok ys s
  | ys, x :: xs, s => (noex (f x ys s)).bind fun ys1 s1 => accM f ys1 xs s1
def newDict (m : Bool) (p : List K2 × List D) (s : Sto) : Rs D := if m then .ok (.ref s.length) (s ++ [.dct p.1 p.2]) else .ok (.dct p.1 p.2) s

/-- arguments by name, in the order of the parameters -/
def pick : List Nat → List D → Option (List D)
  | [], _ => some []
  | i :: r, ds => match ds[i]?, pick r ds with
    | some d, some as => some (d :: as)
    | _, _ => none
/-- a test -/
def tst (r : Rs D) : Rs Bool := r.bind fun d s1 => lift s1 (truth s1 d)
section
variable (C : Nat → List D → Sto → Rs D)
mutual
def evE : E → Env → Sto → Rs D
  | .non, _, s => .ok .non s
  | .bl b, _, s => .ok (.bl b) s
  | .int i, _, s => .ok (.int i) s
  | .str c, _, s => .ok (.str c) s
  | .var i, ρ, s => match ρ[i]? with
    | some (some d) => .ok d s
    | _ => .stuck
  | .tup es, ρ, s => (evEs es ρ s).bind fun ds s1 => if ds.length ≤ big then .ok (.tup ds) s1 else .stuck
  | .lst m es, ρ, s => (evEs es ρ s).bind fun ds s1 => newList m ds s1
  | .dict0 m, _, s => newDict m ([], []) s
  | .bin op a b, ρ, s => (evE a ρ s).bind fun x s1 => (evE b ρ s1).bind fun y s2 => binD s2 op x y
  | .catM a b, ρ, s => (evE a ρ s).bind fun x s1 => (evE b ρ s1).bind fun y s2 => match lstOf s2 x, lstOf s2 y with
    | some a, some b => newList true (a ++ b) s2
    | _, _ => .stuck
  | .neg a, ρ, s => (evE a ρ s).bind fun x s1 => match x with
    | .int i => .ok (.int (-i)) s1
    | _ => .stuck
  | .cmp op a b, ρ, s => (evE a ρ s).bind fun x s1 => (evE b ρ s1).bind fun y s2 => ofB s2 (cmpD s2 op x y)
  | .chain p q a b c, ρ, s => (evE a ρ s).bind fun x s1 => (evE b ρ s1).bind fun y s2 => match cmpD s2 p x y with
    | some false => .ok (.bl false) s2
    | some true => (evE c ρ s2).bind fun z s3 => ofB s3 (cmpD s3 q y z)
    | none => .stuck
  | .and a b, ρ, s => (evE a ρ s).bind fun x s1 => match truth s1 x with
    | some true => evE b ρ s1
    | some false => .ok x s1
    | none => .stuck
  | .or a b, ρ, s => (evE a ρ s).bind fun x s1 => match truth s1 x with
    | some true => .ok x s1
    | some false => evE b ρ s1
    | none => .stuck
  | .not a, ρ, s => (evE a ρ s).bind fun x s1 => ofB s1 ((truth s1 x).map (!·))
  | .ite c a b, ρ, s => (tst (evE c ρ s)).bind fun t s1 => if t then evE a ρ s1 else evE b ρ s1
  | .ix a b, ρ, s => (evE a ρ s).bind fun x s1 => (evE b ρ s1).bind fun y s2 => ixD s2 x y
  | .sl a lo hi, ρ, s => (evE a ρ s).bind fun x s1 => (evO lo ρ s1).bind fun l s2 => (evO hi ρ s2).bind fun h s3 => slD s3 x l h
  | .rev a, ρ, s => (evE a ρ s).bind fun x s1 => revD s1 x
  | .call f es, ρ, s => (evEs es ρ s).bind fun ds s1 => C f ds s1
  | .callk f pm es, ρ, s => (evEs es ρ s).bind fun ds s1 => if ds.length = pm.length then (match pick pm ds with
    | some as => C f as s1
    | none => .stuck) else .stuck
  | .blt f es, ρ, s => (evEs es ρ s).bind fun ds s1 => bltD s1 f ds
  | .mth m o es, ρ, s => (evE o ρ s).bind fun x s1 => if recv s1 m x then (evEs es ρ s1).bind fun ds s2 => mthD s2 m x ds else .stuck
  | .comp m elt tg src ifs _, ρ, s => (evR src ρ s).bind fun xs s1 => if xs.length ≤ big then (compL (fun x s => match tgt tg x ρ with
      | some ρ1 => (evTs ifs ρ1 s).bind fun t s2 => if t then (evE elt ρ1 s2).bind fun y s3 => .ok (some y) s3 else .ok none s2
      | none => .stuck) xs s1).bind fun ys s2 => newList m ys s2
    else .stuck
  | .comp2 m elt tg src ifs tg2 src2 ifs2 _ _, ρ, s => (evR src ρ s).bind fun xs s1 => (accM (fun x ys s => match tgt tg x (clr tg2 ρ) with
      | some ρ1 => (evTs ifs ρ1 s).bind fun t s2 => if t then (evR src2 ρ1 s2).bind fun zs s3 => if ys.length + zs.length ≤ big then (compL (fun z s => match tgt tg2 z ρ1 with
            | some ρ2 => (evTs ifs2 ρ2 s).bind fun t s4 => if t then (evE elt ρ2 s4).bind fun y s5 => .ok (some y) s5 else .ok none s4
            | none => .stuck) zs s3).bind fun r s6 => .ok (ys ++ r) s6 else .stuck
        else .ok ys s2
      | none => .stuck) [] xs s1).bind fun ys s2 => newList m ys s2
  | .dcomp m kx vx tg src ifs _, ρ, s => (evR src ρ s).bind fun xs s1 => if xs.length ≤ big then (dcompL (fun x s => match tgt tg x ρ with
      | some ρ1 => (evTs ifs ρ1 s).bind fun t s2 => if t then (evE kx ρ1 s2).bind fun k s3 => (evE vx ρ1 s3).bind fun v s4 => match K2.of k with
          | some k => .ok (some (k, v)) s4
          | none => .stuck
        else .ok none s2
      | none => .stuck) [] [] xs s1).bind fun p s2 => newDict m p s2
    else .stuck
  | .dcomp2 m kx vx tg src ifs tg2 src2 ifs2, ρ, s => (evR src ρ s).bind fun xs s1 => (accL (fun x ks ds s => match tgt tg x (clr tg2 ρ) with
      | some ρ1 => (evTs ifs ρ1 s).bind fun t s2 => if t then (evR src2 ρ1 s2).bind fun zs s3 => if ks.length + zs.length ≤ big then dcompL (fun z s => match tgt tg2 z ρ1 with
            | some ρ2 => (evTs ifs2 ρ2 s).bind fun t s4 => if t then (evE kx ρ2 s4).bind fun k s5 => (evE vx ρ2 s5).bind fun v s6 => match K2.of k with
                | some k => .ok (some (k, v)) s6
                | none => .stuck
              else .ok none s4
            | none => .stuck) ks ds zs s3 else .stuck
        else .ok (ks, ds) s2
      | none => .stuck) [] [] xs s1).bind fun p s2 => newDict m p s2
  | .exn c es, ρ, s => (evEs es ρ s).bind fun ds s1 => .ok (.exc c ds) s1
  | .fld cs e, ρ, s => (evE e ρ s).bind fun x s1 => match x with
    | .exc c [d] => if cs.contains c then .ok d s1 else .stuck
    | _ => .stuck
  | .isE no yes e, ρ, s => (evE e ρ s).bind fun x s1 => match x with
    | .exc c _ => if yes.contains c then .ok (.bl true) s1 else if no.contains c then .ok (.bl false) s1 else .stuck
    | _ => .stuck
def evEs : Es → Env → Sto → Rs (List D)
  | .nil, _, s => .ok [] s
  | .cons e es, ρ, s => (evE e ρ s).bind fun d s1 => (evEs es ρ s1).bind fun ds s2 => .ok (d :: ds) s2
  | .star e es, ρ, s => (evE e ρ s).bind fun d s1 => match seqOf s1 d with
    | some xs => (evEs es ρ s1).bind fun ds s2 => .ok (xs ++ ds) s2
    | none => .stuck
def evO : Eo → Env → Sto → Rs (Option Int)
  | .none, _, s => .ok none s
  | .some e, ρ, s => (evE e ρ s).bind fun d s1 => match d with
    | .int i => .ok (some i) s1
    | _ => .stuck
/-- all tests of a comprehension -/
def evTs : Es → Env → Sto → Rs Bool
  | .nil, _, s => .ok true s
  | .cons e es, ρ, s => (tst (evE e ρ s)).bind fun t s1 => if t then evTs es ρ s1 else .ok false s1
  | .star _ _, _, _ => .stuck
/-- what a loop walks -/
def evR : Sr → Env → Sto → Rs (List D)
  | .it e, ρ, s => (evE e ρ s).bind fun d s1 => lift s1 (walkD d)
  | .zip a b, ρ, s => (evE a ρ s).bind fun x s1 => (evE b ρ s1).bind fun y s2 => match x, y with
    | .lst xs, .lst ys => .ok (zipD xs ys) s2
    | .tup xs, .tup ys => .ok (zipD xs ys) s2
    | _, _ => .stuck
  | .enum e, ρ, s => (evE e ρ s).bind fun d s1 => match d with
    | .lst ds => .ok (enumD 0 ds) s1
    | .tup ds => .ok (enumD 0 ds) s1
    | _ => .stuck
  | .rng e, ρ, s => (evE e ρ s).bind fun d s1 => match d with
    | .int i => if -1000000 ≤ i ∧ i ≤ 1000000 then .ok (rngD 0 i.toNat) s1 else .stuck
    | _ => .stuck
  | .rng2 a b, ρ, s => (evE a ρ s).bind fun x s1 => (evE b ρ s1).bind fun y s2 => match x, y with
    | .int i, .int j => if -1000000 ≤ i ∧ i ≤ 1000000 ∧ -1000000 ≤ j ∧ j ≤ 1000000 then .ok (rngD i (j - i).toNat) s2 else .stuck
    | _, _ => .stuck
  | .vals e, ρ, s => (evE e ρ s).bind fun d s1 => match d with
    | .dct _ ds => .ok ds s1
    | _ => .stuck
  | .keys e, ρ, s => (evE e ρ s).bind fun d s1 => match d with
    | .dct ks _ => if ks.all K2.small then .ok (ks.map K2.d) s1 else .stuck
    | _ => .stuck
end
def forL (tg : List Nat) (f : Env → Sto → Rs Fl) : List D → Env → Sto → Rs Fl
  | [], ρ, s => .ok (.nx ρ) s
  | x :: xs, ρ, s => match tgt tg x ρ with
    | none => .stuck
    | some ρ1 => (f ρ1 s).bind fun r s1 => match r with
      | .nx ρ2 => forL tg f xs ρ2 s1
      | .ct ρ2 => forL tg f xs ρ2 s1
      | .bk ρ2 => .ok (.nx ρ2) s1
      | .rt d => .ok (.rt d) s1
      | .xn c ds ρ2 => .ok (.xn c ds ρ2) s1
def whileL (t : Env → Sto → Rs Bool) (f : Env → Sto → Rs Fl) : Nat → Env → Sto → Rs Fl
  | 0, _, _ => .stuck
  | n + 1, ρ, s => (t ρ s).stm ρ fun b s1 => if b then (f ρ s1).bind fun r s2 => match r with
      | .nx ρ2 => whileL t f n ρ2 s2
      | .ct ρ2 => whileL t f n ρ2 s2
      | .bk ρ2 => .ok (.nx ρ2) s2
      | .rt d => .ok (.rt d) s2
      | .xn c ds ρ2 => .ok (.xn c ds ρ2) s2
    else .ok (.nx ρ) s1
def clrO : Option Nat → Env → Env
  | some i, ρ => ρ.set i none
  | none, ρ => ρ
def setO : Option Nat → D → Env → Env
  | some i, d, ρ => ρ.set i (some d)
  | none, _, ρ => ρ
mutual
def evS : S → Env → Sto → Rs Fl
  | .set i e, ρ, s => (evE C e ρ s).stm ρ fun d s1 => .ok (.nx (ρ.set i (some d))) s1
  | .unp tg e, ρ, s => (evE C e ρ s).stm ρ fun d s1 => match tgtT tg d ρ with
    | some ρ1 => .ok (.nx ρ1) s1
    | none => .stuck
  | .setix o i e, ρ, s => (evE C e ρ s).stm ρ fun v s1 => (evE C o ρ s1).stm ρ fun x s2 => (evE C i ρ s2).stm ρ fun k s3 => match setD s3 x k v with
    | some s4 => .ok (.nx ρ) s4
    | none => .stuck
  | .expr e, ρ, s => (evE C e ρ s).stm ρ fun _ s1 => .ok (.nx ρ) s1
  | .ifs c a b, ρ, s => (tst (evE C c ρ s)).stm ρ fun t s1 => if t then evSs a ρ s1 else evSs b ρ s1
  | .for_ tg src body, ρ, s => (evR C src ρ s).stm ρ fun xs s1 => forL tg (evSs body) xs ρ s1
  | .while_ c body, ρ, s => whileL (fun ρ s => tst (evE C c ρ s)) (evSs body) 1000 ρ s
  | .ret e, ρ, s => (evE C e ρ s).stm ρ fun d s1 => .ok (.rt d) s1
  | .retn, _, s => .ok (.rt .non) s
  | .pass, ρ, s => .ok (.nx ρ) s
  | .brk, ρ, s => .ok (.bk ρ) s
  | .cont, ρ, s => .ok (.ct ρ) s
  | .frz i, ρ, s => match ρ[i]? with
    | some (some (.ref n)) => match s[n]? with
      | some (.lst ds) => .ok (.nx (ρ.set i (some (.lst ds)))) (s.set n .dead)
      | some (.dct ks ds) => .ok (.nx (ρ.set i (some (.dct ks ds)))) (s.set n .dead)
      | _ => .stuck
    | _ => .stuck
  | .rse e, ρ, s => (evE C e ρ s).stm ρ fun d s1 => match d with
    | .exc c ds => .ok (.xn c ds ρ) s1
    | _ => .stuck
  | .try_ body hs, ρ, s => (evSs body ρ s).bind fun r s1 => match r with
    | .xn c ds ρ1 => evH hs c ds ρ1 s1
    | r => .ok r s1
def evSs : Ss → Env → Sto → Rs Fl
  | .nil, ρ, s => .ok (.nx ρ) s
  | .cons st ss, ρ, s => (evS st ρ s).bind fun r s1 => match r with
    | .nx ρ1 => evSs ss ρ1 s1
    | r => .ok r s1
/-- the except clauses -/
def evH : Hs → Nat → List D → Env → Sto → Rs Fl
  | .nil, c, ds, ρ, s => .ok (.xn c ds ρ) s
  | .cons no yes i suite r, c, ds, ρ, s => if yes.contains c then (evSs suite (setO i (.exc c ds) ρ) s).bind fun r s1 => match r with
      | .nx ρ1 => .ok (.nx (clrO i ρ1)) s1
      | .rt d => .ok (.rt d) s1
      | _ => .stuck
    else if no.contains c then evH r c ds ρ s else .stuck
end
end
/-- a def: how many parameters, how many names, its body -/
structure Fn where
  np : Nat
  nn : Nat
  body : Ss
/-- what is left of the store behind a call: what the call has made goes, if nothing leads there -/
def leave (n : Nat) (d : D) (s : Sto) : Rs D :=
  if s.length = n then .ok d s else if D.lowr n d && (s.take n).all (Ob.lowr n) then .ok d (s.take n) else .ok d s
/-- .. behind a call that lets an error out -/
def leaveX (n : Nat) (c : Nat) (ds : List D) (s : Sto) : Rs D :=
  if s.length = n then .ex c ds s else if D.lowrs n ds && (s.take n).all (Ob.lowr n) then .ex c ds (s.take n) else .ex c ds s
def callN (P : List Fn) : Nat → Nat → List D → Sto → Rs D
  | 0, _, _, _ => .stuck
  | k + 1, f, ds, s => match P[f]? with
    | none => .stuck
    | some fn => if ds.length = fn.np then (evSs (callN P k) fn.body (ds.map some ++ List.replicate (fn.nn - fn.np) none) s).bind fun r s1 => match r with
        | .rt d => leave s.length d s1
        | .nx _ => leave s.length .non s1
        | .xn c es _ => leaveX s.length c es s1
        | _ => .stuck
      else .stuck
/-- the two steps of an error's making in the text of Mi -/
def mkE (c n : Nat) : Fn := ⟨n, n, .cons (.ret (.exn c (if n = 0 then .nil else .cons (.var 0) .nil))) .nil⟩
def mkC (j n : Nat) : Fn := ⟨n, n, .cons (.ret (.call j (if n = 0 then .nil else .cons (.var 0) .nil))) .nil⟩
end Mi
end

section
set_option linter.all false
set_option maxRecDepth 100000
set_option autoImplicit false
/-! Mi: how values by value and the store stand in the abstract heap. -/
namespace Mi
open PySem L2
/-- the classes of errors: where each lies, which fields it stores -/
class Cls where
  ca : Nat → Addr
  fl : Nat → List PySem.Str
variable [Cls]
def tx (c : Cs) : PySem.Str := ⟨c.toArray⟩
def kOf : K2 → Key
  | .ki i => .inl i
  | .ks c => .inr (tx c)
/-- what may be changed -/
def Mt (F : Addr → Prop) (ms : List Addr) (st : Sto) (a : Addr) : Prop := F a ∨ ∃ (i : Nat) (o : Ob), ms[i]? = some a ∧ st[i]? = some o ∧ o ≠ Ob.dead
mutual
def Rp (H : Hp) (mt : Addr → Prop) (ms : List Addr) : D → V → Prop
  | .non, x => x = .non
  | .bl b, x => x = .bl b
  | .int i, x => x = .int i
  | .str c, x => x = .str (tx c) ∧ c.length ≤ sizeLine
  | .lst ds, x => ∃ a vs, x = .ref a ∧ ¬ mt a ∧ H a = some (.lst vs) ∧ ds.length ≤ sizeLine ∧ Rps H mt ms ds vs
  | .tup ds, x => ∃ a vs, x = .ref a ∧ ¬ mt a ∧ H a = some (.tup vs) ∧ ds.length ≤ sizeLine ∧ Rps H mt ms ds vs
  | .dct ks ds, x => ∃ a vs, x = .ref a ∧ ¬ mt a ∧ Rd H a (.dK ((ks.map kOf).zip vs)) ∧ ks.length = ds.length ∧ Rps H mt ms ds vs
  | .ref n, x => ∃ a, x = .ref a ∧ ms[n]? = some a
  | .exc c ds, x => ∃ a oa u vs, x = .ref a ∧ H a = some (.frz oa u) ∧ oa.cls = .ref (Cls.ca c) ∧ PySem.W.notCls oa = true ∧ (match oa.dict with
      | none => Cls.fl c = []
      | some dx => ∃ od, H dx = some (.frz od (exd dx ((Cls.fl c).zip vs)))) ∧ ds.length = (Cls.fl c).length ∧ Rps H mt ms ds vs
def Rps (H : Hp) (mt : Addr → Prop) (ms : List Addr) : List D → List V → Prop
  | [], vs => vs = []
  | d :: ds, vs => ∃ v r, vs = v :: r ∧ Rp H mt ms d v ∧ Rps H mt ms ds r
end
theorem Rps.length {H : Hp} {mt : Addr → Prop} {ms : List Addr} : ∀ {ds : List D} {vs : List V}, Rps H mt ms ds vs → ds.length = vs.length
  | [], _, h => by simp only [Rps] at h; subst h; rfl
  | d :: ds, _, h => by
    simp only [Rps] at h
    obtain ⟨v, r, rfl, _, h⟩ := h
    rw [List.length_cons, List.length_cons, Rps.length h]
theorem Rps.get {H : Hp} {mt : Addr → Prop} {ms : List Addr} : ∀ {ds : List D} {vs : List V} {i : Nat} {d : D}, Rps H mt ms ds vs → ds[i]? = some d → ∃ v, vs[i]? = some v ∧ Rp H mt ms d v
  | [], _, _, _, _, e => by simp at e
  | x :: ds, _, 0, d, h, e => by
    simp only [Rps] at h
    obtain ⟨v, r, rfl, h1, _⟩ := h
    simp at e; subst e
    exact ⟨v, rfl, h1⟩
  | x :: ds, _, i + 1, d, h, e => by
    simp only [Rps] at h
    obtain ⟨v, r, rfl, _, h⟩ := h
    simpa using Rps.get (i := i) h (by simpa using e)
theorem Rps.append {H : Hp} {mt : Addr → Prop} {ms : List Addr} : ∀ {ds es : List D} {vs us : List V}, Rps H mt ms ds vs → Rps H mt ms es us → Rps H mt ms (ds ++ es) (vs ++ us)
  | [], _, _, _, h, h2 => by simp only [Rps] at h; subst h; exact h2
  | d :: ds, es, _, _, h, h2 => by
    simp only [Rps] at h
    obtain ⟨v, r, rfl, h1, h⟩ := h
    show Rps H mt ms (d :: (ds ++ es)) (v :: (r ++ _))
    simp only [Rps]
    exact ⟨v, _, rfl, h1, Rps.append h h2⟩
theorem Rps.nil {H : Hp} {mt : Addr → Prop} {ms : List Addr} : Rps H mt ms [] [] := by simp only [Rps]
theorem Rps.cons {H : Hp} {mt : Addr → Prop} {ms : List Addr} {d : D} {v : V} {ds : List D} {vs : List V} (h : Rp H mt ms d v) (r : Rps H mt ms ds vs) : Rps H mt ms (d :: ds) (v :: vs) := by
  simp only [Rps]; exact ⟨v, vs, rfl, h, r⟩
theorem Rps.uncons {H : Hp} {mt : Addr → Prop} {ms : List Addr} {d : D} {ds : List D} {vs : List V} (h : Rps H mt ms (d :: ds) vs) : ∃ v r, vs = v :: r ∧ Rp H mt ms d v ∧ Rps H mt ms ds r := by
  simpa only [Rps] using h
theorem Rps.take {H : Hp} {mt : Addr → Prop} {ms : List Addr} : ∀ {ds : List D} {vs : List V} (n : Nat), Rps H mt ms ds vs → Rps H mt ms (ds.take n) (vs.take n)
  | _, _, 0, _ => by simpa using Rps.nil
  | [], _, n + 1, h => by simp only [Rps] at h; subst h; exact Rps.nil
  | d :: ds, _, n + 1, h => by
    obtain ⟨v, r, rfl, h1, h⟩ := h.uncons
    exact Rps.cons h1 (Rps.take n h)
theorem Rps.drop {H : Hp} {mt : Addr → Prop} {ms : List Addr} : ∀ {ds : List D} {vs : List V} (n : Nat), Rps H mt ms ds vs → Rps H mt ms (ds.drop n) (vs.drop n)
  | _, _, 0, h => by simpa using h
  | [], _, n + 1, h => by simp only [Rps] at h; subst h; exact Rps.nil
  | d :: ds, _, n + 1, h => by
    obtain ⟨v, r, rfl, h1, h⟩ := h.uncons
    exact Rps.drop n h
theorem Rps.set {H : Hp} {mt : Addr → Prop} {ms : List Addr} {x : D} {y : V} (hx : Rp H mt ms x y) : ∀ {ds : List D} {vs : List V} (n : Nat), Rps H mt ms ds vs → Rps H mt ms (ds.set n x) (vs.set n y)
  | [], _, n, h => by simp only [Rps] at h; subst h; exact Rps.nil
  | d :: ds, _, 0, h => by
    obtain ⟨v, r, rfl, h1, h⟩ := h.uncons
    exact Rps.cons hx h
  | d :: ds, _, n + 1, h => by
    obtain ⟨v, r, rfl, h1, h⟩ := h.uncons
    exact Rps.cons h1 (Rps.set hx n h)
theorem Rps.eraseIdx {H : Hp} {mt : Addr → Prop} {ms : List Addr} : ∀ {ds : List D} {vs : List V} (n : Nat), Rps H mt ms ds vs → Rps H mt ms (ds.eraseIdx n) (vs.eraseIdx n)
  | [], _, n, h => by simp only [Rps] at h; subst h; exact Rps.nil
  | d :: ds, _, 0, h => by
    obtain ⟨v, r, rfl, h1, h⟩ := h.uncons
    exact h
  | d :: ds, _, n + 1, h => by
    obtain ⟨v, r, rfl, h1, h⟩ := h.uncons
    exact Rps.cons h1 (Rps.eraseIdx n h)
theorem Rps.reverse {H : Hp} {mt : Addr → Prop} {ms : List Addr} : ∀ {ds : List D} {vs : List V}, Rps H mt ms ds vs → Rps H mt ms ds.reverse vs.reverse
  | [], _, h => by simp only [Rps] at h; subst h; exact Rps.nil
  | d :: ds, _, h => by
    obtain ⟨v, r, rfl, h1, h⟩ := h.uncons
    rw [List.reverse_cons, List.reverse_cons]
    exact Rps.append (Rps.reverse h) (Rps.cons h1 Rps.nil)
theorem Rps.rep {H : Hp} {mt : Addr → Prop} {ms : List Addr} {ds : List D} {vs : List V} (h : Rps H mt ms ds vs) : ∀ k : Nat, Rps H mt ms (List.replicate k ds).flatten (List.replicate k vs).flatten
  | 0 => by simpa using Rps.nil
  | k + 1 => by
    rw [List.replicate_succ, List.replicate_succ, List.flatten_cons, List.flatten_cons]
    exact Rps.append h (Rps.rep h k)
/-- what an object of the store is -/
def ObR (H : Hp) (mt : Addr → Prop) (ms : List Addr) : Ob → Addr → Prop
  | .lst ds, a => ∃ vs, H a = some (.lst vs) ∧ ds.length ≤ sizeLine ∧ Rps H mt ms ds vs
  | .dct ks ds, a => ∃ vs, H a = some (.dK ((ks.map kOf).zip vs)) ∧ ks.length = ds.length ∧ Rps H mt ms ds vs
  | .ro is, a => ∃ vs, Rd H a (.lst vs) ∧ (iD is).length ≤ sizeLine ∧ Rps H mt ms (iD is) vs
  | .dead, _ => True
structure Sm (F : Addr → Prop) (H : Hp) (ms : List Addr) (st : Sto) : Prop where
  nd : ms.Nodup
  len : ms.length = st.length
  at_ : ∀ (i : Nat) (a : Addr) (o : Ob), ms[i]? = some a → st[i]? = some o → ObR H (Mt F ms st) ms o a
  has : ∀ a, a ∈ ms → H a ≠ none
  fr : ∀ a, F a → H a ≠ none
  frn : ∀ a, F a → a ∉ ms
/-- what is by value stays; F: what others are making -/
structure Later (F : Addr → Prop) (H : Hp) (ms : List Addr) (st : Sto) (H' : Hp) (ms' : List Addr) (st' : Sto) : Prop where
  pre : ∀ (i : Nat) (a : Addr), ms[i]? = some a → ms'[i]? = some a
  nm : ∀ a, H a ≠ none → ¬ Mt F ms st a → ¬ Mt F ms' st' a
  lst : ∀ a vs, ¬ Mt F ms st a → H a = some (.lst vs) → H' a = some (.lst vs)
  tup : ∀ a vs, H a = some (.tup vs) → H' a = some (.tup vs)
  dK : ∀ a u, ¬ Mt F ms st a → Rd H a (.dK u) → Rd H' a (.dK u)
  ne : ∀ a, H a ≠ none → H' a ≠ none
  frz : ∀ a o u, H a = some (.frz o u) → H' a = some (.frz o u)
  own : ∀ a, F a → H' a = H a
theorem Later.refl {F : Addr → Prop} {H : Hp} {ms : List Addr} {st : Sto} : Later F H ms st H ms st := ⟨fun _ _ h => h, fun _ _ h => h, fun _ _ _ h => h, fun _ _ h => h, fun _ _ _ h => h, fun _ h => h, fun _ _ _ h => h, fun _ _ => rfl⟩
theorem Rd.ne {H : Hp} {a : Addr} {u : HO} (h : Rd H a u) : H a ≠ none := by
  rcases h with h | ⟨o, h⟩ <;> rw [h] <;> intro z <;> cases z
theorem some_ne {H : Hp} {a : Addr} {u : HO} (h : H a = some u) : H a ≠ none := by rw [h]; intro z; cases z
theorem Later.trans {F : Addr → Prop} {H H1 H2 : Hp} {ms ms1 ms2 : List Addr} {st st1 st2 : Sto} (a : Later F H ms st H1 ms1 st1) (b : Later F H1 ms1 st1 H2 ms2 st2) : Later F H ms st H2 ms2 st2 :=
  ⟨fun i x h => b.pre i x (a.pre i x h), fun x h n => b.nm x (a.ne x h) (a.nm x h n), fun x vs n h => b.lst x vs (a.nm x (some_ne h) n) (a.lst x vs n h), fun x vs h => b.tup x vs (a.tup x vs h),
    fun x u n h => b.dK x u (a.nm x (Rd.ne h) n) (a.dK x u n h), fun x h => b.ne x (a.ne x h), fun x o u h => b.frz x o u (a.frz x o u h), fun x h => (b.own x h).trans (a.own x h)⟩
mutual
theorem Rp.later {F : Addr → Prop} {H H' : Hp} {ms ms' : List Addr} {st st' : Sto} (l : Later F H ms st H' ms' st') : ∀ (d : D) (v : V), Rp H (Mt F ms st) ms d v → Rp H' (Mt F ms' st') ms' d v
  | .non, _, h => by simpa only [Rp] using h
  | .bl b, _, h => by simpa only [Rp] using h
  | .int i, _, h => by simpa only [Rp] using h
  | .str c, _, h => by simpa only [Rp] using h
  | .lst ds, _, h => by
    simp only [Rp] at h ⊢
    obtain ⟨a, vs, rfl, n, e, z, r⟩ := h
    exact ⟨a, vs, rfl, l.nm a (some_ne e) n, l.lst a vs n e, z, Rps.later l ds vs r⟩
  | .tup ds, _, h => by
    simp only [Rp] at h ⊢
    obtain ⟨a, vs, rfl, n, e, z, r⟩ := h
    exact ⟨a, vs, rfl, l.nm a (some_ne e) n, l.tup a vs e, z, Rps.later l ds vs r⟩
  | .dct ks ds, _, h => by
    simp only [Rp] at h ⊢
    obtain ⟨a, vs, rfl, n, e, z, r⟩ := h
    exact ⟨a, vs, rfl, l.nm a (Rd.ne e) n, l.dK a _ n e, z, Rps.later l ds vs r⟩
  | .ref n, _, h => by
    simp only [Rp] at h ⊢
    obtain ⟨a, rfl, e⟩ := h
    exact ⟨a, rfl, l.pre n a e⟩
  | .exc c ds, _, h => by
    simp only [Rp] at h ⊢
    obtain ⟨a, oa, u, vs, rfl, e, hc, hn, hd, z, r⟩ := h
    refine ⟨a, oa, u, vs, rfl, l.frz a oa u e, hc, hn, ?_, z, Rps.later l ds vs r⟩
    split at hd
    · exact hd
    · obtain ⟨od, q⟩ := hd
      exact ⟨od, l.frz _ _ _ q⟩
theorem Rps.later {F : Addr → Prop} {H H' : Hp} {ms ms' : List Addr} {st st' : Sto} (l : Later F H ms st H' ms' st') : ∀ (ds : List D) (vs : List V), Rps H (Mt F ms st) ms ds vs → Rps H' (Mt F ms' st') ms' ds vs
  | [], _, h => by simpa only [Rps] using h
  | d :: ds, _, h => by
    simp only [Rps] at h ⊢
    obtain ⟨v, r, rfl, h1, h2⟩ := h
    exact ⟨v, r, rfl, Rp.later l d v h1, Rps.later l ds r h2⟩
end
section
variable {F : Addr → Prop} {H : Hp} {ms : List Addr} {st : Sto}
theorem Sm.mt_some (s : Sm F H ms st) {a : Addr} (h : Mt F ms st a) : H a ≠ none := by
  rcases h with h | ⟨i, o, e, _⟩
  · exact s.fr a h
  · exact s.has a (List.mem_of_getElem? e)
/-- an object of the store at another heap -/
theorem ObR.later {H' : Hp} {ms' : List Addr} {st' : Sto} (l : Later F H ms st H' ms' st') {o : Ob} {a : Addr} (h : ObR H (Mt F ms st) ms o a) (k : H' a = H a) : ObR H' (Mt F ms' st') ms' o a := by
  cases o with
  | lst ds => obtain ⟨vs, e, z, r⟩ := h; exact ⟨vs, by rw [k]; exact e, z, Rps.later l _ _ r⟩
  | dct ks ds => obtain ⟨vs, e, z, r⟩ := h; exact ⟨vs, by rw [k]; exact e, z, Rps.later l _ _ r⟩
  | ro ds => obtain ⟨vs, e, z, r⟩ := h; exact ⟨vs, by unfold Rd; rw [k]; exact e, z, Rps.later l _ _ r⟩
  | dead => trivial
theorem ne_fresh {p a : Addr} (hp : H p = none) (h : H a ≠ none) : a ≠ p := fun e => h (by rw [e]; exact hp)
/-- a new object, by value -/
theorem later_new {p : Addr} {o : HO} (s : Sm F H ms st) (hp : H p = none) : Later F H ms st (upd H p o) ms st :=
  ⟨fun _ _ h => h, fun _ _ h => h, fun a vs _ h => by rw [upd_ne (ne_fresh hp (some_ne h))]; exact h, fun a vs h => by rw [upd_ne (ne_fresh hp (some_ne h))]; exact h,
    fun a u _ h => by unfold Rd; rw [upd_ne (ne_fresh hp (Rd.ne h))]; exact h, fun a h => by rw [upd_ne (ne_fresh hp h)]; exact h, fun a o u h => by rw [upd_ne (ne_fresh hp (some_ne h))]; exact h,
    fun a h => upd_ne (ne_fresh hp (s.fr a h))⟩
theorem Sm.new {p : Addr} {o : HO} (s : Sm F H ms st) (hp : H p = none) : Sm F (upd H p o) ms st :=
  ⟨s.nd, s.len, fun i a ob h1 h2 => (s.at_ i a ob h1 h2).later (later_new s hp) (upd_ne (ne_fresh hp (s.has a (List.mem_of_getElem? h1)))), fun a h => by rw [upd_ne (ne_fresh hp (s.has a h))]; exact s.has a h,
    fun a h => by rw [upd_ne (ne_fresh hp (s.fr a h))]; exact s.fr a h, s.frn⟩
theorem Sm.not_mt {p : Addr} (s : Sm F H ms st) (hp : H p = none) : ¬ Mt F ms st p := fun h => s.mt_some h hp
/-- a new object of the store -/
theorem mt_push {p a : Addr} {o : Ob} (s : Sm F H ms st) : Mt F (ms ++ [p]) (st ++ [o]) a → Mt F ms st a ∨ a = p := by
  rintro (h | ⟨i, ob, h1, h2, h3⟩)
  · exact .inl (.inl h)
  by_cases hi : i < ms.length
  · rw [List.getElem?_append_left hi] at h1
    rw [List.getElem?_append_left (by rw [← s.len]; exact hi)] at h2
    exact .inl (.inr ⟨i, ob, h1, h2, h3⟩)
  · rw [List.getElem?_append_right (by omega)] at h1
    by_cases hj : i - ms.length = 0
    · rw [hj] at h1; simp at h1; exact .inr h1.symm
    · rw [List.getElem?_eq_none (by simp; omega)] at h1; cases h1
theorem later_push {p : Addr} {u : HO} {o : Ob} (s : Sm F H ms st) (hp : H p = none) : Later F H ms st (upd H p u) (ms ++ [p]) (st ++ [o]) :=
  ⟨fun i a h => by rw [List.getElem?_append_left (List.getElem?_eq_some_iff.mp h).1]; exact h, fun a h n z => by
      rcases mt_push s z with z | z
      · exact n z
      · exact ne_fresh hp h z,
    fun a vs _ h => by rw [upd_ne (ne_fresh hp (some_ne h))]; exact h, fun a vs h => by rw [upd_ne (ne_fresh hp (some_ne h))]; exact h,
    fun a u _ h => by unfold Rd; rw [upd_ne (ne_fresh hp (Rd.ne h))]; exact h, fun a h => by rw [upd_ne (ne_fresh hp h)]; exact h, fun a o u h => by rw [upd_ne (ne_fresh hp (some_ne h))]; exact h,
    fun a h => upd_ne (ne_fresh hp (s.fr a h))⟩
theorem Sm.push {p : Addr} {u : HO} {o : Ob} (s : Sm F H ms st) (hp : H p = none) (h : ObR (upd H p u) (Mt F (ms ++ [p]) (st ++ [o])) (ms ++ [p]) o p) : Sm F (upd H p u) (ms ++ [p]) (st ++ [o]) := by
  have hn : p ∉ ms := fun z => s.has p z hp
  refine ⟨?_, by simp [s.len], fun i a ob h1 h2 => ?_, fun a h => ?_, fun a hf => by rw [upd_ne (ne_fresh hp (s.fr a hf))]; exact s.fr a hf, fun a hf z => ?_⟩
  · rw [List.nodup_append]
    exact ⟨s.nd, by simp, fun x hx y hy e => by simp at hy; subst hy; exact hn (e ▸ hx)⟩
  · by_cases hi : i < ms.length
    · rw [List.getElem?_append_left hi] at h1
      rw [List.getElem?_append_left (by rw [← s.len]; exact hi)] at h2
      exact (s.at_ i a ob h1 h2).later (later_push s hp) (upd_ne (ne_fresh hp (s.has a (List.mem_of_getElem? h1))))
    · rw [List.getElem?_append_right (by omega)] at h1
      rw [List.getElem?_append_right (by rw [← s.len]; omega)] at h2
      by_cases hj : i - ms.length = 0
      · rw [hj] at h1
        rw [← s.len, hj] at h2
        simp at h1 h2
        subst h1; subst h2
        exact h
      · rw [List.getElem?_eq_none (by simp; omega)] at h1; cases h1
  · rcases List.mem_append.mp h with h | h
    · rw [upd_ne (ne_fresh hp (s.has a h))]; exact s.has a h
    · simp at h; subst h; rw [upd_same]; intro z; cases z
  · rcases List.mem_append.mp z with z | z
    · exact s.frn a hf z
    · simp at z; exact s.fr p (z ▸ hf) hp
theorem nodup_at {l : List Addr} (h : l.Nodup) {i j : Nat} {a : Addr} (h1 : l[i]? = some a) (h2 : l[j]? = some a) : i = j := by
  obtain ⟨i1, e1⟩ := List.getElem?_eq_some_iff.mp h1
  obtain ⟨j1, e2⟩ := List.getElem?_eq_some_iff.mp h2
  exact (List.getElem_inj h).mp (e1.trans e2.symm)
/-- an object of the store is changed -/
theorem mt_set {n : Nat} {b : Addr} {o : Ob} (ho : st[n]? ≠ some .dead) : Mt F ms (st.set n o) b → Mt F ms st b := by
  rintro (h | ⟨i, ob, h1, h2, h3⟩)
  · exact .inl h
  by_cases hi : n = i
  · subst hi
    by_cases hl : n < st.length
    · refine .inr ⟨n, st[n], h1, List.getElem?_eq_getElem hl, fun z => ho ?_⟩
      rw [List.getElem?_eq_getElem hl, z]
    · rw [List.getElem?_eq_none (by simpa using hl)] at h2; cases h2
  · rw [List.getElem?_set_ne hi] at h2
    exact .inr ⟨i, ob, h1, h2, h3⟩
theorem not_dead {n : Nat} {o : Ob} (ho : st[n]? = some o) (hd : o ≠ .dead) : st[n]? ≠ some .dead := by rw [ho]; intro z; cases z; exact hd rfl
theorem later_set {n : Nat} {a : Addr} {o o' : Ob} {u : HO} (s : Sm F H ms st) (ha : ms[n]? = some a) (ho : st[n]? = some o) (hd : o ≠ .dead) (nt : ∀ vs, H a ≠ some (.tup vs)) (nf : ∀ x y, H a ≠ some (.frz x y)) : Later F H ms st (upd H a u) ms (st.set n o') := by
  have hm : Mt F ms st a := .inr ⟨n, o, ha, ho, hd⟩
  have ne : ∀ b, ¬ Mt F ms st b → b ≠ a := fun b h e => h (e ▸ hm)
  refine ⟨fun _ _ h => h, fun b _ h z => h (mt_set (not_dead ho hd) z), fun b vs h e => by rw [upd_ne (ne b h)]; exact e, fun b vs e => ?_, fun b w h e => by unfold Rd; rw [upd_ne (ne b h)]; exact e, fun b h => ?_, fun b x y e => ?_, fun b h => ?_⟩
  · rw [upd_ne (fun z => by subst z; exact nt vs e)]; exact e
  · by_cases z : b = a
    · subst z; rw [upd_same]; intro z; cases z
    · rw [upd_ne z]; exact h
  · rw [upd_ne (fun z => by subst z; exact nf x y e)]; exact e
  · exact upd_ne fun z => s.frn b h (z ▸ List.mem_of_getElem? ha)
theorem Sm.set {n : Nat} {a : Addr} {o o' : Ob} {u : HO} (s : Sm F H ms st) (ha : ms[n]? = some a) (ho : st[n]? = some o) (hd : o ≠ .dead) (nt : ∀ vs, H a ≠ some (.tup vs)) (nf : ∀ x y, H a ≠ some (.frz x y))
    (h : ObR (upd H a u) (Mt F ms (st.set n o')) ms o' a) : Sm F (upd H a u) ms (st.set n o') := by
  have l := later_set (o' := o') (u := u) s ha ho hd nt nf
  refine ⟨s.nd, by simp [s.len], fun i b ob h1 h2 => ?_, fun b hb => l.ne b (s.has b hb), fun b hb => l.ne b (s.fr b hb), s.frn⟩
  by_cases hi : n = i
  · subst hi
    rw [ha] at h1; cases h1
    rw [List.getElem?_set_self (List.getElem?_eq_some_iff.mp ho).1] at h2
    cases h2
    exact h
  · rw [List.getElem?_set_ne hi] at h2
    exact (s.at_ i b ob h1 h2).later l (upd_ne fun z => hi (nodup_at s.nd ha (z ▸ h1)))
/-- an object of the store becomes a value -/
theorem later_dead {n : Nat} {o : Ob} (ho : st[n]? = some o) (hd : o ≠ .dead) : Later F H ms st H ms (st.set n .dead) :=
  ⟨fun _ _ h => h, fun b _ h z => h (mt_set (not_dead ho hd) z), fun _ _ _ h => h, fun _ _ h => h, fun _ _ _ h => h, fun _ h => h, fun _ _ _ h => h, fun _ _ => rfl⟩
theorem Sm.dead {n : Nat} {o : Ob} (s : Sm F H ms st) (ho : st[n]? = some o) (hd : o ≠ .dead) : Sm F H ms (st.set n .dead) := by
  refine ⟨s.nd, by simp [s.len], fun i b ob h1 h2 => ?_, s.has, s.fr, s.frn⟩
  by_cases hi : n = i
  · subst hi
    rw [List.getElem?_set_self (List.getElem?_eq_some_iff.mp ho).1] at h2
    cases h2
    trivial
  · rw [List.getElem?_set_ne hi] at h2
    exact (s.at_ i b ob h1 h2).later (later_dead ho hd) rfl
theorem Sm.not_mt_dead {n : Nat} {a : Addr} (s : Sm F H ms st) (ha : ms[n]? = some a) (hn : n < st.length) : ¬ Mt F ms (st.set n .dead) a := by
  rintro (h | ⟨i, ob, h1, h2, h3⟩)
  · exact s.frn a h (List.mem_of_getElem? ha)
  have e := nodup_at s.nd ha h1
  subst e
  rw [List.getElem?_set_self hn] at h2
  cases h2
  exact h3 rfl
end
/-! ### what a comprehension is making -/
def FA (F : Addr → Prop) (D : Addr) : Addr → Prop := fun a => F a ∨ a = D
section
variable {F : Addr → Prop} {H : Hp} {ms : List Addr} {st : Sto} {D : Addr}
theorem mt_fa {a : Addr} : Mt (FA F D) ms st a ↔ Mt F ms st a ∨ a = D := by
  unfold Mt FA
  constructor
  · rintro ((h | h) | h)
    · exact .inl (.inl h)
    · exact .inr h
    · exact .inl (.inr h)
  · rintro ((h | h) | h)
    · exact .inl (.inl h)
    · exact .inr h
    · exact .inl (.inr h)
end
/-! ### a call's own objects go -/
mutual
theorem Rp.low {H : Hp} {mt mt' : Addr → Prop} {ms : List Addr} {n : Nat} (hm : ∀ a, mt' a → mt a) : ∀ (d : D) (v : V), Rp H mt ms d v → D.lowr n d = true → Rp H mt' (ms.take n) d v
  | .non, _, h, _ => by simpa only [Rp] using h
  | .bl b, _, h, _ => by simpa only [Rp] using h
  | .int i, _, h, _ => by simpa only [Rp] using h
  | .str c, _, h, _ => by simpa only [Rp] using h
  | .lst ds, _, h, l => by
    simp only [Rp] at h ⊢
    obtain ⟨a, vs, rfl, n, e, z, r⟩ := h
    exact ⟨a, vs, rfl, fun z => n (hm a z), e, z, Rps.low hm ds vs r (by simpa only [D.lowr] using l)⟩
  | .tup ds, _, h, l => by
    simp only [Rp] at h ⊢
    obtain ⟨a, vs, rfl, n, e, z, r⟩ := h
    exact ⟨a, vs, rfl, fun z => n (hm a z), e, z, Rps.low hm ds vs r (by simpa only [D.lowr] using l)⟩
  | .dct ks ds, _, h, l => by
    simp only [Rp] at h ⊢
    obtain ⟨a, vs, rfl, n, e, z, r⟩ := h
    exact ⟨a, vs, rfl, fun z => n (hm a z), e, z, Rps.low hm ds vs r (by simpa only [D.lowr] using l)⟩
  | .ref k, _, h, l => by
    simp only [Rp] at h ⊢
    obtain ⟨a, rfl, e⟩ := h
    have hk : k < n := by simpa only [D.lowr, Nat.blt_eq] using l
    exact ⟨a, rfl, by rw [List.getElem?_take_of_lt hk]; exact e⟩
  | .exc c ds, _, h, lw => by
    simp only [Rp] at h ⊢
    obtain ⟨a, oa, u, vs, rfl, e, hc, hn, hd, z, r⟩ := h
    exact ⟨a, oa, u, vs, rfl, e, hc, hn, hd, z, Rps.low hm ds vs r (by simpa only [D.lowr] using lw)⟩
theorem Rps.low {H : Hp} {mt mt' : Addr → Prop} {ms : List Addr} {n : Nat} (hm : ∀ a, mt' a → mt a) : ∀ (ds : List D) (vs : List V), Rps H mt ms ds vs → D.lowrs n ds = true → Rps H mt' (ms.take n) ds vs
  | [], _, h, _ => by simpa only [Rps] using h
  | d :: ds, _, h, l => by
    simp only [Rps] at h ⊢
    obtain ⟨v, r, rfl, h1, h2⟩ := h
    simp only [D.lowrs, Bool.and_eq_true] at l
    exact ⟨v, r, rfl, Rp.low hm d v h1 l.1, Rps.low hm ds r h2 l.2⟩
end
theorem lowrs_iD {n : Nat} : ∀ is : List Int, D.lowrs n (iD is) = true
  | [] => by simp [iD, D.lowrs]
  | i :: is => by
    have q := lowrs_iD (n := n) is
    simp only [iD, List.map_cons, D.lowrs, D.lowr, Bool.true_and] at q ⊢
    exact q
theorem ObR.low {H : Hp} {mt mt' : Addr → Prop} {ms : List Addr} {n : Nat} (hm : ∀ a, mt' a → mt a) {o : Ob} {a : Addr} (h : ObR H mt ms o a) (l : Ob.lowr n o = true) : ObR H mt' (ms.take n) o a := by
  cases o with
  | lst ds => obtain ⟨vs, e, z, r⟩ := h; exact ⟨vs, e, z, Rps.low hm _ _ r l⟩
  | dct ks ds => obtain ⟨vs, e, z, r⟩ := h; exact ⟨vs, e, z, Rps.low hm _ _ r l⟩
  | ro is => obtain ⟨vs, e, z, r⟩ := h; exact ⟨vs, e, z, Rps.low hm _ _ r (lowrs_iD is)⟩
  | dead => trivial
theorem mt_take {F : Addr → Prop} {ms : List Addr} {st : Sto} {n : Nat} {a : Addr} : Mt F (ms.take n) (st.take n) a → Mt F ms st a := by
  rintro (h | ⟨i, ob, h1, h2, h3⟩)
  · exact .inl h
  have hi : i < n := by
    have := (List.getElem?_eq_some_iff.mp h1).1
    rw [List.length_take] at this; omega
  rw [List.getElem?_take_of_lt hi] at h1 h2
  exact .inr ⟨i, ob, h1, h2, h3⟩
theorem Sm.low {F : Addr → Prop} {H : Hp} {ms : List Addr} {st : Sto} (s : Sm F H ms st) {n : Nat} (l : (st.take n).all (Ob.lowr n) = true) : Sm F H (ms.take n) (st.take n) := by
  refine ⟨s.nd.sublist (List.take_sublist ..), by rw [List.length_take, List.length_take, s.len], fun i a o h1 h2 => ?_, fun a h => s.has a (List.mem_of_mem_take h), s.fr, fun a h z => s.frn a h (List.mem_of_mem_take z)⟩
  have hi : i < n := by
    have := (List.getElem?_eq_some_iff.mp h1).1
    rw [List.length_take] at this; omega
  have hl : Ob.lowr n o = true := List.all_eq_true.mp l o (List.mem_of_getElem? h2)
  rw [List.getElem?_take_of_lt hi] at h1 h2
  exact (s.at_ i a o h1 h2).low (fun _ => mt_take) hl
theorem Later.low {F : Addr → Prop} {H H' : Hp} {ms ms' : List Addr} {st st' : Sto} (s : Sm F H ms st) (l : Later F H ms st H' ms' st') : Later F H ms st H' (ms'.take st.length) (st'.take st.length) :=
  ⟨fun i a h => by
      have hi := (List.getElem?_eq_some_iff.mp h).1
      rw [List.getElem?_take_of_lt (by rw [← s.len]; exact hi)]
      exact l.pre i a h, fun a h n z => l.nm a h n (mt_take z), l.lst, l.tup, l.dK, l.ne, l.frz, l.own⟩
/-! ### what a run promises -/
/-- how an exception lies -/
abbrev XRel := Hp → (Addr → Prop) → List Addr → Nat → List D → Value → Option Addr → Prop
def Pst {α β : Type} (XR : XRel) (F : Addr → Prop) (Rel : Hp → (Addr → Prop) → List Addr → α → β → Prop) (r : Rs α) (H : Hp) (ms : List Addr) (st : Sto) (Q : β → Hp → Prop) (E : XK) : Prop :=
  match r with
  | .stuck => False
  | .ok a st' => ∀ b H' ms', Later F H ms st H' ms' st' → Sm F H' ms' st' → Rel H' (Mt F ms' st') ms' a b → Q b H'
  | .ex c ds st' => ∀ cls oe H' ms', Later F H ms st H' ms' st' → Sm F H' ms' st' → XR H' (Mt F ms' st') ms' c ds cls oe → E cls oe H'
section
variable {α β γ δ : Type} {XR : XRel} {F : Addr → Prop} {Rel : Hp → (Addr → Prop) → List Addr → α → β → Prop} {Rel2 : Hp → (Addr → Prop) → List Addr → γ → δ → Prop} {H : Hp} {ms : List Addr} {st : Sto} {Q : β → Hp → Prop} {E : XK}
theorem Pst.later {r : Rs α} {H' : Hp} {ms' : List Addr} {st' : Sto} (h : Pst XR F Rel r H ms st Q E) (l : Later F H ms st H' ms' st') : Pst XR F Rel r H' ms' st' Q E := by
  cases r with
  | stuck => exact h
  | ok a s => exact fun b H2 ms2 l2 s2 r2 => h b H2 ms2 (l.trans l2) s2 r2
  | ex c ds s => exact fun cls oe H2 ms2 l2 s2 r2 => h cls oe H2 ms2 (l.trans l2) s2 r2
theorem Pst.bind {r : Rs γ} {f : γ → Sto → Rs α} {Q' : δ → Hp → Prop} (h : Pst XR F Rel (r.bind f) H ms st Q E)
    (k : ∀ a s1 v H1 ms1, r = .ok a s1 → Later F H ms st H1 ms1 s1 → Sm F H1 ms1 s1 → Rel2 H1 (Mt F ms1 s1) ms1 a v → Pst XR F Rel (f a s1) H1 ms1 s1 Q E → Q' v H1) : Pst XR F Rel2 r H ms st Q' E := by
  cases r with
  | stuck => exact h
  | ok a s => exact fun b H1 ms1 l1 s1 r1 => k a s b H1 ms1 rfl l1 s1 r1 (Pst.later (r := f a s) h l1)
  | ex c ds s => exact h
theorem Pst.ok {a : α} {b : β} (h : Pst XR F Rel (.ok a st) H ms st Q E) (s : Sm F H ms st) (r : Rel H (Mt F ms st) ms a b) : Q b H := h b H ms Later.refl s r
theorem Pst.mono {r : Rs α} {Q' : β → Hp → Prop} (h : Pst XR F Rel r H ms st Q E) (k : ∀ b H', Q b H' → Q' b H') : Pst XR F Rel r H ms st Q' E := by
  cases r with
  | stuck => exact h
  | ok a s => exact fun b H' ms' l s r => k _ _ (h b H' ms' l s r)
  | ex c ds s => exact h
end
/-- the names -/
def EnvR (H : Hp) (mt : Addr → Prop) (ms : List Addr) (ρ : Env) (σ : L2.St) : Prop := ρ.length = σ.length ∧ ∀ (i : Nat) (d : D), ρ[i]? = some (some d) → ∃ v, σ[i]? = some (some v) ∧ Rp H mt ms d v
theorem EnvR.later {F : Addr → Prop} {H H' : Hp} {ms ms' : List Addr} {st st' : Sto} {ρ : Env} {σ : L2.St} (h : EnvR H (Mt F ms st) ms ρ σ) (l : Later F H ms st H' ms' st') : EnvR H' (Mt F ms' st') ms' ρ σ :=
  ⟨h.1, fun i d e => by obtain ⟨v, e1, r⟩ := h.2 i d e; exact ⟨v, e1, Rp.later l d v r⟩⟩
theorem EnvR.set {H : Hp} {mt : Addr → Prop} {ms : List Addr} {ρ : Env} {σ : L2.St} {i : Nat} {d : D} {v : V} (h : EnvR H mt ms ρ σ) (r : Rp H mt ms d v) : EnvR H mt ms (ρ.set i (some d)) (σ.set i (some v)) := by
  refine ⟨by simp [h.1], fun j x e => ?_⟩
  by_cases hj : i = j
  · subst hj
    by_cases hl : i < ρ.length
    · rw [List.getElem?_set_self hl] at e
      cases e
      exact ⟨v, by rw [List.getElem?_set_self (by rw [← h.1]; exact hl)], r⟩
    · rw [List.getElem?_eq_none (by simpa using hl)] at e; cases e
  · rw [List.getElem?_set_ne hj] at e ⊢
    exact h.2 j x e
/-- a wish of an expression's exceptions: its names stay -/
abbrev wx (W : WX) (σ : L2.St) : XK := fun c d H => W c d σ H
/-- readings -/
def tE (XR : XRel) (C : Nat → List D → Sto → Rs D) (X : WX) (e : E) : TE := fun σ H Q => ∃ F ρ ms st, Sm F H ms st ∧ EnvR H (Mt F ms st) ms ρ σ ∧ Pst XR F Rp (evE C e ρ st) H ms st Q (wx X σ)
def tA (XR : XRel) (C : Nat → List D → Sto → Rs D) (X : WX) (es : Es) : TA := fun σ H Q => ∃ F ρ ms st, Sm F H ms st ∧ EnvR H (Mt F ms st) ms ρ σ ∧ Pst XR F Rps (evEs C es ρ st) H ms st Q (wx X σ)
def bRel : Hp → (Addr → Prop) → List Addr → Bool → Bool → Prop := fun _ _ _ a b => a = b
def tT (XR : XRel) (C : Nat → List D → Sto → Rs D) (X : WX) (e : E) : TT := fun σ H Q => ∃ F ρ ms st, Sm F H ms st ∧ EnvR H (Mt F ms st) ms ρ σ ∧ Pst XR F bRel (tst (evE C e ρ st)) H ms st Q (wx X σ)
end Mi
end

section
set_option linter.all false
set_option maxRecDepth 100000
set_option autoImplicit false
/-! Mi: data: ==, <, sorted. -/
namespace Mi
open PySem L2
mutual
def toP : D → PyData
  | .non => .none
  | .bl b => .bool b
  | .int i => .int i
  | .str c => .str (tx c)
  | .lst ds => .list (toPs ds)
  | .tup ds => .tuple (toPs ds)
  | .dct _ _ => .none
  | .ref _ => .none
  | .exc _ _ => .none
def toPs : List D → List PyData
  | [] => []
  | d :: ds => toP d :: toPs ds
end
theorem toPs_map : ∀ ds : List D, toPs ds = ds.map toP
  | [] => rfl
  | d :: ds => by rw [toPs, toPs_map ds]; rfl
theorem tx_inj {a b : Cs} : tx a = tx b ↔ a = b := by
  unfold tx
  constructor
  · intro h
    have e := congrArg (fun x : PySem.Str => x.cps.toList) h
    simpa using e
  · intro h; rw [h]
theorem tx_beq (a b : Cs) : (tx a == tx b) = (a == b) := by
  by_cases h : a = b
  · subst h; simp
  · rw [beq_eq_false_iff_ne.mpr h, beq_eq_false_iff_ne.mpr (fun z => h (tx_inj.mp z))]
mutual
theorem eqv_toP : ∀ (n m : Nat) (d e : D), D.pl n d = true → D.pl m e = true → PyData.eqv (toP d) (toP e) = D.eqv d e
  | n, m, .non, e, _, he => by cases e <;> first | (exfalso; simp [D.pl] at he; done) | rfl | simp [toP, PyData.eqv, D.eqv]
  | n, m, .bl b, e, _, he => by cases e <;> first | (exfalso; simp [D.pl] at he; done) | rfl | simp [toP, PyData.eqv, D.eqv]
  | n, m, .int i, e, _, he => by cases e <;> first | (exfalso; simp [D.pl] at he; done) | rfl | simp [toP, PyData.eqv, D.eqv]
  | n, m, .str c, e, _, he => by
    cases e <;> first | (exfalso; simp [D.pl] at he; done) | rfl | (simp only [toP, PyData.eqv, D.eqv]; exact tx_beq _ _) | simp [toP, PyData.eqv, D.eqv]
  | 0, m, .lst ds, e, h, _ => by simp [D.pl] at h
  | n + 1, m, .lst ds, e, h, he => by
    cases e with
    | lst es =>
      cases m with
      | zero => simp [D.pl] at he
      | succ m =>
        simp only [toP, PyData.eqv, D.eqv]
        exact eqvs_toPs n m ds es (by simpa only [D.pl] using h) (by simpa only [D.pl] using he)
    | dct _ _ => simp [D.pl] at he
    | ref _ => simp [D.pl] at he
    | exc _ _ => simp [D.pl] at he
    | _ => simp [toP, PyData.eqv, D.eqv]
  | 0, m, .tup ds, e, h, _ => by simp [D.pl] at h
  | n + 1, m, .tup ds, e, h, he => by
    cases e with
    | tup es =>
      cases m with
      | zero => simp [D.pl] at he
      | succ m =>
        simp only [toP, PyData.eqv, D.eqv]
        exact eqvs_toPs n m ds es (by simpa only [D.pl] using h) (by simpa only [D.pl] using he)
    | dct _ _ => simp [D.pl] at he
    | ref _ => simp [D.pl] at he
    | exc _ _ => simp [D.pl] at he
    | _ => simp [toP, PyData.eqv, D.eqv]
  | n, m, .dct _ _, e, h, _ => by simp [D.pl] at h
  | n, m, .ref _, e, h, _ => by simp [D.pl] at h
  | n, m, .exc _ _, e, h, _ => by simp [D.pl] at h
theorem eqvs_toPs : ∀ (n m : Nat) (ds es : List D), D.pls n ds = true → D.pls m es = true → PyData.eqvAll (toPs ds) (toPs es) = D.eqvs ds es
  | n, m, [], [], _, _ => by simp [toPs, PyData.eqvAll, D.eqvs]
  | n, m, [], e :: es, _, _ => by simp [toPs, PyData.eqvAll, D.eqvs]
  | n, m, d :: ds, [], _, _ => by simp [toPs, PyData.eqvAll, D.eqvs]
  | n, m, d :: ds, e :: es, h, he => by
    simp only [D.pls, Bool.and_eq_true] at h he
    simp only [toPs, PyData.eqvAll, D.eqvs]
    rw [eqv_toP n m d e h.1 he.1, eqvs_toPs n m ds es h.2 he.2]
end
theorem strOk_tx {c : Cs} (h : (c.all fun x => Nat.blt x 1114112) = true) : PyData.strOk (tx c) = true := by
  unfold PyData.strOk tx
  rw [← Array.all_toList]
  simpa [List.all_eq_true, Nat.blt_eq] using h
mutual
theorem lay_toP : ∀ (n : Nat) (d : D), D.pl n d = true → (toP d).canLay0 = true ∧ (toP d).depth ≤ n
  | n, .non, _ => by simp [toP, PyData.canLay0, PyData.depth]
  | n, .bl b, _ => by simp [toP, PyData.canLay0, PyData.depth]
  | n, .int i, _ => by simp [toP, PyData.canLay0, PyData.depth]
  | n, .str c, h => by simp only [D.pl] at h; simp [toP, PyData.canLay0, PyData.depth, strOk_tx h]
  | 0, .lst ds, h => by simp [D.pl] at h
  | n + 1, .lst ds, h => by
    obtain ⟨a, b⟩ := lays_toPs n ds (by simpa only [D.pl] using h)
    simp only [toP, PyData.canLay0, PyData.depth]
    exact ⟨a, Nat.succ_le_succ b⟩
  | 0, .tup ds, h => by simp [D.pl] at h
  | n + 1, .tup ds, h => by
    obtain ⟨a, b⟩ := lays_toPs n ds (by simpa only [D.pl] using h)
    simp only [toP, PyData.canLay0, PyData.depth]
    exact ⟨a, Nat.succ_le_succ b⟩
  | n, .dct _ _, h => by simp [D.pl] at h
  | n, .ref _, h => by simp [D.pl] at h
  | n, .exc _ _, h => by simp [D.pl] at h
theorem lays_toPs : ∀ (n : Nat) (ds : List D), D.pls n ds = true → PyData.canLayAll0 (toPs ds) = true ∧ PyData.depthAll (toPs ds) ≤ n
  | n, [], _ => by simp [toPs, PyData.canLayAll0, PyData.depthAll]
  | n, d :: ds, h => by
    simp only [D.pls, Bool.and_eq_true] at h
    obtain ⟨a, b⟩ := lay_toP n d h.1
    obtain ⟨a', b'⟩ := lays_toPs n ds h.2
    simp only [toPs, PyData.canLayAll0, PyData.depthAll]
    exact ⟨by rw [a, a']; rfl, Nat.max_le.mpr ⟨b, b'⟩⟩
end
theorem shaped_toP {d : D} (h : D.pl 60 d = true) : SeqAt.shaped (toP d) = true := by
  obtain ⟨a, b⟩ := lay_toP 60 d h
  unfold SeqAt.shaped
  rw [a, Bool.true_and]
  exact decide_eq_true (Nat.le_trans b (by decide))
variable [Cls]
mutual
theorem Rp.dp {K : PySem.W.Frag} {H : Hp} {mt : Addr → Prop} {ms : List Addr} : ∀ (n : Nat) (d : D) (v : V), Rp H mt ms d v → D.pl n d = true → Dp K H v (toP d)
  | n, .non, _, h, _ => by simp only [Rp] at h; subst h; exact .non
  | n, .bl b, _, h, _ => by simp only [Rp] at h; subst h; exact .bl b
  | n, .int i, _, h, _ => by simp only [Rp] at h; subst h; exact .int i
  | n, .str c, _, h, _ => by simp only [Rp] at h; rw [h.1]; exact .str _
  | 0, .lst ds, _, _, h => by simp [D.pl] at h
  | n + 1, .lst ds, _, h, p => by
    simp only [Rp] at h
    obtain ⟨a, vs, rfl, _, e, _, r⟩ := h
    exact .lst (.inl (.inl e)) (Rps.dp n ds vs r (by simpa only [D.pl] using p))
  | 0, .tup ds, _, _, h => by simp [D.pl] at h
  | n + 1, .tup ds, _, h, p => by
    simp only [Rp] at h
    obtain ⟨a, vs, rfl, _, e, _, r⟩ := h
    exact .tup (.inl (.inl e)) (Rps.dp n ds vs r (by simpa only [D.pl] using p))
  | n, .dct _ _, _, _, h => by simp [D.pl] at h
  | n, .ref _, _, _, h => by simp [D.pl] at h
  | n, .exc _ _, _, _, h => by simp [D.pl] at h
theorem Rps.dp {K : PySem.W.Frag} {H : Hp} {mt : Addr → Prop} {ms : List Addr} : ∀ (n : Nat) (ds : List D) (vs : List V), Rps H mt ms ds vs → D.pls n ds = true → DpAll K H vs (toPs ds)
  | n, [], _, h, _ => by simp only [Rps] at h; subst h; exact .nil
  | n, d :: ds, _, h, p => by
    simp only [Rps] at h
    obtain ⟨v, r, rfl, h1, h2⟩ := h
    simp only [D.pls, Bool.and_eq_true] at p
    exact .cons (Rp.dp n d v h1 p.1) (Rps.dp n ds r h2 p.2)
end
theorem pls_all : ∀ (n : Nat) (ds : List D), D.pls n ds = ds.all (D.pl n)
  | _, [] => rfl
  | n, d :: ds => by rw [D.pls, pls_all n ds]; rfl
theorem any_toPs {x : D} (hx : D.pl 60 x = true) : ∀ (ds : List D), ds.all (D.pl 60) = true → (toPs ds).any (fun z => PyData.eqv z (toP x)) = ds.any fun z => D.eqv z x
  | [], _ => rfl
  | d :: ds, h => by
    simp only [List.all_cons, Bool.and_eq_true] at h
    rw [toPs, List.any_cons, List.any_cons, any_toPs hx ds h.2, eqv_toP 60 60 d x h.1 hx]
end Mi
end

section
set_option linter.all false
set_option maxRecDepth 100000
set_option autoImplicit false
/-! Mi: the operators. -/
namespace Mi
open PySem L2
variable [Cls]
theorem big_eq : big = sizeLine := by rw [sizeLine_eq]; rfl
theorem ixN_eq (n : Nat) (i : Int) : ixN n i = L2.ixN n i := rfl
theorem sIx_eq : sIx = HT.sIx := by funext n d o; cases o <;> rfl
theorem cut_eq (xs : List V) (lo hi : Option Int) : cut xs lo hi = cutV xs lo hi := by
  unfold cut cutV; rw [sIx_eq]
section
variable {X : Cx} {XR : XRel} {F : Addr → Prop} {H : Hp} {ms : List Addr} {st : Sto} {Q : VK} {E : XK}
/-- a new value -/
theorem Pst.newV {ds : List D} {vs : List V} {o : HO} {d : D} {p : Addr} (h : Pst XR F Rp (.ok d st) H ms st Q E) (s : Sm F H ms st) (hp : H p = none) (r : Rp (upd H p o) (Mt F ms st) ms d (.ref p)) : Q (.ref p) (upd H p o) :=
  h _ _ ms (later_new s hp) (s.new hp) r
theorem rp_newL {ds : List D} {vs : List V} {p : Addr} (s : Sm F H ms st) (hp : H p = none) (r : Rps H (Mt F ms st) ms ds vs) (hz : ds.length ≤ sizeLine) : Rp (upd H p (.lst vs)) (Mt F ms st) ms (.lst ds) (.ref p) := by
  simp only [Rp]
  exact ⟨p, vs, rfl, s.not_mt hp, upd_same, hz, Rps.later (later_new s hp) _ _ r⟩
theorem rp_newT {ds : List D} {vs : List V} {p : Addr} (s : Sm F H ms st) (hp : H p = none) (r : Rps H (Mt F ms st) ms ds vs) (hz : ds.length ≤ sizeLine) : Rp (upd H p (.tup vs)) (Mt F ms st) ms (.tup ds) (.ref p) := by
  simp only [Rp]
  exact ⟨p, vs, rfl, s.not_mt hp, upd_same, hz, Rps.later (later_new s hp) _ _ r⟩
/-- a new list, by value or in the store -/
theorem newList_ok {m : Bool} {ds : List D} {vs : List V} (h : Pst XR F Rp (newList m ds st) H ms st Q E) (s : Sm F H ms st) (r : Rps H (Mt F ms st) ms ds vs) : vs.length ≤ sizeLine ∧ ∀ p, H p = none → Q (.ref p) (upd H p (.lst vs)) := by
  unfold newList at h
  split at h
  · rename_i hz
    have hz' : ds.length ≤ sizeLine := by rw [← big_eq]; exact hz
    refine ⟨by rw [← r.length]; exact hz', fun p hp => ?_⟩
    cases m with
    | false => exact Pst.newV (ds := ds) (vs := vs) (by simpa using h) s hp (rp_newL s hp r hz')
    | true =>
      simp only [if_true] at h
      have l := later_push (u := HO.lst vs) (o := Ob.lst ds) s hp
      refine h _ _ _ l (s.push hp ⟨vs, upd_same, hz', Rps.later l _ _ r⟩) ?_
      simp only [Rp]
      refine ⟨p, rfl, ?_⟩
      rw [← s.len, List.getElem?_append_right (Nat.le_refl _), Nat.sub_self]
      rfl
  · exact h.elim
theorem okList_ok {ds : List D} {vs : List V} (h : Pst XR F Rp (okList ds st) H ms st Q E) (s : Sm F H ms st) (r : Rps H (Mt F ms st) ms ds vs) : vs.length ≤ sizeLine ∧ ∀ p, H p = none → Q (.ref p) (upd H p (.lst vs)) :=
  newList_ok (m := false) (by unfold newList; unfold okList at h; simpa using h) s r
theorem lstOf_rp {d : D} {v : V} {ds : List D} (s : Sm F H ms st) (r : Rp H (Mt F ms st) ms d v) (e : lstOf st d = some ds) : ∃ a vs, v = .ref a ∧ H a = some (.lst vs) ∧ ds.length ≤ sizeLine ∧ Rps H (Mt F ms st) ms ds vs := by
  cases d with
  | lst es =>
    simp only [lstOf, Option.some.injEq] at e; subst e
    simp only [Rp] at r
    obtain ⟨a, vs, rfl, _, h, z, r⟩ := r
    exact ⟨a, vs, rfl, h, z, r⟩
  | ref n =>
    simp only [Rp] at r
    obtain ⟨a, rfl, ha⟩ := r
    simp only [lstOf] at e
    split at e
    · rename_i es he
      cases e
      obtain ⟨vs, h, z, r⟩ := s.at_ n a _ ha he
      exact ⟨a, vs, rfl, h, z, r⟩
    · cases e
  | _ => simp [lstOf] at e
theorem seqOf_rp {K : PySem.W.Frag} {d : D} {v : V} {ds : List D} (s : Sm F H ms st) (r : Rp H (Mt F ms st) ms d v) (e : seqOf st d = some ds) : ∃ a vs, v = .ref a ∧ (SqL K H a vs ∨ SqT K H a vs) ∧ ds.length ≤ sizeLine ∧ Rps H (Mt F ms st) ms ds vs := by
  cases d with
  | lst es =>
    simp only [seqOf, Option.some.injEq] at e; subst e
    simp only [Rp] at r
    obtain ⟨a, vs, rfl, _, h, z, r⟩ := r
    exact ⟨a, vs, rfl, .inl (.inl (.inl h)), z, r⟩
  | tup es =>
    simp only [seqOf, Option.some.injEq] at e; subst e
    simp only [Rp] at r
    obtain ⟨a, vs, rfl, _, h, z, r⟩ := r
    exact ⟨a, vs, rfl, .inr (.inl (.inl h)), z, r⟩
  | ref n =>
    simp only [Rp] at r
    obtain ⟨a, rfl, ha⟩ := r
    simp only [seqOf] at e
    split at e
    · rename_i es he
      cases e
      obtain ⟨vs, h, z, r⟩ := s.at_ n a _ ha he
      exact ⟨a, vs, rfl, .inl (.inl (.inl h)), z, r⟩
    · rename_i es he
      cases e
      obtain ⟨vs, h, z, r⟩ := s.at_ n a _ ha he
      exact ⟨a, vs, rfl, .inl (.inl h), z, r⟩
    · cases e
  | _ => simp [seqOf] at e
theorem dctOf_rp {d : D} {v : V} {ks : List K2} {ds : List D} (s : Sm F H ms st) (r : Rp H (Mt F ms st) ms d v) (e : dctOf st d = some (ks, ds)) :
    ∃ a vs, v = .ref a ∧ Rd H a (.dK ((ks.map kOf).zip vs)) ∧ ks.length = ds.length ∧ Rps H (Mt F ms st) ms ds vs := by
  cases d with
  | dct js es =>
    simp only [dctOf, Option.some.injEq, Prod.mk.injEq] at e
    obtain ⟨rfl, rfl⟩ := e
    simp only [Rp] at r
    obtain ⟨a, vs, rfl, _, h, z, r⟩ := r
    exact ⟨a, vs, rfl, h, z, r⟩
  | ref n =>
    simp only [Rp] at r
    obtain ⟨a, rfl, ha⟩ := r
    simp only [dctOf] at e
    split at e
    · rename_i es he
      cases e
      obtain ⟨vs, h, z, r⟩ := s.at_ n a _ ha he
      exact ⟨a, vs, rfl, .inl h, z, r⟩
    · cases e
  | _ => simp [dctOf] at e
/-! ### dict keys -/
theorem kOf_inj {a b : K2} : kOf a = kOf b ↔ a = b := by
  cases a <;> cases b <;> simp [kOf, tx_inj]
theorem valV_look {mt : Addr → Prop} (k : K2) : ∀ (ks : List K2) (ds : List D) (vs : List V), Rps H mt ms ds vs →
    (look k ks ds = none ∧ valV ((ks.map kOf).zip vs) (kOf k) = none) ∨ ∃ d v, look k ks ds = some d ∧ valV ((ks.map kOf).zip vs) (kOf k) = some v ∧ Rp H mt ms d v
  | [], ds, vs, _ => .inl ⟨by simp [look], by simp [valV_nil]⟩
  | j :: ks, [], vs, h => by simp only [Rps] at h; subst h; exact .inl ⟨by simp [look], by simp [valV_nil]⟩
  | j :: ks, d :: ds, vs, h => by
    obtain ⟨v, r, rfl, h1, h⟩ := h.uncons
    rw [List.map_cons, List.zip_cons_cons]
    by_cases e : j = k
    · subst e
      exact .inr ⟨d, v, by simp [look], valV_pos rfl, h1⟩
    · rw [show look k (j :: ks) (d :: ds) = look k ks ds by simp [look, e], valV_neg (fun z => e (kOf_inj.mp z))]
      exact valV_look k ks ds r h
theorem K2.of_v {mt : Addr → Prop} {d : D} {k : K2} {v : V} (e : K2.of d = some k) (r : Rp H mt ms d v) : v = kV (kOf k) := by
  cases d with
  | int i => simp only [K2.of, Option.some.injEq] at e; subst e; simp only [Rp] at r; subst r; rfl
  | str c => simp only [K2.of, Option.some.injEq] at e; subst e; simp only [Rp] at r; rw [r.1]; rfl
  | _ => simp [K2.of] at e
theorem keyed_rp {k d : D} {x v : V} {o : Option D} (s : Sm F H ms st) (rk : Rp H (Mt F ms st) ms k x) (r : Rp H (Mt F ms st) ms d v) (e : keyed st k d = some o) :
    ∃ a ov, v = .ref a ∧ DGet H a x ov ∧ IsD H a ∧ ((o = none ∧ ov = none) ∨ ∃ w u, o = some w ∧ ov = some u ∧ Rp H (Mt F ms st) ms w u) := by
  unfold keyed at e
  split at e
  · rename_i kk ks ds hk hd
    cases e
    obtain ⟨a, vs, rfl, h, hl, rr⟩ := dctOf_rp s r hd
    refine ⟨a, valV ((ks.map kOf).zip vs) (kOf kk), rfl, .inl ⟨_, _, h, K2.of_v hk rk, rfl⟩, .inl ⟨_, h⟩, ?_⟩
    rcases valV_look kk ks ds vs rr with ⟨e1, e2⟩ | ⟨w, u, e1, e2, e3⟩
    · exact .inl ⟨e1, e2⟩
    · exact .inr ⟨w, u, e1, e2, e3⟩
  · cases e
/-! ### binary operators -/
def oB : B2 → Operator
  | .add => .Add | .sub => .Sub | .mul => .Mult | .fdiv => .FloorDiv | .mod => .Mod | .pow => .Pow
def rB (K : PySem.W.Frag) : B2 → R2
  | .add => fun x y H Q => rI0 (fun i j => .int (i + j)) x y H Q ∨ rCat x y H Q ∨ rCatA K x y H Q
  | .sub => rI0 fun i j => .int (i - j)
  | .mul => fun x y H Q => rI CMul (fun i j => .int (i * j)) x y H Q ∨ rRep x y H Q ∨ rRepT K x y H Q
  | .fdiv => rI CDiv fun i j => .int (i / j)
  | .mod => rI (fun _ j => 0 < j) fun i j => .int (i % j)
  | .pow => rI CPow fun i j => .int (i ^ j.toNat)
theorem opB (op : B2) : OpR X (binaryOp (oB op)) (rB X.K op) := by
  cases op with
  | add => exact op_add.or (op_cat.or op_catA)
  | sub => exact op_sub
  | mul => exact op_mul.or (op_rep.or op_repT)
  | fdiv => exact op_fdiv
  | mod => exact op_mod
  | pow => exact op_pow
theorem cat_ok {x y : D} {v w : V} {a b : List D} {m : Bool} (s : Sm F H ms st) (rx : Rp H (Mt F ms st) ms x v) (ry : Rp H (Mt F ms st) ms y w) (ha : lstOf st x = some a) (hb : lstOf st y = some b) (h : Pst XR F Rp (newList m (a ++ b) st) H ms st Q E) : rCat v w H Q := by
  obtain ⟨l, vs, rfl, h1, z1, r1⟩ := lstOf_rp s rx ha
  obtain ⟨l2, us, rfl, h2, z2, r2⟩ := lstOf_rp s ry hb
  obtain ⟨z, q⟩ := newList_ok h s (r1.append r2)
  exact ⟨l, l2, vs, us, rfl, rfl, h1, h2, by simpa using z, q⟩
theorem binD_ok {K : PySem.W.Frag} {op : B2} {x y : D} {v w : V} (s : Sm F H ms st) (rx : Rp H (Mt F ms st) ms x v) (ry : Rp H (Mt F ms st) ms y w) (h : Pst XR F Rp (binD st op x y) H ms st Q E) : rB K op v w H Q := by
  unfold binD at h
  split at h
  · simp only [Rp] at rx ry; subst rx ry
    exact .inl ⟨_, _, rfl, rfl, h.ok s (by simp only [Rp])⟩
  · rename_i a b
    simp only [Rp] at rx ry
    obtain ⟨p, vs, rfl, _, h1, z1, r1⟩ := rx
    obtain ⟨p2, us, rfl, _, h2, z2, r2⟩ := ry
    split at h
    · rename_i hz
      have hz' : (a ++ b).length ≤ sizeLine := by rw [← big_eq]; exact hz
      have hl : vs.length + us.length ≤ sizeLine := by rw [← r1.length, ← r2.length]; simpa using hz'
      refine .inr (.inr ⟨p, p2, vs, us, rfl, rfl, .inl (.inl h1), .inl (.inl h2), hl, fun e => ?_, fun e e2 => ?_, fun _ _ q hq => ?_⟩)
      · subst e
        have e3 : a = [] := List.length_eq_zero_iff.mp (by rw [r1.length]; rfl)
        subst e3
        exact h.ok s (by simp only [Rp, List.nil_append]; exact ⟨p2, us, rfl, by assumption, h2, z2, r2⟩)
      · subst e2
        have e3 : b = [] := List.length_eq_zero_iff.mp (by rw [r2.length]; rfl)
        subst e3
        exact h.ok s (by simp only [Rp, List.append_nil]; exact ⟨p, vs, rfl, by assumption, h1, z1, r1⟩)
      · exact Pst.newV (ds := []) (vs := []) h s hq (rp_newT s hq (r1.append r2) hz')
    · exact h.elim
  · simp only [Rp] at rx ry; subst rx ry
    exact ⟨_, _, rfl, rfl, h.ok s (by simp only [Rp])⟩
  · simp only [Rp] at rx ry; subst rx ry
    split at h
    · rename_i i j hc
      refine .inl ⟨_, _, rfl, rfl, ?_, h.ok s (by simp only [Rp])⟩
      simp only [Bool.or_eq_true, decide_eq_true_eq] at hc
      unfold CMul
      omega
    · exact h.elim
  · rename_i a j
    simp only [Rp] at ry; subst ry
    obtain ⟨p, vs, rfl, h1, z1, r1⟩ := lstOf_rp s rx (ds := a) rfl
    split at h
    · rename_i hc
      have hz : ((List.replicate j.toNat a).flatten).length ≤ sizeLine := by
        rw [← big_eq]; simpa [Nat.mul_comm] using hc.2.2
      refine .inr (.inl ⟨p, j, vs, rfl, rfl, h1, by omega, by omega, ?_, fun q hq => Pst.newV (ds := []) (vs := []) h s hq (rp_newL s hq (r1.rep j.toNat) hz)⟩)
      rw [← r1.length, ← big_eq]; exact hc.2.2
    · exact h.elim
  · rename_i a j
    simp only [Rp] at rx ry; subst ry
    obtain ⟨p, vs, rfl, _, h1, z1, r1⟩ := rx
    split at h
    · rename_i hc
      have hl := r1.length
      have hz : ((List.replicate j.toNat a).flatten).length ≤ sizeLine := by
        rw [← big_eq]
        simp only [List.length_flatten, List.map_replicate, List.sum_replicate_nat]
        have : j.toNat * a.length ≤ 1000 * 1000 := Nat.mul_le_mul (by omega) (by omega)
        unfold big
        omega
      exact .inr (.inr ⟨p, j, vs, rfl, rfl, .inl (.inl h1), fun e => by subst e; have h0 : a.length = 0 := hl; omega, by omega, by omega, by omega, fun q hq => Pst.newV (ds := []) (vs := []) h s hq (rp_newT s hq (r1.rep j.toNat) hz)⟩)
    · exact h.elim
  · simp only [Rp] at rx ry; subst rx ry
    split at h
    · rename_i i j hc
      exact ⟨_, _, rfl, rfl, hc, h.ok s (by simp only [Rp])⟩
    · exact h.elim
  · simp only [Rp] at rx ry; subst rx ry
    split at h
    · rename_i i j hc
      exact ⟨_, _, rfl, rfl, hc, h.ok s (by simp only [Rp])⟩
    · exact h.elim
  · simp only [Rp] at rx ry; subst rx ry
    split at h
    · rename_i i j hc
      exact ⟨_, _, rfl, rfl, ⟨hc.1, by omega, hc.2.2⟩, h.ok s (by simp only [Rp])⟩
    · exact h.elim
  · split at h
    · rename_i a b ha hb
      exact .inr (.inl (cat_ok (m := false) s rx ry ha hb (by unfold newList; unfold okList at h; simpa using h)))
    · exact h.elim
  · exact h.elim
end
end Mi
end

section
set_option linter.all false
set_option maxRecDepth 100000
set_option autoImplicit false
/-! Mi: comparisons. -/
namespace Mi
open PySem L2
theorem codeLt_eq : ∀ a b : Cs, codeLt a b = decide (a < b)
  | [], [] => by simp [codeLt]
  | [], _ :: _ => by simp [codeLt]
  | _ :: _, [] => by simp [codeLt]
  | x :: xs, y :: ys => by
    rw [codeLt]
    by_cases h : x = y
    · subst h; rw [if_pos rfl, codeLt_eq xs ys]; simp [List.cons_lt_cons_iff]
    · rw [if_neg h]; simp [List.cons_lt_cons_iff, h]
theorem tx_list (c : Cs) : (tx c).cps.toList = c := rfl
mutual
theorem alike_toP : ∀ (n m : Nat) (x y : D), D.pl n x = true → D.pl m y = true → PySem.W.alike (toP x) (toP y) = D.alike x y
  | n, m, .non, y, _, hy => by cases y <;> first | (exfalso; simp [D.pl] at hy; done) | simp [toP, PySem.W.alike, D.alike]
  | n, m, .bl _, y, _, hy => by cases y <;> first | (exfalso; simp [D.pl] at hy; done) | simp [toP, PySem.W.alike, D.alike]
  | n, m, .int _, y, _, hy => by cases y <;> first | (exfalso; simp [D.pl] at hy; done) | simp [toP, PySem.W.alike, D.alike]
  | n, m, .str _, y, _, hy => by cases y <;> first | (exfalso; simp [D.pl] at hy; done) | simp [toP, PySem.W.alike, D.alike]
  | 0, m, .lst xs, y, h, _ => by simp [D.pl] at h
  | n + 1, m, .lst xs, y, h, hy => by
    cases y with
    | lst ys =>
      cases m with
      | zero => simp [D.pl] at hy
      | succ m =>
        simp only [toP, PySem.W.alike, D.alike]
        exact alikes_toPs n m xs ys (by simpa only [D.pl] using h) (by simpa only [D.pl] using hy)
    | dct _ _ => simp [D.pl] at hy
    | ref _ => simp [D.pl] at hy
    | exc _ _ => simp [D.pl] at hy
    | _ => simp [toP, PySem.W.alike, D.alike]
  | 0, m, .tup xs, y, h, _ => by simp [D.pl] at h
  | n + 1, m, .tup xs, y, h, hy => by
    cases y with
    | tup ys =>
      cases m with
      | zero => simp [D.pl] at hy
      | succ m =>
        simp only [toP, PySem.W.alike, D.alike]
        exact alikes_toPs n m xs ys (by simpa only [D.pl] using h) (by simpa only [D.pl] using hy)
    | dct _ _ => simp [D.pl] at hy
    | ref _ => simp [D.pl] at hy
    | exc _ _ => simp [D.pl] at hy
    | _ => simp [toP, PySem.W.alike, D.alike]
  | n, m, .dct _ _, _, h, _ => by simp [D.pl] at h
  | n, m, .ref _, _, h, _ => by simp [D.pl] at h
  | n, m, .exc _ _, _, h, _ => by simp [D.pl] at h
theorem alikes_toPs : ∀ (n m : Nat) (xs ys : List D), D.pls n xs = true → D.pls m ys = true → PySem.W.alikeAll (toPs xs) (toPs ys) = D.alikes xs ys
  | n, m, [], ys, _, _ => by simp [toPs, PySem.W.alikeAll, D.alikes]
  | n, m, x :: xs, [], _, _ => by simp [toPs, PySem.W.alikeAll, D.alikes]
  | n, m, x :: xs, y :: ys, h, hy => by
    simp only [D.pls, Bool.and_eq_true] at h hy
    simp only [toPs, PySem.W.alikeAll, D.alikes]
    rw [alike_toP n m x y h.1 hy.1, alikes_toPs n m xs ys h.2 hy.2]
end
mutual
theorem lt_toP : ∀ (n m : Nat) (x y : D), D.pl n x = true → D.pl m y = true → D.alike x y = true → PySem.W.dataLt (toP x) (toP y) = D.lt x y
  | n, m, .non, y, _, hy, a => by
    cases y with
    | non => simp [toP, PySem.W.dataLt, PySem.W.keyToks, PyProof.Rows.lexLt, D.lt]
    | _ => simp [D.alike] at a
  | n, m, .bl b, y, _, hy, a => by
    cases y with
    | bl c =>
      simp only [toP, D.lt]
      rw [PySem.W.dataLt_bool]
      cases b <;> cases c <;> decide
    | _ => simp [D.alike] at a
  | n, m, .int i, y, _, hy, a => by
    cases y with
    | int j => simp only [toP, D.lt]; rw [PySem.W.dataLt_int]
    | _ => simp [D.alike] at a
  | n, m, .str c, y, _, hy, a => by
    cases y with
    | str d => simp only [toP, D.lt]; rw [PySem.W.dataLt_str, codeLt_eq, tx_list, tx_list]
    | _ => simp [D.alike] at a
  | 0, m, .lst xs, y, h, _, _ => by simp [D.pl] at h
  | n + 1, m, .lst xs, y, h, hy, a => by
    cases y with
    | lst ys =>
      cases m with
      | zero => simp [D.pl] at hy
      | succ m =>
        simp only [toP, D.lt]
        rw [PySem.W.dataLt_list]
        exact lts_toPs n m xs ys (by simpa only [D.pl] using h) (by simpa only [D.pl] using hy) (by simpa only [D.alike] using a)
    | _ => simp [D.alike] at a
  | 0, m, .tup xs, y, h, _, _ => by simp [D.pl] at h
  | n + 1, m, .tup xs, y, h, hy, a => by
    cases y with
    | tup ys =>
      cases m with
      | zero => simp [D.pl] at hy
      | succ m =>
        simp only [toP, D.lt]
        rw [PySem.W.dataLt_tuple]
        exact lts_toPs n m xs ys (by simpa only [D.pl] using h) (by simpa only [D.pl] using hy) (by simpa only [D.alike] using a)
    | _ => simp [D.alike] at a
  | n, m, .dct _ _, _, h, _, _ => by simp [D.pl] at h
  | n, m, .ref _, _, h, _, _ => by simp [D.pl] at h
  | n, m, .exc _ _, _, h, _, _ => by simp [D.pl] at h
theorem lts_toPs : ∀ (n m : Nat) (xs ys : List D), D.pls n xs = true → D.pls m ys = true → D.alikes xs ys = true → PyProof.Rows.lexLt PyProof.Rows.itemOrd (PySem.W.keyToksAll (toPs xs)) (PySem.W.keyToksAll (toPs ys)) = D.lts xs ys
  | n, m, [], [], _, _, _ => by simp [toPs, PySem.W.keyToksAll, D.lts, PyProof.Rows.lex_irrefl]
  | n, m, [], y :: ys, _, _, _ => by
    simp only [toPs]; rw [PySem.W.toks_all_cons, PySem.W.keyToksAll, PyProof.Rows.lex_diff (O := PyProof.Rows.itemOrd) (by simp)]
    simp [D.lts, PyProof.Rows.itemLt]
  | n, m, x :: xs, [], _, _, _ => by
    simp only [toPs]; rw [PySem.W.toks_all_cons, PySem.W.keyToksAll, PyProof.Rows.lex_diff (O := PyProof.Rows.itemOrd) (by simp)]
    simp [D.lts, PyProof.Rows.itemLt]
  | n, m, x :: xs, y :: ys, h, hy, a => by
    simp only [D.pls, Bool.and_eq_true] at h hy
    simp only [D.alikes, Bool.and_eq_true] at a
    have al : PySem.W.alike (toP x) (toP y) = true := by rw [alike_toP n m x y h.1 hy.1]; exact a.1
    have ev := eqv_toP n m x y h.1 hy.1
    simp only [toPs, D.lts]
    cases hx : D.eqv x y with
    | true =>
      rw [PySem.W.dataLt_all_yes al (by rw [ev, hx]), lts_toPs n m xs ys h.2 hy.2 a.2]
      rfl
    | false =>
      rw [PySem.W.dataLt_all_no al (by rw [ev, hx]), lt_toP n m x y h.1 hy.1 a.1]
      rfl
end
variable [Cls]
section
variable {X : Cx} {XR : XRel} {F : Addr → Prop} {H : Hp} {ms : List Addr} {st : Sto} {Q : VK} {E : XK}
def oC : C2 → CmpOp
  | .eq => .Eq | .ne => .NotEq | .lt => .Lt | .le => .LtE | .gt => .Gt | .ge => .GtE | .isin => .In | .notin => .NotIn | .isn => .Is | .notn => .IsNot
/-- x in a list or tuple -/
def rInM (K : PySem.W.Frag) (neg : Bool) : R2 := fun x y H Q => ∃ d ds a vs, y = .ref a ∧ (SqL K H a vs ∨ SqT K H a vs) ∧ Dp K H x d ∧ DpAll K H vs ds ∧ d.canLay0 = true ∧ d.depth ≤ 60 ∧ PyData.canLayAll0 ds = true ∧
  Q (.bl (if neg then !ds.any (fun z => PyData.eqv z d) else ds.any fun z => PyData.eqv z d)) H
def rInK (neg : Bool) : R2 := fun x y H Q => ∃ a o, y = .ref a ∧ DGet H a x o ∧ Q (.bl (if neg then !o.isSome else o.isSome)) H
theorem op_inM (hu : X.A.units + 70 < cLine) : OpR X (compareOp .In) (rInM X.K false) := by
  intro pins s σ H x y v u Q I rx ry h
  obtain ⟨d, ds, a, vs, rfl, hq, hd, hds, c1, d1, c2, q⟩ := h
  cases ry
  obtain ⟨as, r1⟩ := Dp.reads I d x v hd rx
  have hr : X.A.units + 1 + min (PyData.depthAll ds) d.depth < cLine := by have := Nat.min_le_right (PyData.depthAll ds) d.depth; omega
  rcases hq with hq | hq
  · obtain ⟨bs, r2⟩ := Dp.reads I (.list ds) (.ref a) (.ref a) (.lst hq hds) rfl
    exact SeqAt.in_list_reads r2 r1 c2 c1 hr ⟨.bl _, H, I, rfl, q⟩
  · obtain ⟨bs, r2⟩ := Dp.reads I (.tuple ds) (.ref a) (.ref a) (.tup hq hds) rfl
    exact SeqAt.in_tuple_reads r2 r1 c2 c1 hr ⟨.bl _, H, I, rfl, q⟩
theorem op_notInM (hu : X.A.units + 70 < cLine) : OpR X (compareOp .NotIn) (rInM X.K true) := by
  intro pins s σ H x y v u Q I rx ry h
  obtain ⟨d, ds, a, vs, rfl, hq, hd, hds, c1, d1, c2, q⟩ := h
  cases ry
  obtain ⟨as, r1⟩ := Dp.reads I d x v hd rx
  have hr : X.A.units + 1 + min (PyData.depthAll ds) d.depth < cLine := by have := Nat.min_le_right (PyData.depthAll ds) d.depth; omega
  rcases hq with hq | hq
  · obtain ⟨bs, r2⟩ := Dp.reads I (.list ds) (.ref a) (.ref a) (.lst hq hds) rfl
    exact SeqAt.notIn_list_reads r2 r1 c2 c1 hr ⟨.bl _, H, I, rfl, q⟩
  · obtain ⟨bs, r2⟩ := Dp.reads I (.tuple ds) (.ref a) (.ref a) (.tup hq hds) rfl
    exact SeqAt.notIn_tuple_reads r2 r1 c2 c1 hr ⟨.bl _, H, I, rfl, q⟩
theorem op_inK (hu : X.A.units + 70 < cLine) : OpR X (compareOp .In) (rInK false) := by
  intro pins s σ H x y v u Q I rx ry h
  obtain ⟨a, o, rfl, g, q⟩ := h
  cases ry
  exact d_in (by omega) I g rx fun s' I' => ⟨.bl _, H, I', rfl, q⟩
theorem op_notInK (hu : X.A.units + 70 < cLine) : OpR X (compareOp .NotIn) (rInK true) := by
  intro pins s σ H x y v u Q I rx ry h
  obtain ⟨a, o, rfl, g, q⟩ := h
  cases ry
  exact d_notIn (by omega) I g rx fun s' I' => ⟨.bl _, H, I', rfl, q⟩
def rLtD (K : PySem.W.Frag) : R2 := fun x y H Q => ∃ d e, Dp K H x d ∧ Dp K H y e ∧ PySem.W.alike d e = true ∧ d.depth ≤ 60 ∧ PyData.eqv d e = false ∧ Q (.bl (PySem.W.dataLt d e)) H
def rLtS : R2 := fun x y H Q => ∃ i j, x = .str i ∧ y = .str j ∧ Q (.bl (decide (i.cps.toList < j.cps.toList))) H
def rLeS : R2 := fun x y H Q => ∃ i j, x = .str i ∧ y = .str j ∧ Q (.bl (!(decide (j.cps.toList < i.cps.toList)))) H
theorem op_leS : OpR X (compareOp .LtE) rLeS := by
  intro pins s σ H x y v u Q I rx ry h
  obtain ⟨i, j, rfl, rfl, q⟩ := h
  obtain ⟨t, rfl⟩ := rx
  obtain ⟨t', rfl⟩ := ry
  refine PySem.P.le_str ⟨.bl _, H, I, rfl, ?_⟩
  exact q
/-- tuples, alike -/
def rLtT (K : PySem.W.Frag) : R2 := fun x y H Q => ∃ ds es, Dp K H x (.tuple ds) ∧ Dp K H y (.tuple es) ∧ PySem.W.alikeAll ds es = true ∧ PyData.depthAll ds ≤ 60 ∧ Q (.bl (PySem.W.dataLt (.tuple ds) (.tuple es))) H
theorem op_ltT' (hu : X.A.units + 70 < cLine) : OpR X (compareOp .Lt) (rLtT X.K) := by
  intro pins s σ H x y v u Q I rx ry h
  obtain ⟨ds, es, hd, he, al, dp, q⟩ := h
  obtain ⟨as, r1⟩ := Dp.reads I _ x v hd rx
  obtain ⟨bs, r2⟩ := Dp.reads I _ y u he ry
  have hr : X.A.units + min (PyData.depth (.tuple ds)) (PyData.depth (.tuple es)) < cLine := by
    have h1 := Nat.min_le_left (PyData.depth (.tuple ds)) (PyData.depth (.tuple es))
    have h2 : PyData.depth (.tuple ds) = PyData.depthAll ds + 1 := by simp [PyData.depth]
    omega
  exact PySem.W.rcLt_alike (.tuple ds) (.tuple es) X.A s v u as bs r1 r2 (by simpa [PySem.W.alike] using al) (by intro z; cases z) hr X.prog X.w _ _ ⟨.bl _, H, I, rfl, q⟩
def rC (K : PySem.W.Frag) : C2 → R2
  | .eq => rEqD K
  | .ne => rNeD K
  | .lt => fun x y H Q => rI0 (fun i j => .bl (decide (i < j))) x y H Q ∨ rLtS x y H Q ∨ rLtT K x y H Q
  | .le => fun x y H Q => rI0 (fun i j => .bl (decide (i ≤ j))) x y H Q ∨ rLeS x y H Q
  | .gt => rI0 fun i j => .bl (decide (j < i))
  | .ge => rI0 fun i j => .bl (decide (j ≤ i))
  | .isin => fun x y H Q => rInM K false x y H Q ∨ rInK false x y H Q
  | .notin => fun x y H Q => rInM K true x y H Q ∨ rInK true x y H Q
  | .isn => fun x y H Q => y = .non ∧ Q (.bl (decide (x = .non))) H
  | .notn => fun x y H Q => y = .non ∧ Q (.bl (!decide (x = .non))) H
theorem opC (hu : X.A.units + 70 < cLine) (op : C2) : OpR X (compareOp (oC op)) (rC X.K op) := by
  cases op with
  | eq => exact op_eqD (by omega)
  | ne => exact op_neD (by omega)
  | lt => exact op_lt.or ((show OpR X _ rLtS from op_lt_str).or (op_ltT' hu))
  | le => exact op_le.or op_leS
  | gt => exact op_gt
  | ge => exact op_ge
  | isin => exact (op_inM hu).or (op_inK hu)
  | notin => exact (op_notInM hu).or (op_notInK hu)
  | isn => exact op_isN
  | notn => exact op_notN
theorem ofB_ok {o : Option Bool} (h : Pst XR F Rp (ofB st o) H ms st Q E) (s : Sm F H ms st) : ∃ b, o = some b ∧ Q (.bl b) H := by
  cases o with
  | none => exact h.elim
  | some b => exact ⟨b, rfl, h.ok s (by simp only [Rp])⟩
theorem inM_ok {K : PySem.W.Frag} {neg : Bool} {x y : D} {v w : V} {b : Bool} (s : Sm F H ms st) (rx : Rp H (Mt F ms st) ms x v) (ry : Rp H (Mt F ms st) ms y w) (e : inD st x y = some b) (q : Q (.bl (if neg then !b else b)) H) : rInM K neg v w H Q ∨ rInK neg v w H Q := by
  unfold inD at e
  split at e
  · rename_i ds hs
    split at e
    · rename_i hp
      cases e
      simp only [Bool.and_eq_true] at hp
      obtain ⟨a, vs, rfl, hq, z, r⟩ := seqOf_rp (K := K) s ry hs
      obtain ⟨l1, l2⟩ := lay_toP 60 x hp.1
      have hps : D.pls 60 ds = true := by rw [pls_all]; exact hp.2
      obtain ⟨l3, l4⟩ := lays_toPs 60 ds hps
      refine .inl ⟨toP x, toPs ds, a, vs, rfl, hq, Rp.dp 60 x v rx hp.1, Rps.dp 60 ds vs r hps, l1, l2, l3, ?_⟩
      rw [any_toPs hp.1 ds hp.2]
      exact q
    · cases e
  · rename_i hs
    simp only [Option.map_eq_some_iff] at e
    obtain ⟨o, e, rfl⟩ := e
    obtain ⟨a, ov, rfl, g, _, h⟩ := keyed_rp s rx ry e
    refine .inr ⟨a, ov, rfl, g, ?_⟩
    have : ov.isSome = o.isSome := by rcases h with ⟨h1, h2⟩ | ⟨_, _, h1, h2, _⟩ <;> rw [h1, h2] <;> rfl
    rw [this]
    exact q
theorem cmpD_ok {K : PySem.W.Frag} {op : C2} {x y : D} {v w : V} (s : Sm F H ms st) (rx : Rp H (Mt F ms st) ms x v) (ry : Rp H (Mt F ms st) ms y w) (hn : (op = .isn ∨ op = .notn) → w = .non) {b : Bool} (e : cmpD st op x y = some b) (q : Q (.bl b) H) : rC K op v w H Q := by
  unfold cmpD at e
  split at e
  · split at e
    · rename_i hp
      cases e
      simp only [Bool.and_eq_true] at hp
      exact ⟨toP x, toP y, Rp.dp 60 x v rx hp.1, Rp.dp 60 y w ry hp.2, shaped_toP hp.1, shaped_toP hp.2, by rw [eqv_toP 60 60 x y hp.1 hp.2]; exact q⟩
    · cases e
  · split at e
    · rename_i hp
      cases e
      simp only [Bool.and_eq_true] at hp
      exact ⟨toP x, toP y, Rp.dp 60 x v rx hp.1, Rp.dp 60 y w ry hp.2, shaped_toP hp.1, shaped_toP hp.2, by rw [eqv_toP 60 60 x y hp.1 hp.2]; exact q⟩
    · cases e
  · cases e; simp only [Rp] at rx ry; subst rx ry; exact .inl ⟨_, _, rfl, rfl, q⟩
  · cases e; simp only [Rp] at rx ry; subst rx ry; exact .inl ⟨_, _, rfl, rfl, q⟩
  · cases e; simp only [Rp] at rx ry; subst rx ry; exact ⟨_, _, rfl, rfl, q⟩
  · cases e; simp only [Rp] at rx ry; subst rx ry; exact ⟨_, _, rfl, rfl, q⟩
  · cases e; simp only [Rp] at rx ry; rw [codeLt_eq] at q; exact .inr (.inl ⟨_, _, rx.1, ry.1, q⟩)
  · cases e; simp only [Rp] at rx ry; rw [codeLt_eq] at q; exact .inr ⟨_, _, rx.1, ry.1, q⟩
  · split at e
    · rename_i a b hp
      cases e
      simp only [Bool.and_eq_true] at hp
      have p1 : D.pls 59 a = true := by have := hp.1.1; simpa only [D.pl] using this
      have p2 : D.pls 59 b = true := by have := hp.1.2; simpa only [D.pl] using this
      obtain ⟨l3, l4⟩ := lays_toPs 59 a p1
      refine .inr (.inr ⟨toPs a, toPs b, by simpa only [toP] using Rp.dp (K := K) 60 _ v rx hp.1.1, by simpa only [toP] using Rp.dp (K := K) 60 _ w ry hp.1.2, by rw [alikes_toPs 59 59 a b p1 p2]; exact hp.2, by omega, ?_⟩)
      rw [PySem.W.dataLt_tuple, lts_toPs 59 59 a b p1 p2 hp.2]
      exact q
    · cases e
  · exact inM_ok (neg := false) s rx ry e (by simpa using q)
  · simp only [Option.map_eq_some_iff] at e
    obtain ⟨c, e, rfl⟩ := e
    exact inM_ok (neg := true) s rx ry e (by simpa using q)
  · refine ⟨hn (.inl rfl), ?_⟩
    cases e
    cases x <;> simp only [Rp] at rx <;> first | (subst rx; exact q) | (obtain ⟨rfl, _⟩ := rx; exact q) | (obtain ⟨_, _, rfl, _⟩ := rx; exact q) | (obtain ⟨_, rfl, _⟩ := rx; exact q) | (obtain ⟨_, _, _, _, rfl, _⟩ := rx; exact q) | exact rx.elim
  · refine ⟨hn (.inr rfl), ?_⟩
    cases e
    cases x <;> simp only [Rp] at rx <;> first | (subst rx; exact q) | (obtain ⟨rfl, _⟩ := rx; exact q) | (obtain ⟨_, _, rfl, _⟩ := rx; exact q) | (obtain ⟨_, rfl, _⟩ := rx; exact q) | (obtain ⟨_, _, _, _, rfl, _⟩ := rx; exact q) | exact rx.elim
  · cases e
end
end Mi
end

section
set_option linter.all false
set_option maxRecDepth 100000
set_option autoImplicit false
/-! Mi: subscripts, slices, built-in functions and methods, by values. -/
namespace Mi
open PySem L2
variable [Cls]
section
variable {X : Cx} {XR : XRel} {F : Addr → Prop} {H : Hp} {ms : List Addr} {st : Sto} {Q : VK} {E : XK}
/-! ### x[i] -/
def rIxK : R2 := fun x y H Q => ∃ a v, x = .ref a ∧ DGet H a y (some v) ∧ Q v H
theorem ix_dict (hu : X.A.units + 70 < cLine) : IxR X rIxK := by
  intro value slice pins s σ H x y v u Q I rx ry h hs
  obtain ⟨a, z, rfl, g, q⟩ := h
  cases rx
  have hT : s.TypeIs (.ref a) "dict" := dict_typeIs I g
  unfold PyProof.Rows.subscriptTail
  refine wpAny_bind ?_
  rw [getitemInPython_of_ne hT.not_modules]
  refine wpAny_bind (wpAny_specialOf hT PySem.F.slot_dict_getitem.lookup ?_)
  have fin : wpAny (model X.prog X.w) X.A (subscripted slice false (.ref a) u) (fun r s₃ => wpAny (model X.prog X.w) X.A (letTemporaryGo value (.ref a) r >>= fun _ => pure r) (EP X pins σ Q) X.xe s₃) X.xe s := by
    rw [hs]
    exact wpAny_operating (d_getItem (by omega) I g ry fun w' s' I' rw' => wpAny_bind (wpAny_letTemporaryGo (wpAny_pure ⟨z, H, I', rw', q⟩)))
  first
    | exact wpAny_pure (wpAny_bind fin)
    | exact wpAny_bind (wpAny_pure (wpAny_bind fin))
    | exact wpAny_bind fin
def rIx' (K : PySem.W.Frag) : R2 := fun x y H Q => rIx K x y H Q ∨ rIxK x y H Q
theorem opIx (hu : X.A.units + 70 < cLine) : IxR X (rIx' X.K) := ix_seq.or (ix_dict hu)
theorem atI_of {n : Nat} {i : Int} {j : Nat} {xs : List V} {v : V} (hn : xs.length = n) (h : ixN n i = some j) (e : xs[j]? = some v) : L2.atI xs i = some v := by
  subst hn
  unfold L2.atI
  rw [← ixN_eq, h]
  exact e
theorem ixD_ok {K : PySem.W.Frag} {x y : D} {v w : V} (s : Sm F H ms st) (rx : Rp H (Mt F ms st) ms x v) (ry : Rp H (Mt F ms st) ms y w) (h : Pst XR F Rp (ixD st x y) H ms st Q E) : rIx' K v w H Q := by
  unfold ixD at h
  split at h
  · rename_i c i
    simp only [Rp] at rx ry
    obtain ⟨rfl, hz⟩ := rx
    subst ry
    split at h
    · rename_i j hj
      split at h
      · rename_i z hz'
        refine .inl (.inr (.inr ⟨tx c, i, z, rfl, rfl, ?_, ?_, h.ok s ?_⟩))
        · show (tx c).cps.size ≤ _
          simpa [tx] using hz
        · unfold L2.atI
          rw [← ixN_eq, show (tx c).cps.toList = c from rfl, hj]
          exact hz'
        · simp only [Rp]
          exact ⟨rfl, by rw [← big_eq]; show 1 ≤ big; decide⟩
      · exact h.elim
    · exact h.elim
  · split at h
    · rename_i ds hs
      split at h
      · rename_i i _
        split at h
        · rename_i j hj
          cases hd : ds[j]? with
          | none => rw [hd] at h; exact h.elim
          | some d =>
            rw [hd] at h
            simp only [Rp] at ry; subst ry
            obtain ⟨a, vs, rfl, hq, z, r⟩ := seqOf_rp (K := K) s rx hs
            obtain ⟨u, hu, ru⟩ := r.get hd
            have e := atI_of r.length.symm hj hu
            have q : Q u H := Pst.ok (a := d) h s ru
            rcases hq with hq | hq
            · exact .inl (.inl ⟨a, vs, i, u, rfl, rfl, hq, e, q⟩)
            · exact .inl (.inr (.inl ⟨a, vs, i, u, rfl, rfl, hq, e, q⟩))
        · exact h.elim
      · exact h.elim
    · split at h
      · rename_i o hk
        obtain ⟨a, ov, rfl, g, _, hh⟩ := keyed_rp s ry rx hk
        rcases hh with ⟨h1, _⟩ | ⟨d, u, h1, h2, ru⟩
        · cases h1
        · cases h1
          subst h2
          exact .inr ⟨a, u, rfl, g, h.ok s ru⟩
      · exact h.elim
/-! ### slices -/
def rSl (K : PySem.W.Frag) : V → Option Int → Option Int → Hp → VK → Prop := fun x lo hi H Q => rSlL K x lo hi H Q ∨ rSlA K x lo hi H Q
theorem opSl : SlR X (rSl X.K) := sl_list.or sl_tupA
theorem Rps.cut {mt : Addr → Prop} {ds : List D} {vs : List V} {lo hi : Option Int} (h : Rps H mt ms ds vs) : Rps H mt ms (Mi.cut ds lo hi) (cutV vs lo hi) := by
  rw [← cut_eq]
  unfold Mi.cut
  rw [h.length]
  exact (h.drop _).take _
theorem cut_len {α : Type} (ds : List α) (lo hi : Option Int) : (Mi.cut ds lo hi).length ≤ ds.length := by
  unfold Mi.cut
  rw [List.length_take, List.length_drop]
  omega
theorem slD_ok {K : PySem.W.Frag} {x : D} {v : V} {lo hi : Option Int} (s : Sm F H ms st) (rx : Rp H (Mt F ms st) ms x v) (h : Pst XR F Rp (slD st x lo hi) H ms st Q E) : rSl K v lo hi H Q := by
  have lst : ∀ (a : Addr) (ds : List D) (vs : List V), SqL K H a vs → ds.length ≤ sizeLine → Rps H (Mt F ms st) ms ds vs → Pst XR F Rp (.ok (.lst (cut ds lo hi)) st) H ms st Q E → rSl K (.ref a) lo hi H Q := fun a ds vs hq z r h =>
    .inl ⟨a, vs, rfl, hq, fun p hp => Pst.newV (ds := []) (vs := []) h s hp (rp_newL s hp r.cut (Nat.le_trans (cut_len ..) z))⟩
  unfold slD at h
  split at h
  · simp only [Rp] at rx
    obtain ⟨a, vs, rfl, _, e, z, r⟩ := rx
    exact lst a _ vs (.inl (.inl e)) z r h
  · rename_i ds
    simp only [Rp] at rx
    obtain ⟨a, vs, rfl, n, e, z, r⟩ := rx
    refine .inr ⟨a, vs, rfl, .inl (.inl e), fun hh => ?_, fun _ p hp => Pst.newV (ds := []) (vs := []) h s hp (rp_newT s hp r.cut (Nat.le_trans (cut_len ..) z))⟩
    have hc : cut ds lo hi = ds := by
      unfold cut
      rw [sIx_eq, r.length, hh.1, hh.2, ← r.length]
      simp
    rw [hc] at h
    exact h.ok s (by simp only [Rp]; exact ⟨a, vs, rfl, n, e, z, r⟩)
  · rename_i n
    simp only [Rp] at rx
    obtain ⟨a, rfl, ha⟩ := rx
    split at h
    · rename_i ds hd
      obtain ⟨vs, e, z, r⟩ := s.at_ n a _ ha hd
      exact lst a ds vs (.inl (.inl e)) z r h
    · rename_i ds hd
      obtain ⟨vs, e, z, r⟩ := s.at_ n a _ ha hd
      exact lst a (iD ds) vs (.inl e) z r h
    · exact h.elim
  · exact h.elim
/-! ### truth -/
theorem truth_ok {K : PySem.W.Frag} {d : D} {v : V} {b : Bool} (s : Sm F H ms st) (r : Rp H (Mt F ms st) ms d v) (e : truth st d = some b) : TruV K v H b := by
  have emp : ∀ {ds : List D} {vs : List V}, Rps H (Mt F ms st) ms ds vs → (!vs.isEmpty) = !ds.isEmpty := fun h => by
    have := h.length
    rename_i ds vs
    cases ds <;> cases vs <;> simp_all
  cases d with
  | non => simp only [truth, Option.some.injEq] at e; simp only [Rp] at r; subst r; exact e.symm
  | bl c => simp only [truth, Option.some.injEq] at e; simp only [Rp] at r; subst r; exact e.symm
  | int i =>
    simp only [truth, Option.some.injEq] at e; simp only [Rp] at r; subst r
    show b = (i != 0)
    rw [← e]
    by_cases h : i = 0 <;> simp [h]
  | str c =>
    simp only [truth, Option.some.injEq] at e; simp only [Rp] at r
    obtain ⟨rfl, z⟩ := r
    refine ⟨by show (tx c).cps.size ≤ _; simpa [tx] using z, ?_⟩
    rw [← e]
    show _ = (((tx c).cps.size : Int) != 0)
    cases c <;> simp [tx] <;> omega
  | lst ds =>
    simp only [truth, Option.some.injEq] at e; simp only [Rp] at r
    obtain ⟨a, vs, rfl, _, h, _, r⟩ := r
    exact .inl ⟨vs, .inl (.inl h), by rw [emp r, e]⟩
  | tup ds =>
    simp only [truth, Option.some.injEq] at e; simp only [Rp] at r
    obtain ⟨a, vs, rfl, _, h, _, r⟩ := r
    exact .inr (.inl ⟨vs, .inl (.inl h), by rw [emp r, e]⟩)
  | dct ks ds => simp [truth] at e
  | ref n =>
    simp only [Rp] at r
    obtain ⟨a, rfl, ha⟩ := r
    simp only [truth] at e
    split at e
    · rename_i ds hd
      cases e
      obtain ⟨vs, h, _, r⟩ := s.at_ n a _ ha hd
      exact .inl ⟨vs, .inl (.inl h), by rw [emp r]⟩
    · rename_i ds hd
      cases e
      obtain ⟨vs, h, _, r⟩ := s.at_ n a _ ha hd
      exact .inl ⟨vs, .inl h, by rw [emp r]⟩
    · rename_i ks ds hd
      cases e
      obtain ⟨vs, h, hl, r⟩ := s.at_ n a _ ha hd
      refine .inr (.inr ⟨_, h, ?_⟩)
      have := r.length
      cases ks <;> cases vs <;> simp_all
    · cases e
  | exc _ _ => simp only [truth] at e; cases e
end
end Mi
end

section
set_option linter.all false
set_option maxRecDepth 100000
set_option autoImplicit false
/-! Mi: built-in functions and methods, by values. -/
namespace Mi
open PySem L2 PySem.Calls
/-! ### sorted -/
theorem collect_tup {prog : Program} {w : World} {A : Around} {E : Value → Shared → Prop} {s : Shared} {l : Addr} {vs : List Value} {Q : List Value → Shared → Prop} (hl : s.heap.IsTuple l vs.toArray)
    (h : Q vs { s with heap := (s.heap.push (PyProof.Rows.seqObj "list" #[] 0)).update s.heap.objs.size (Obj.mapSeq (· ++ vs.toArray)) }) (hsz : vs.length ≤ sizeLine) :
    wpAny (model prog w) A (collect (.ref l)) Q E s := by
  obtain ⟨o, ho, hc, n, hd⟩ := id hl
  unfold collect
  refine wpAny_bind (wpAny_runValue (codeAny_builtin PyProof.Rows.entry_proto_collect' ?_))
  show wpAny _ _ (do again (.builtin "list.__iadd__" ⟨[← PySem.newList [], .ref l], []⟩)) _ _ s
  refine wpAny_bind (wpAny_newList (wpAny_pure ⟨Code.quiet_builtin _ (by decide +kernel), codeAny_builtin PyProof.Rows.entry_list_iadd' ?_⟩))
  show wpAny _ _ (Builtin.List.listExtendWith (.ref s.heap.objs.size) (.ref l) (.ref s.heap.objs.size)) _ _ { s with heap := s.heap.push (PyProof.Rows.seqObj "list" #[] 0) }
  unfold Builtin.List.listExtendWith
  have ho' : (s.heap.push (PyProof.Rows.seqObj "list" #[] 0)).get? l = some o := Heap.get?_push_of_some _ ho
  refine wpAny_bind (wpAny_typeOf (T := "tuple") ⟨o, ho', hc⟩ ?_)
  have ht : (Value.type "tuple" == Value.type "tuple") = true := by rfl
  rw [if_pos (by rw [ht]; simp)]
  refine wpAny_bind (PyProof.Rows.listItems_at ho' hd ?_)
  refine wpAny_bind (PyProof.Rows.listItems_at (xs := #[]) (n := 0) (Heap.get?_push_size _ rfl) rfl ?_)
  rw [if_neg (by simp)]
  refine wpAny_bind (PyProof.Rows.listUpdate_at (xs := #[]) (n := 0) (Heap.get?_push_size _ rfl) rfl ?_ (Nat.zero_le _) (by show (#[] ++ vs.toArray).size ≤ sizeLine + 1; simp only [Array.size_append, List.size_toArray, List.length_nil]; omega))
  refine wpAny_pure ?_
  show wpAny (model prog w) A (do
      let o ← load s.heap.objs.size
      match o.data with
      | .seq xs _ => pure xs.toList
      | _ => unsupported "internal:collect") Q E { s with heap := (s.heap.push (PyProof.Rows.seqObj "list" #[] 0)).update s.heap.objs.size (Obj.mapSeq (· ++ vs.toArray)) }
  refine wpAny_bind (wpAny_load (PyProof.Rows.get?_update_seq (Heap.get?_push_size _ rfl) _) ?_)
  show wpAny _ _ (pure ((#[] : Array Value) ++ vs.toArray).toList) Q E _
  rw [show ((#[] : Array Value) ++ vs.toArray).toList = vs by simp]
  exact wpAny_pure h

theorem sorted_of_tup {prog : Program} {w : World} {A : Around} {E : Value → Shared → Prop} {s : Shared} {l : Addr} {vs : List Value} {Q : Value → Shared → Prop} (hl : s.heap.IsTuple l vs.toArray) (hL : vs.length ≤ sizeLine)
    (body : ∀ E' : Value → Shared → Prop, wpAny (model prog w) A.in1.in1 (Builtin.«list.sort» ⟨[.ref (s.heap.objs.size + 1)], []⟩) (fun f s' => f = .done (.ret .none) ∧ Q (.ref (s.heap.objs.size + 1)) s') E' { s with heap := PySem.W.copyHeap s.heap vs }) :
    wpAny (model prog w) A (call (.builtin "sorted") [.ref l] []) Q E s := by
  refine PyProof.Rows.call_function_entry_kw PyProof.Rows.kind_sorted PyProof.Rows.plain_sorted PyProof.Rows.entry_sorted (PyProof.Rows.args_sorted1 _) ?_
  unfold Builtin.«sorted»
  refine wpAny_bind (m := checkCount "sorted" 1 1 _) (wpAny_pure ?_)
  refine wpAny_bind (collect_tup hl ?_ hL)
  refine wpAny_bind (wpAny_newList ?_ hL)
  have hsz : ((s.heap.push (PyProof.Rows.seqObj "list" #[] 0)).update s.heap.objs.size (Obj.mapSeq (· ++ vs.toArray))).objs.size = s.heap.objs.size + 1 := by
    rw [Heap.size_update, PyProof.Rows.size_push']
  show wpAny _ _ _ _ _ { s with heap := PySem.W.copyHeap s.heap vs }
  rw [hsz]
  refine wpAny_bind (wpAny_holding (PyProof.Rows.wpAny_call_entry_kw PyProof.Rows.slot_list_sort ⟨_, PySem.W.copyHeap_at s.heap vs, rfl⟩ PyProof.Rows.entry_list_sort ?body (PyProof.Rows.args_list_sort _)))
  case body =>
    show wpAny (model prog w) A.in1.in1 (Builtin.«list.sort» ⟨[.ref (s.heap.objs.size + 1)], []⟩) _ _ _
    refine wpAny_mono (body _) (fun f s' hf => ?_) fun _ _ e => e
    obtain ⟨rfl, hq⟩ := hf
    exact ⟨_, rfl, wpAny_pure ⟨_, rfl, hq⟩⟩
end Mi
namespace Mi
open PySem L2 PySem.W
/-! the order -/
def insL {α : Type} (le : α → α → Bool) (x : α) : List α → List α
  | [] => [x]
  | y :: ys => if le x y then x :: y :: ys else y :: insL le x ys
def isort {α : Type} (le : α → α → Bool) : List α → List α
  | [] => []
  | x :: xs => insL le x (isort le xs)
section
variable {α : Type} {le : α → α → Bool}
theorem mem_insL {x z : α} : ∀ {l : List α}, z ∈ insL le x l ↔ z = x ∨ z ∈ l
  | [] => by simp [insL]
  | y :: ys => by
    unfold insL
    split
    · simp
    · rw [List.mem_cons, mem_insL (l := ys)]; simp [or_left_comm]
theorem insL_pair (h : TotalLe le) {x : α} : ∀ {l : List α}, l.Pairwise (fun a b => le a b = true) → (insL le x l).Pairwise (fun a b => le a b = true)
  | [], _ => by simp [insL]
  | y :: ys, p => by
    rw [List.pairwise_cons] at p
    unfold insL
    split
    · rename_i hx
      rw [List.pairwise_cons]
      refine ⟨fun z hz => ?_, List.pairwise_cons.mpr p⟩
      rcases List.mem_cons.mp hz with rfl | hz
      · exact hx
      · exact h.trans _ _ _ hx (p.1 z hz)
    · rename_i hx
      rw [List.pairwise_cons]
      refine ⟨fun z hz => ?_, insL_pair h p.2⟩
      rcases mem_insL.mp hz with rfl | hz
      · exact (h.total y z).resolve_right hx
      · exact p.1 z hz
theorem insL_filter (h : TotalLe le) (c x : α) : ∀ (l : List α), (insL le x l).filter (sameRank le c) = (x :: l).filter (sameRank le c)
  | [] => rfl
  | y :: ys => by
    unfold insL
    split
    · rfl
    · rename_i hx
      rw [List.filter_cons, insL_filter h c x ys]
      by_cases hy : sameRank le c y = true
      · have hxn : ¬ sameRank le c x = true := fun hcx => hx (by
          unfold sameRank at hy hcx
          rw [Bool.and_eq_true] at hy hcx
          exact h.trans _ _ _ hcx.2 hy.1)
        rw [if_pos hy, List.filter_cons_of_neg hxn, List.filter_cons_of_neg hxn, List.filter_cons_of_pos hy]
      · rw [if_neg hy]
        by_cases hcx : sameRank le c x = true
        · rw [List.filter_cons_of_pos hcx, List.filter_cons_of_pos hcx, List.filter_cons_of_neg hy]
        · rw [List.filter_cons_of_neg hcx, List.filter_cons_of_neg hcx, List.filter_cons_of_neg hy]
theorem isort_pair (h : TotalLe le) : ∀ l : List α, (isort le l).Pairwise (fun a b => le a b = true)
  | [] => List.Pairwise.nil
  | x :: xs => insL_pair h (isort_pair h xs)
theorem isort_filter (h : TotalLe le) (c : α) : ∀ l : List α, (isort le l).filter (sameRank le c) = l.filter (sameRank le c)
  | [] => rfl
  | x :: xs => by
    rw [isort, insL_filter h c x (isort le xs), List.filter_cons, List.filter_cons, isort_filter h c xs]
theorem isort_eq (h : TotalLe le) (l : List α) : isort le l = l.mergeSort le := sort_unique h (isort_pair h l) (fun c => isort_filter h c l)
end
def leD (a b : D) : Bool := dataLe false toP a b
theorem leD_total : TotalLe leD := sortLe_total (PyProof.Rows.listOrd PyProof.Rows.itemOrd) false (fun b => keyToks (toP b))
theorem leD_eq {a b : D} (ha : D.pl 60 a = true) (hb : D.pl 60 b = true) (h : D.alike b a = true) : leD a b = !D.lt b a := by
  show (!dataLt (toP b) (toP a)) = _
  rw [← lt_toP 60 60 b a hb ha h]
theorem insD_eq (x : D) : ∀ (l : List D), (∀ y ∈ l, D.pl 60 y = true ∧ D.alike y x = true) → D.pl 60 x = true → insD x l = insL leD x l
  | [], _, _ => rfl
  | y :: ys, h, hx => by
    obtain ⟨h1, h2⟩ := h y List.mem_cons_self
    unfold insD insL
    rw [insD_eq x ys (fun z hz => h z (List.mem_cons_of_mem _ hz)) hx, leD_eq hx h1 h2]
    cases D.lt y x <;> rfl
theorem sortD_mem {z : D} : ∀ {l : List D}, z ∈ sortD l → z ∈ l
  | [], h => by simp [sortD] at h
  | x :: xs, h => by
    have key : ∀ {l : List D}, z ∈ insD x l → z = x ∨ z ∈ l := by
      intro l
      induction l with
      | nil => intro h; simp [insD] at h; exact .inl h
      | cons y ys ih =>
        intro h
        unfold insD at h
        split at h
        · rcases List.mem_cons.mp h with rfl | h
          · exact .inr List.mem_cons_self
          · rcases ih h with rfl | h
            · exact .inl rfl
            · exact .inr (List.mem_cons_of_mem _ h)
        · rcases List.mem_cons.mp h with rfl | h
          · exact .inl rfl
          · exact .inr h
    rcases key h with rfl | h
    · exact List.mem_cons_self
    · exact List.mem_cons_of_mem _ (sortD_mem h)
theorem sortD_isort : ∀ (l : List D), (∀ a ∈ l, D.pl 60 a = true) → (∀ a ∈ l, ∀ b ∈ l, D.alike a b = true) → sortD l = isort leD l
  | [], _, _ => rfl
  | x :: xs, h1, h2 => by
    have ih := sortD_isort xs (fun a ha => h1 a (List.mem_cons_of_mem _ ha)) (fun a ha b hb => h2 a (List.mem_cons_of_mem _ ha) b (List.mem_cons_of_mem _ hb))
    rw [sortD, isort, ← ih]
    exact insD_eq x _ (fun y hy => ⟨h1 y (List.mem_cons_of_mem _ (sortD_mem hy)), h2 y (List.mem_cons_of_mem _ (sortD_mem hy)) x List.mem_cons_self⟩) (h1 x List.mem_cons_self)
theorem sortable_all {ds : List D} (h : sortable ds = true) : (∀ a ∈ ds, D.pl 60 a = true) ∧ (∀ a ∈ ds, ∀ b ∈ ds, D.alike a b = true) ∧ ((∀ a ∈ ds, D.isTup1 a = true) ∨ ∀ a ∈ ds, D.noTup a = true) := by
  unfold sortable at h
  simp only [Bool.and_eq_true, Bool.or_eq_true, List.all_eq_true] at h
  exact ⟨h.1.1, h.1.2, h.2⟩
theorem sortD_merge {ds : List D} (h : sortable ds = true) : sortD ds = ds.mergeSort leD := by
  obtain ⟨h1, h2, _⟩ := sortable_all h
  rw [sortD_isort ds h1 h2, isort_eq leD_total]
/-- sorted(xs), by values: the places' values with their data -/
def rSortD (K : PySem.W.Frag) : List V → Hp → VK → Prop := fun vs H Q => ∃ (a : Addr) (us : List V) (ds : List D), vs = [V.ref a] ∧ (SqL K H a us ∨ SqT K H a us) ∧ us.length = ds.length ∧ (∀ p ∈ us.zip ds, Dp K H p.1 (toP p.2)) ∧ sortable ds = true ∧
  ∀ p, H p = none → Q (.ref p) (upd H p (.lst (((us.zip ds).mergeSort (dataLe false fun z => toP z.2)).map Prod.fst)))
theorem eachIs_vals {ps : List (V × D)} {us : List Value} (h : EachIs (fun u (p : V × D) => RelV p.1 u) us ps) : Vals (ps.map Prod.fst) us := by
  induction h with
  | nil => exact .nil
  | cons h _ ih => exact .cons h ih
theorem vals_eachIs {Z : Value → V × D → Prop} : ∀ {us : List V} {ws : List Value} {ds : List D}, Vals us ws → us.length = ds.length → (∀ p ∈ us.zip ds, ∀ w, RelV p.1 w → Z w p) → EachIs Z ws (us.zip ds)
  | [], _, [], .nil, _, _ => .nil
  | u :: us, _, d :: ds, .cons r t, h, k => .cons (k (u, d) List.mem_cons_self _ r) (vals_eachIs t (by simpa using h) fun p hp w hw => k p (List.mem_cons_of_mem _ hp) w hw)
theorem cr_sortD {X : Cx} (hu : X.A.units + 100 < cLine) : CallR X (.builtin "sorted") (rSortD X.K) := by
  intro pins s σ H vs us Q I r h
  obtain ⟨a, xs, ds, rfl, hs, hl, hd, so, q⟩ := h
  rw [Vals.ref1 r]
  obtain ⟨p1, p2, p3⟩ := sortable_all so
  have key : ∀ (its : List Value), Vals xs its → xs.length ≤ sizeLine →
      (∀ out : List Value, out.length = (xs.zip ds).length → EachIs (fun u (p : V × D) => RelV p.1 u) out ((xs.zip ds).mergeSort (dataLe false fun z => toP z.2)) → EP X pins σ Q (.ref (s.heap.objs.size + 1)) { s with heap := PyProof.Rows.sortedAll s.heap its (List.toArray out) }) := fun its rv hz out ho he => by
    obtain ⟨ep, he'⟩ := PyProof.Rows.sortedAll_at s.heap its out.toArray
    have rv' := eachIs_vals he
    refine ⟨.ref _, upd H (s.heap.objs.size + 1) (.lst _), I.laid (t' := s.toks) (fun _ _ => PyProof.Rows.sortedAll_old) (Nat.le_succ _) ⟨?_, out, ep, rv', he'⟩, rfl, q _ (I.hok.fresh (Nat.le_succ _))⟩
    rw [rv'.length, ho, List.length_zip]
    omega
  have zl : (xs.zip ds).length = xs.length := by rw [List.length_zip]; omega
  have zmem : ∀ p ∈ xs.zip ds, p.2 ∈ ds := fun p hp => (List.of_mem_zip hp).2
  have al : AllAlike ((xs.zip ds).map fun z => toP z.2) := fun d hd e he => by
    obtain ⟨p, hp, rfl⟩ := List.mem_map.mp hd
    obtain ⟨q', hq, rfl⟩ := List.mem_map.mp he
    rw [alike_toP 60 60 _ _ (p1 _ (zmem _ hp)) (p1 _ (zmem _ hq))]
    exact p2 _ (zmem _ hp) _ (zmem _ hq)
  have sb : Sortable ((xs.zip ds).map fun z => toP z.2) := by
    rcases p3 with p3 | p3
    · refine .inl fun d hd => ?_
      obtain ⟨p, hp, rfl⟩ := List.mem_map.mp hd
      have := p3 _ (zmem _ hp)
      generalize p.2 = z at this
      cases z with
      | tup l =>
        cases l with
        | nil => simp [D.isTup1] at this
        | cons x r => exact ⟨toP x, toPs r, by simp [toP, toPs]⟩
      | _ => simp [D.isTup1] at this
    · refine .inr fun d hd => ?_
      obtain ⟨p, hp, rfl⟩ := List.mem_map.mp hd
      have := p3 _ (zmem _ hp)
      have := p1 _ (zmem _ hp)
      generalize p.2 = z at *
      cases z <;> simp_all [D.noTup, toP, D.pl]
  have ub : ∀ b, b ∈ xs.zip ds → X.A.units + 2 + (toP b.2).depth < cLine := fun b hb => by
    have := (lay_toP 60 b.2 (p1 _ (zmem _ hb))).2
    omega
  have rd : ∀ (its : List Value), Vals xs its → EachIs (fun v (b : V × D) => ∃ as, Reads s.heap v (toP b.2) as) its (xs.zip ds) := fun its rv => vals_eachIs rv hl fun p hp w hw => Dp.reads I _ _ _ (hd p hp) hw
  have e0 : ∀ (its : List Value), Vals xs its → EachIs (fun u (p : V × D) => RelV p.1 u) its (xs.zip ds) := fun its rv => vals_eachIs rv hl fun p _ w hw => hw
  rcases hs with hs | hs
  · obtain ⟨its, rv, pl, hz⟩ := I.list hs
    exact sorted_data (enc := fun z : V × D => toP z.2) pl.isList (e0 its rv) (rd its rv) al sb (by omega) ub (key its rv hz)
  · obtain ⟨its, rv, pl, hz⟩ := I.tuple hs
    have er' : EachIs (fun v (b : V × D) => ∃ as, Reads (sortingHeap (copyHeap s.heap its) (s.heap.objs.size + 1) its) v (toP b.2) as) its (xs.zip ds) := (rd its rv).mono fun _ _ ⟨as, r⟩ => ⟨as, PyProof.Rows.Reads.keeps (fun _ _ => sorting_copy_old) r⟩
    refine sorted_of_tup pl (by rw [← rv.length]; exact hz) fun E' => list_sort_vals (κ := dataKind _ ((xs.zip ds).map fun z => toP z.2)) (s := { s with heap := copyHeap s.heap its }) (copyHeap_at s.heap its)
      (SortsAt.data (s := { s with heap := sortingHeap (copyHeap s.heap its) (s.heap.objs.size + 1) its }) (each_map (R := fun v d => ∃ as, Reads (sortingHeap (copyHeap s.heap its) (s.heap.objs.size + 1) its) v d as) (fun z : V × D => toP z.2) er') al sb (by
        intro d hd
        obtain ⟨p, hp, rfl⟩ := List.mem_map.mp hd
        exact ub p hp)) (by rw [← rv.length]; exact hz) ⟨rfl, key its rv hz _ (by rw [sortVals_length false rfl, ← rv.length, zl]) (sortVals_data false (enc := fun z : V × D => toP z.2) (e0 its rv) er' al)⟩
end Mi
end

section
set_option linter.all false
set_option maxRecDepth 100000
set_option autoImplicit false
/-! Mi: built-in functions, by values. -/
namespace Mi
open PySem L2
variable [Cls]
section
variable {X : Cx} {XR : XRel} {F : Addr → Prop} {H : Hp} {ms : List Addr} {st : Sto} {Q : VK} {E : XK}
theorem intsOf_eq : ∀ {ds : List D} {l : List Int}, intsOf ds = some l → ds = l.map D.int
  | [], _, h => by cases h; rfl
  | d :: ds, l, h => by
    cases d <;> simp only [intsOf] at h <;> try cases h
    rename_i i
    simp only [Option.map_eq_some_iff] at h
    obtain ⟨r, h, rfl⟩ := h
    rw [intsOf_eq h]
    rfl
theorem blsOf_eq : ∀ {ds : List D} {l : List Bool}, blsOf ds = some l → ds = l.map D.bl
  | [], _, h => by cases h; rfl
  | d :: ds, l, h => by
    cases d <;> simp only [blsOf] at h <;> try cases h
    rename_i i
    simp only [Option.map_eq_some_iff] at h
    obtain ⟨r, h, rfl⟩ := h
    rw [blsOf_eq h]
    rfl
theorem rps_ints {mt : Addr → Prop} : ∀ {l : List Int} {vs : List V}, Rps H mt ms (l.map D.int) vs → vs = l.map V.int
  | [], _, h => by simpa only [List.map_nil, Rps] using h
  | i :: l, _, h => by
    obtain ⟨v, r, rfl, h1, h⟩ := Rps.uncons (d := D.int i) (ds := l.map D.int) h
    simp only [Rp] at h1
    rw [h1, rps_ints h]
    rfl
theorem rps_bls {mt : Addr → Prop} : ∀ {l : List Bool} {vs : List V}, Rps H mt ms (l.map D.bl) vs → vs = l.map V.bl
  | [], _, h => by simpa only [List.map_nil, Rps] using h
  | i :: l, _, h => by
    obtain ⟨v, r, rfl, h1, h⟩ := Rps.uncons (d := D.bl i) (ds := l.map D.bl) h
    simp only [Rp] at h1
    rw [h1, rps_bls h]
    rfl
/-- the built-in functions that are served -/
def okF : Bf → Bool
  | .len => true | .abs => true | .int => true | .list => true | .listM => true | .tuple => true | .sorted => true | .min => true | .max => true | .sum => true | .all => true | .any => true | .tupleS => true
  | _ => false
def nF : Bf → PySem.Str
  | .len => "len" | .abs => "abs" | .int => "int" | .list => "list" | .listM => "list" | .tuple => "tuple" | .sorted => "sorted" | .min => "min" | .max => "max" | .sum => "sum" | .all => "all" | .any => "any"
  | .isinst _ => "isinstance" | .sortset => "sorted" | .lenset => "len" | .tupleS => "tuple" | .minS => "min" | .maxS => "max" | .sumL => "sum" | .vals => "list" | .dictP => "list"
def vF : Bf → Value
  | .len => .builtin "len" | .abs => .builtin "abs" | .int => .type "int" | .list => .type "list" | .listM => .type "list" | .tuple => .type "tuple" | .sorted => .builtin "sorted" | .min => .builtin "min" | .max => .builtin "max"
  | .sum => .builtin "sum" | .all => .builtin "all" | .any => .builtin "any" | .isinst _ => .builtin "isinstance" | .sortset => .builtin "sorted" | .lenset => .builtin "len" | .tupleS => .type "tuple" | .minS => .builtin "min" | .maxS => .builtin "max" | .sumL => .builtin "sum" | .vals => .type "list" | .dictP => .type "list"
theorem boot_abs' : bootBuiltins "abs" = some (.builtin "abs") := by decide +kernel
theorem bootF (f : Bf) : bootBuiltins (nF f) = some (vF f) := by
  cases f <;> first | exact PySem.boot_len | exact boot_abs' | exact PyProof.Rows.boot_int | exact PyProof.Rows.boot_list | exact PyProof.Rows.boot_tuple | exact PyProof.Rows.boot_sorted | exact PyProof.Rows.boot_min | exact PyProof.Rows.boot_max | exact PyProof.Rows.boot_sum | exact PyProof.Rows.boot_all | exact PyProof.Rows.boot_any | exact PyProof.Rows.boot_isinstance
theorem nF_name (f : Bf) : nF f ≠ ("__name__" : PySem.Str) := by
  cases f <;> simp only [nF] <;> decide
theorem nF_debug (f : Bf) : (nF f == ("__debug__" : PySem.Str)) = false := by
  cases f <;> simp only [nF] <;> decide
/-- the signs of a text, as texts -/
def sgs (x : PySem.Str) : List V := x.cps.toList.map fun c => V.str ⟨#[c]⟩
def rTupS : List V → Hp → VK → Prop := fun xs H Q => ∃ x : PySem.Str, xs = [.str x] ∧ x.cps.size ≤ sizeLine ∧ ∀ p, H p = none → Q (.ref p) (upd H p (.tup (sgs x)))
theorem vals_get : ∀ {xs : List V} {us : List Value}, xs.length = us.length → (∀ (i : Nat) (x : V) (u : Value), xs[i]? = some x → us[i]? = some u → RelV x u) → Vals xs us
  | [], [], _, _ => .nil
  | [], _ :: _, h, _ => by simp at h
  | _ :: _, [], h, _ => by simp at h
  | x :: xs, u :: us, h, k => .cons (k 0 x u rfl rfl) (vals_get (by simpa using h) fun i y v h1 h2 => k (i + 1) y v (by simpa using h1) (by simpa using h2))
theorem cr_tupS {X : Cx} (hc : X.calm = true) : CallR X (.type "tuple") rTupS := by
  intro pins s σ H xs us Q I r h
  obtain ⟨x, rfl, hz, q⟩ := h
  obtain ⟨u, rfl, t, rfl⟩ : ∃ u, us = [u] ∧ RelV (.str x) u := by
    cases r with
    | cons r1 r2 => cases r2; exact ⟨_, rfl, r1⟩
  refine call_tuple_str (hsz := hz) (I.ok.hd hc) x t fun h' tk acc hk hacc => ?_
  have I1 : L2.Inv X pins σ H { s with heap := h', toks := tk } := I.kept hk
  have hn : (sgs x).length = acc.toList.length := by simp [sgs, hacc.1]
  have rv : Vals (sgs x) acc.toList := vals_get hn fun i y u h1 h2 => by
    obtain ⟨c, t', hcx, rfl⟩ := hacc.2 i u (by simpa using h2)
    unfold sgs at h1
    rw [List.getElem?_map] at h1
    have e : x.cps.toList[i]? = some c := by simpa using hcx
    rw [e] at h1
    cases h1
    exact ⟨t', rfl⟩
  refine ⟨.ref h'.objs.size, upd H h'.objs.size (.tup (sgs x)), I1.laid (fun b o e => Heap.get?_push_of_some _ e) (Nat.le_refl _) ?_, rfl, q _ (I1.hok.fresh (Nat.le_refl _))⟩
  exact ⟨by simpa [sgs] using hz, acc.toList, rv, ⟨_, Heap.get?_push_size _ rfl, rfl, 0, by simp⟩⟩
def rF (K : PySem.W.Frag) : Bf → List V → Hp → VK → Prop
  | .len => fun xs H Q => (∃ x n, xs = [x] ∧ LenV K x H n ∧ Q (.int n) H) ∨ ∃ a kvs, xs = [.ref a] ∧ Rd H a (.dK kvs) ∧ Q (.int kvs.length) H
  | .abs => fun xs H Q => ∃ i, xs = [.int i] ∧ Q (.int (if i < 0 then -i else i)) H
  | .int => fun xs H Q => (∃ i, xs = [.int i] ∧ Q (.int i) H) ∨ ∃ k, xs = [.bl k] ∧ Q (.int (if k then 1 else 0)) H
  | .list => fun xs H Q => ∃ p ys, xs = [.ref p] ∧ (SqL K H p ys ∨ SqT K H p ys) ∧ ∀ l, H l = none → Q (.ref l) (upd H l (.lst ys))
  | .listM => fun xs H Q => ∃ p ys, xs = [.ref p] ∧ (SqL K H p ys ∨ SqT K H p ys) ∧ ∀ l, H l = none → Q (.ref l) (upd H l (.lst ys))
  | .tuple => fun xs H Q => ∃ p ys, xs = [.ref p] ∧ ((SqL K H p ys ∧ ∀ l, H l = none → Q (.ref l) (upd H l (.tup ys))) ∨ (SqT K H p ys ∧ Q (.ref p) H))
  | .sorted => rSortD K
  | .min => fun xs H Q => (∃ i j, xs = [.int i, .int j] ∧ Q (.int (if j < i then j else i)) H) ∨ rMin K xs H Q
  | .max => fun xs H Q => (∃ i j, xs = [.int i, .int j] ∧ Q (.int (if j > i then j else i)) H) ∨ rMax K xs H Q
  | .sum => rSum K
  | .all => rAll K
  | .any => rAny K
  | .tupleS => rTupS
  | _ => fun _ _ _ => False
theorem call_lenK : CallR X (.builtin "len") (fun xs H Q => ∃ a kvs, xs = [.ref a] ∧ Rd H a (.dK kvs) ∧ Q (.int kvs.length) H) := by
  intro pins s σ H xs us Q I r h
  obtain ⟨a, kvs, rfl, e, q⟩ := h
  rw [Vals.ref1 r]
  exact d_len I e fun t s' I' => ⟨.int _, H, I', ⟨t, rfl⟩, q⟩
theorem opF (hc : X.calm = true) (hu : X.A.units + 100 < cLine) (f : Bf) : CallR X (vF f) (rF X.K f) := by
  cases f with
  | len => exact call_len.or call_lenK
  | abs => exact call_abs
  | int => exact call_int1
  | list => exact call_list_of
  | listM => exact call_list_of
  | tuple => exact call_tuple_of
  | sorted => exact cr_sortD hu
  | min => exact (call_min2 hc).or (cr_min hc)
  | max => exact (call_max2 hc).or (cr_max hc)
  | sum => exact cr_sum hc
  | all => exact cr_all hc
  | any => exact cr_any hc
  | tupleS => exact cr_tupS hc
  | _ => intro pins s σ H xs us Q I r h; exact h.elim
theorem rps1 {mt : Addr → Prop} {d : D} {vs : List V} (h : Rps H mt ms [d] vs) : ∃ v, vs = [v] ∧ Rp H mt ms d v := by
  obtain ⟨v, r, rfl, h1, h⟩ := h.uncons
  simp only [Rps] at h
  subst h
  exact ⟨v, rfl, h1⟩
theorem rps2 {mt : Addr → Prop} {d e : D} {vs : List V} (h : Rps H mt ms [d, e] vs) : ∃ v w, vs = [v, w] ∧ Rp H mt ms d v ∧ Rp H mt ms e w := by
  obtain ⟨v, r, rfl, h1, h⟩ := h.uncons
  obtain ⟨w, rfl, h2⟩ := rps1 h
  exact ⟨v, w, rfl, h1, h2⟩
theorem minI_spec : ∀ (l : List Int) (m : Int), minI m l ∈ m :: l ∧ ∀ y, y ∈ m :: l → minI m l ≤ y
  | [], m => by simp [minI]
  | x :: l, m => by
    obtain ⟨h1, h2⟩ := minI_spec l (if x < m then x else m)
    unfold minI
    constructor
    · rcases List.mem_cons.mp h1 with h1 | h1
      · rw [h1]; split <;> simp
      · exact List.mem_cons_of_mem _ (List.mem_cons_of_mem _ h1)
    · intro y hy
      have h0 := h2 _ List.mem_cons_self
      rcases List.mem_cons.mp hy with rfl | hy
      · split at h0 <;> split <;> omega
      · rcases List.mem_cons.mp hy with rfl | hy
        · split at h0 <;> split <;> omega
        · exact h2 y (List.mem_cons_of_mem _ hy)
theorem maxI_spec : ∀ (l : List Int) (m : Int), maxI m l ∈ m :: l ∧ ∀ y, y ∈ m :: l → y ≤ maxI m l
  | [], m => by simp [maxI]
  | x :: l, m => by
    obtain ⟨h1, h2⟩ := maxI_spec l (if m < x then x else m)
    unfold maxI
    constructor
    · rcases List.mem_cons.mp h1 with h1 | h1
      · rw [h1]; split <;> simp
      · exact List.mem_cons_of_mem _ (List.mem_cons_of_mem _ h1)
    · intro y hy
      have h0 := h2 _ List.mem_cons_self
      rcases List.mem_cons.mp hy with rfl | hy
      · split at h0 <;> split <;> omega
      · rcases List.mem_cons.mp hy with rfl | hy
        · split at h0 <;> split <;> omega
        · exact h2 y (List.mem_cons_of_mem _ hy)
theorem rps_sorted {K : PySem.W.Frag} {ds : List D} {vs : List V} (r : Rps H (Mt F ms st) ms ds vs) (so : sortable ds = true) : Rps H (Mt F ms st) ms (sortD ds) (((vs.zip ds).mergeSort (PySem.W.dataLe false fun z => toP z.2)).map Prod.fst) := by
  have hl := r.length
  have e : sortD ds = ((vs.zip ds).mergeSort (PySem.W.dataLe false fun z : V × D => toP z.2)).map Prod.snd := by
    rw [sortD_merge so, PySem.W.sort_maps (r := PySem.W.dataLe false fun z : V × D => toP z.2) (s := leD) Prod.snd (fun a _ b _ => rfl), List.map_snd_zip (by omega)]
  have mem : ∀ p ∈ vs.zip ds, Rp H (Mt F ms st) ms p.2 p.1 := by
    have key : ∀ (ds : List D) (vs : List V), Rps H (Mt F ms st) ms ds vs → ∀ p ∈ vs.zip ds, Rp H (Mt F ms st) ms p.2 p.1 := by
      intro ds
      induction ds with
      | nil => intro vs _ p hp; simp at hp
      | cons d ds ih =>
        intro vs h p hp
        obtain ⟨v, r, rfl, h1, h⟩ := h.uncons
        rcases List.mem_cons.mp hp with rfl | hp
        · exact h1
        · exact ih r h p hp
    exact key ds vs r
  rw [e]
  have : ∀ (l : List (V × D)), (∀ p ∈ l, Rp H (Mt F ms st) ms p.2 p.1) → Rps H (Mt F ms st) ms (l.map Prod.snd) (l.map Prod.fst) := by
    intro l
    induction l with
    | nil => intro _; exact Rps.nil
    | cons p l ih => intro h; exact Rps.cons (h p List.mem_cons_self) (ih fun q hq => h q (List.mem_cons_of_mem _ hq))
  exact this _ fun p hp => mem p (List.mem_mergeSort.mp hp)
theorem sortD_len {ds : List D} (so : sortable ds = true) : (sortD ds).length = ds.length := by
  rw [sortD_merge so, List.length_mergeSort]
theorem tup_ok {K : PySem.W.Frag} {d : D} {v : V} (s : Sm F H ms st) (r : Rp H (Mt F ms st) ms d v) (h : Pst XR F Rp (match seqOf st d with
    | some ds => .ok (.tup ds) st
    | none => .stuck) H ms st Q E) : rF K .tuple [v] H Q := by
  split at h
  · rename_i ds hs
    cases d with
    | tup es =>
      simp only [seqOf, Option.some.injEq] at hs; subst hs
      have r0 := r
      simp only [Rp] at r
      obtain ⟨a, us, rfl, n, e, z, rr⟩ := r
      exact ⟨a, us, rfl, .inr ⟨.inl (.inl e), h.ok s r0⟩⟩
    | lst es =>
      simp only [seqOf, Option.some.injEq] at hs; subst hs
      simp only [Rp] at r
      obtain ⟨a, us, rfl, n, e, z, rr⟩ := r
      exact ⟨a, us, rfl, .inl ⟨.inl (.inl e), fun p hp => Pst.newV (ds := []) (vs := []) h s hp (rp_newT s hp rr z)⟩⟩
    | ref n =>
      simp only [Rp] at r
      obtain ⟨a, rfl, ha⟩ := r
      simp only [seqOf] at hs
      split at hs
      · rename_i es hd
        cases hs
        obtain ⟨us, e, z, rr⟩ := s.at_ n a _ ha hd
        exact ⟨a, us, rfl, .inl ⟨.inl (.inl e), fun p hp => Pst.newV (ds := []) (vs := []) h s hp (rp_newT s hp rr z)⟩⟩
      · rename_i es hd
        cases hs
        obtain ⟨us, e, z, rr⟩ := s.at_ n a _ ha hd
        exact ⟨a, us, rfl, .inl ⟨.inl e, fun p hp => Pst.newV (ds := []) (vs := []) h s hp (rp_newT s hp rr z)⟩⟩
      · cases hs
    | _ => simp [seqOf] at hs
  · exact h.elim
theorem rps_sgs {mt : Addr → Prop} : ∀ c : Cs, Rps H mt ms (c.map fun x => D.str [x]) (c.map fun x => V.str ⟨#[x]⟩)
  | [] => Rps.nil
  | x :: c => by
    rw [List.map_cons, List.map_cons]
    refine Rps.cons ?_ (rps_sgs c)
    simp only [Rp]
    exact ⟨rfl, by rw [← big_eq]; show 1 ≤ big; decide⟩
theorem bltD_ok {K : PySem.W.Frag} {f : Bf} {ds : List D} {vs : List V} (ok : okF f = true) (s : Sm F H ms st) (r : Rps H (Mt F ms st) ms ds vs) (h : Pst XR F Rp (bltD st f ds) H ms st Q E) : rF K f vs H Q := by
  unfold bltD at h
  split at h
  · -- len str
    obtain ⟨v, rfl, q1⟩ := rps1 r
    replace r := q1
    simp only [Rp] at r
    obtain ⟨rfl, z⟩ := r
    exact .inl ⟨_, _, rfl, ⟨by show (tx _).cps.size ≤ _; simpa [tx] using z, rfl⟩, h.ok s (by simp only [Rp]; show V.int _ = V.int _; simp [tx, PySem.Str.length])⟩
  · obtain ⟨v, rfl, q1⟩ := rps1 r
    replace r := q1
    split at h
    · rename_i ds hs
      obtain ⟨a, us, rfl, hq, z, rr⟩ := seqOf_rp (K := K) s r hs
      exact .inl ⟨_, us.length, rfl, hq.imp (fun q => ⟨us, q, rfl⟩) (fun q => ⟨us, q, rfl⟩), h.ok s (by simp only [Rp]; rw [rr.length])⟩
    · split at h
      · rename_i ks es hd
        obtain ⟨a, us, rfl, hq, z, rr⟩ := dctOf_rp s r hd
        refine .inr ⟨_, _, rfl, hq, h.ok s ?_⟩
        simp only [Rp]
        rw [List.length_zip, List.length_map, ← rr.length, z, Nat.min_self]
      · exact h.elim
  · obtain ⟨v, rfl, q1⟩ := rps1 r
    replace r := q1
    simp only [Rp] at r; subst r
    exact ⟨_, rfl, h.ok s (by simp only [Rp])⟩
  · obtain ⟨v, rfl, q1⟩ := rps1 r
    replace r := q1
    simp only [Rp] at r; subst r
    exact .inl ⟨_, rfl, h.ok s (by simp only [Rp])⟩
  · obtain ⟨v, rfl, q1⟩ := rps1 r
    replace r := q1
    simp only [Rp] at r; subst r
    exact .inr ⟨_, rfl, h.ok s (by simp only [Rp])⟩
  · obtain ⟨v, rfl, q1⟩ := rps1 r
    replace r := q1
    split at h
    · rename_i ds hs
      obtain ⟨a, us, rfl, hq, z, rr⟩ := seqOf_rp (K := K) s r hs
      exact ⟨a, us, rfl, hq, fun p hp => Pst.newV (ds := []) (vs := []) h s hp (rp_newL s hp rr z)⟩
    · exact h.elim
  · obtain ⟨v, rfl, q1⟩ := rps1 r
    replace r := q1
    split at h
    · rename_i ds hs
      obtain ⟨a, us, rfl, hq, z, rr⟩ := seqOf_rp (K := K) s r hs
      have hh : Pst XR F Rp (newList true ds st) H ms st Q E := by
        unfold newList
        rw [if_pos (by rw [big_eq]; exact z)]
        exact h
      exact ⟨a, us, rfl, hq, (newList_ok hh s rr).2⟩
    · exact h.elim
  · obtain ⟨v, rfl, r1⟩ := rps1 r
    simp only [Rp] at r1
    obtain ⟨rfl, hz⟩ := r1
    split at h
    · rename_i c hb
      have e : (tx c).cps.toList = c := by simp [tx]
      refine ⟨tx c, rfl, by simpa [tx] using hz, fun p hp => ?_⟩
      refine h (.ref p) _ ms (later_new s hp) (s.new hp) (rp_newT s hp ?_ (by rw [List.length_map]; exact hz))
      unfold sgs
      rw [e]
      exact rps_sgs c
    · exact h.elim
  · obtain ⟨v, rfl, q1⟩ := rps1 r
    exact tup_ok s q1 h
  · obtain ⟨v, rfl, q1⟩ := rps1 r
    replace r := q1
    split at h
    · rename_i ds hs
      split at h
      · rename_i so
        obtain ⟨a, us, rfl, hq, z, rr⟩ := seqOf_rp (K := K) s r hs
        obtain ⟨p1, _, _⟩ := sortable_all so
        refine ⟨a, us, ds, rfl, hq, rr.length.symm, fun p hp => ?_, so, fun p hp => Pst.newV (ds := []) (vs := []) h s hp (rp_newL s hp (rps_sorted (K := K) rr so) (by rw [sortD_len so]; exact z))⟩
        have key : ∀ (ds : List D) (us : List V), Rps H (Mt F ms st) ms ds us → (∀ a ∈ ds, D.pl 60 a = true) → ∀ p ∈ us.zip ds, Dp K H p.1 (toP p.2) := by
          intro ds
          induction ds with
          | nil => intro us _ _ p hp; simp at hp
          | cons d ds ih =>
            intro us h hpl p hp
            obtain ⟨v, r, rfl, h1, h⟩ := h.uncons
            rcases List.mem_cons.mp hp with rfl | hp
            · exact Rp.dp 60 _ _ h1 (hpl d List.mem_cons_self)
            · exact ih r h (fun a ha => hpl a (List.mem_cons_of_mem _ ha)) p hp
        exact key ds us rr p1 p hp
      · exact h.elim
    · exact h.elim
  · simp [okF] at ok
  · simp [okF] at ok
  · simp [okF] at ok
  · simp [okF] at ok
  · obtain ⟨v, w, rfl, r1, r2⟩ := rps2 r
    simp only [Rp] at r1 r2; subst r1 r2
    exact .inl ⟨_, _, rfl, h.ok s (by simp only [Rp])⟩
  · obtain ⟨v, w, rfl, r1, r2⟩ := rps2 r
    simp only [Rp] at r1 r2; subst r1 r2
    exact .inl ⟨_, _, rfl, h.ok s (by simp only [Rp])⟩
  · simp [okF] at ok
  · simp [okF] at ok
  · obtain ⟨v, rfl, q1⟩ := rps1 r
    replace r := q1
    split at h
    · rename_i i l hs
      simp only [Option.bind_eq_some_iff] at hs
      obtain ⟨ds, hs, hi⟩ := hs
      obtain ⟨a, us, rfl, e, z, rr⟩ := lstOf_rp s r hs
      rw [intsOf_eq hi] at rr
      have eu := rps_ints rr
      subst eu
      refine .inr ⟨a, i :: l, rfl, .inl (.inl e), by simp, fun m h1 h2 => ?_⟩
      obtain ⟨m1, m2⟩ := minI_spec l i
      have : m = minI i l := by
        have a1 := h2 _ m1
        have a2 := m2 _ h1
        omega
      subst this
      exact h.ok s (by simp only [Rp])
    · exact h.elim
  · obtain ⟨v, rfl, q1⟩ := rps1 r
    replace r := q1
    split at h
    · rename_i i l hs
      simp only [Option.bind_eq_some_iff] at hs
      obtain ⟨ds, hs, hi⟩ := hs
      obtain ⟨a, us, rfl, e, z, rr⟩ := lstOf_rp s r hs
      rw [intsOf_eq hi] at rr
      have eu := rps_ints rr
      subst eu
      refine .inr ⟨a, i :: l, rfl, .inl (.inl e), by simp, fun m h1 h2 => ?_⟩
      obtain ⟨m1, m2⟩ := maxI_spec l i
      have : m = maxI i l := by
        have a1 := h2 _ m1
        have a2 := m2 _ h1
        omega
      subst this
      exact h.ok s (by simp only [Rp])
    · exact h.elim
  · obtain ⟨v, rfl, q1⟩ := rps1 r
    replace r := q1
    split at h
    · rename_i l hs
      simp only [Option.bind_eq_some_iff] at hs
      obtain ⟨ds, hs, hi⟩ := hs
      obtain ⟨a, us, rfl, e, z, rr⟩ := lstOf_rp s r hs
      rw [intsOf_eq hi] at rr
      have eu := rps_ints rr
      subst eu
      exact ⟨a, l, rfl, .inl (.inl e), h.ok s (by simp only [Rp])⟩
    · exact h.elim
  · simp [okF] at ok
  · obtain ⟨v, rfl, q1⟩ := rps1 r
    replace r := q1
    split at h
    · rename_i l hs
      simp only [Option.bind_eq_some_iff] at hs
      obtain ⟨ds, hs, hi⟩ := hs
      obtain ⟨a, us, rfl, e, z, rr⟩ := lstOf_rp s r hs
      rw [blsOf_eq hi] at rr
      have eu := rps_bls rr
      subst eu
      exact ⟨a, l, rfl, .inl (.inl e), h.ok s (by simp only [Rp])⟩
    · exact h.elim
  · obtain ⟨v, rfl, q1⟩ := rps1 r
    replace r := q1
    split at h
    · rename_i l hs
      simp only [Option.bind_eq_some_iff] at hs
      obtain ⟨ds, hs, hi⟩ := hs
      obtain ⟨a, us, rfl, e, z, rr⟩ := lstOf_rp s r hs
      rw [blsOf_eq hi] at rr
      have eu := rps_bls rr
      subst eu
      exact ⟨a, l, rfl, .inl (.inl e), h.ok s (by simp only [Rp])⟩
    · exact h.elim
  · simp [okF] at ok
  · exact h.elim
end
end Mi
end

section
set_option linter.all false
set_option maxRecDepth 100000
set_option autoImplicit false
/-! Mi: expressions of the text, read by the run. -/
namespace Mi
open PySem L2
variable [Cls]
theorem PE.imp {X : Cx} {e : Expr} {t t' : TE} (h : PE X e t) (k : ∀ σ H Q, t' σ H Q → t σ H Q) : PE X e t' := ⟨fun pins s σ H Q I q => h.run pins s σ H Q I (k σ H Q q)⟩
theorem PT.imp {X : Cx} {e : Expr} {t t' : TT} (h : PT X e t) (k : ∀ σ H Q, t' σ H Q → t σ H Q) : PT X e t' := ⟨fun pins s σ H Q I q => h.run pins s σ H Q I (k σ H Q q)⟩
theorem PA.imp {X : Cx} {e : List Expr} {t t' : TA} (h : PA X e t) (k : ∀ σ H Q, t' σ H Q → t σ H Q) : PA X e t' := ⟨fun pos pins s σ H Q I q => h.run pos pins s σ H Q I (k σ H Q q)⟩
def notStar : Expr → Bool
  | .Starred .. => false
  | _ => true
theorem starEach_cons {e : Expr} {es : List Expr} {env : PySem.Env} (h : notStar e = true) : starEach (e :: es) env = (false, eval e env) :: starEach es env := by
  cases e <;> first | rfl | cases h
theorem any_back {pos : Pos} {env : PySem.Env} : ∀ {es : List Expr}, es.all notStar = true → (backTo pos (starEach es env)).any (·.1) = false
  | [], _ => rfl
  | e :: es, h => by
    rw [List.all_cons, Bool.and_eq_true] at h
    rw [starEach_cons h.1]
    exact any_back (es := es) h.2
section
variable {X : Cx} {XR : XRel} {C : Nat → List D → Sto → Rs D} {E : WX}
theorem se_non {k : Nat} {pos : Pos} : PE X (.Constant .none k pos) (tE XR C E .non) := PE.imp pe_non fun σ H Q ⟨F, ρ, ms, st, sm, er, p⟩ => p.ok sm (by simp only [Rp])
theorem se_bl {b : Bool} {k : Nat} {pos : Pos} : PE X (.Constant (.bool b) k pos) (tE XR C E (.bl b)) := PE.imp pe_bl fun σ H Q ⟨F, ρ, ms, st, sm, er, p⟩ => p.ok sm (by simp only [Rp])
theorem se_int {i : Int} {k : Nat} {pos : Pos} : PE X (.Constant (.int i) k pos) (tE XR C E (.int i)) := PE.imp pe_int fun σ H Q ⟨F, ρ, ms, st, sm, er, p⟩ => p.ok sm (by simp only [Rp])
theorem se_str {c : Cs} {x : PySem.Str} {k : Nat} {pos : Pos} (h : x.cps.toList = c) (hz : c.length ≤ 1000) : PE X (.Constant (.str x) k pos) (tE XR C E (.str c)) := PE.imp pe_str fun σ H Q ⟨F, ρ, ms, st, sm, er, p⟩ => by
  refine p.ok sm ?_
  simp only [Rp]
  subst h
  exact ⟨by unfold tx; simp, by rw [← big_eq]; exact Nat.le_trans hz (by decide)⟩
theorem se_var {i : Nat} {x : PySem.Str} {pos : Pos} (hN : X.N[i]? = some x) (hv : Vis X.env.scope x) (hd : (x == ("__debug__" : PySem.Str)) = false) (hcd : (x == ("__classdict__" : PySem.Str)) = false) : PE X (.Name x pos) (tE XR C E (.var i)) := PE.imp (pe_var hN hv hd hcd) fun σ H Q ⟨F, ρ, ms, st, sm, er, p⟩ => by
  simp only [evE] at p
  split at p
  · rename_i d hd
    obtain ⟨v, e, r⟩ := er.2 i d hd
    exact ⟨v, e, p.ok sm r⟩
  · exact p.elim
/-! arguments -/
theorem sa_nil : PA X [] (tA XR C E .nil) := PA.imp pa_nil fun σ H Q ⟨F, ρ, ms, st, sm, er, p⟩ => p.ok sm Rps.nil
theorem sa_cons {a : Expr} {as : List Expr} {e : Mi.E} {es : Es} (ha : PE X a (tE XR C E e)) (hr : PA X as (tA XR C E es)) (hs : notStar a = true) : PA X (a :: as) (tA XR C E (.cons e es)) := PA.imp (pa_cons ha hr (starEach_cons hs)) fun σ H Q ⟨F, ρ, ms, st, sm, er, p⟩ => by
  refine ⟨F, ρ, ms, st, sm, er, p.bind fun d s1 v H1 ms1 _ l1 sm1 r1 p1 => ?_⟩
  refine ⟨F, ρ, ms1, s1, sm1, er.later l1, p1.bind fun ds s2 vs H2 ms2 _ l2 sm2 r2 p2 => ?_⟩
  exact p2.ok sm2 (Rps.cons (Rp.later l2 _ _ r1) r2)
/-! displays -/
theorem se_tup {as : List Expr} {es : Es} {k : Nat} {pos : Pos} (h : PA X as (tA XR C E es)) : PE X (.Tuple as k pos) (tE XR C E (.tup es)) := PE.imp (pe_tup h) fun σ H Q ⟨F, ρ, ms, st, sm, er, p⟩ => by
  refine ⟨F, ρ, ms, st, sm, er, p.bind fun ds s1 vs H1 ms1 _ l1 sm1 r1 p1 => ?_⟩
  split at p1
  · rename_i hz
    have hz' : ds.length ≤ sizeLine := by rw [← big_eq]; exact hz
    exact ⟨by rw [← r1.length]; exact hz', fun q hq => Pst.newV (ds := []) (vs := []) p1 sm1 hq (rp_newT sm1 hq r1 hz')⟩
  · exact p1.elim
theorem se_lst {m : Bool} {as : List Expr} {es : Es} {pos : Pos} (h : PA X as (tA XR C E es)) : PE X (.List as pos) (tE XR C E (.lst m es)) := PE.imp (pe_lst h) fun σ H Q ⟨F, ρ, ms, st, sm, er, p⟩ => by
  refine ⟨F, ρ, ms, st, sm, er, p.bind fun ds s1 vs H1 ms1 _ l1 sm1 r1 p1 => newList_ok p1 sm1 r1⟩
theorem newDict_ok {E : XK} {F : Addr → Prop} {H : Hp} {ms : List Addr} {st : Sto} {Q : VK} {m : Bool} {ks : List K2} {ds : List D} {vs : List V} (h : Pst XR F Rp (newDict m (ks, ds) st) H ms st Q E) (s : Sm F H ms st) {p : Addr} (hp : H p = none) (hl : ks.length = ds.length) (r : Rps H (Mt F ms st) ms ds vs) :
    Q (.ref p) (upd H p (.dK ((ks.map kOf).zip vs))) := by
  unfold newDict at h
  cases m with
  | false =>
    refine Pst.newV (ds := []) (vs := []) (by simpa using h) s hp ?_
    simp only [Rp]
    exact ⟨p, vs, rfl, s.not_mt hp, .inl upd_same, hl, Rps.later (later_new s hp) _ _ r⟩
  | true =>
    simp only [if_true] at h
    have l := later_push (u := HO.dK ((ks.map kOf).zip vs)) (o := Ob.dct ks ds) s hp
    refine h _ _ _ l (s.push hp ⟨vs, upd_same, hl, Rps.later l _ _ r⟩) ?_
    simp only [Rp]
    refine ⟨p, rfl, ?_⟩
    rw [← s.len, List.getElem?_append_right (Nat.le_refl _), Nat.sub_self]
    rfl
theorem se_dict0 {m : Bool} {pos : Pos} : PE X (.Dict [] [] pos) (tE XR C E (.dict0 m)) := PE.imp pe_dnewK fun σ H Q ⟨F, ρ, ms, st, sm, er, p⟩ q hq => by
  have := newDict_ok (vs := []) p sm hq rfl Rps.nil
  simpa using this
/-! operators -/
theorem se_bin {op : B2} {a b : Expr} {x y : Mi.E} {pos : Pos} (ha : PE X a (tE XR C E x)) (hb : PE X b (tE XR C E y)) : PE X (.BinOp a (oB op) b pos) (tE XR C E (.bin op x y)) := PE.imp (pe_op (opB op) ha hb) fun σ H Q ⟨F, ρ, ms, st, sm, er, p⟩ => by
  refine ⟨F, ρ, ms, st, sm, er, p.bind fun d s1 v H1 ms1 _ l1 sm1 r1 p1 => ?_⟩
  refine ⟨F, ρ, ms1, s1, sm1, er.later l1, p1.bind fun e s2 w H2 ms2 _ l2 sm2 r2 p2 => ?_⟩
  exact binD_ok sm2 (Rp.later l2 _ _ r1) r2 p2
theorem se_catM {a b : Expr} {x y : Mi.E} {pos : Pos} (ha : PE X a (tE XR C E x)) (hb : PE X b (tE XR C E y)) : PE X (.BinOp a .Add b pos) (tE XR C E (.catM x y)) := PE.imp (pe_op op_cat ha hb) fun σ H Q ⟨F, ρ, ms, st, sm, er, p⟩ => by
  refine ⟨F, ρ, ms, st, sm, er, p.bind fun d s1 v H1 ms1 _ l1 sm1 r1 p1 => ?_⟩
  refine ⟨F, ρ, ms1, s1, sm1, er.later l1, p1.bind fun e s2 w H2 ms2 _ l2 sm2 r2 p2 => ?_⟩
  split at p2
  · rename_i a b ha hb
    exact cat_ok sm2 (Rp.later l2 _ _ r1) r2 ha hb p2
  · exact p2.elim
theorem se_neg {a : Expr} {x : Mi.E} {pos : Pos} (ha : PE X a (tE XR C E x)) : PE X (.UnaryOp .USub a pos) (tE XR C E (.neg x)) := PE.imp (pe_un un_neg ha) fun σ H Q ⟨F, ρ, ms, st, sm, er, p⟩ => by
  refine ⟨F, ρ, ms, st, sm, er, p.bind fun d s1 v H1 ms1 _ l1 sm1 r1 p1 => ?_⟩
  split at p1
  · simp only [Rp] at r1; subst r1
    exact ⟨_, rfl, p1.ok sm1 (by simp only [Rp])⟩
  · exact p1.elim
theorem non_of {F : Addr → Prop} {op : C2} {y : Mi.E} {H : Hp} {ms : List Addr} {st : Sto} {d : D} {w : V} (hn : (op = .isn ∨ op = .notn) → d = .non) (r : Rp H (Mt F ms st) ms d w) : (op = .isn ∨ op = .notn) → w = .non := fun h => by
  have := hn h; subst this; simpa only [Rp] using r
theorem se_cmp {op : C2} {a b : Expr} {x y : Mi.E} {pos : Pos} (hu : X.A.units + 100 < cLine) (hn : (op = .isn ∨ op = .notn) → y = .non) (ha : PE X a (tE XR C E x)) (hb : PE X b (tE XR C E y)) (hm : behindInMarks (oC op) b = false) : PE X (.Compare a [oC op] [b] pos) (tE XR C E (.cmp op x y)) :=
  PE.imp (pe_cmpR (opC (by omega) op) ha hb hm) fun σ H Q ⟨F, ρ, ms, st, sm, er, p⟩ => by
  refine ⟨F, ρ, ms, st, sm, er, p.bind fun d s1 v H1 ms1 _ l1 sm1 r1 p1 => ?_⟩
  refine ⟨F, ρ, ms1, s1, sm1, er.later l1, p1.bind fun e s2 w H2 ms2 he l2 sm2 r2 p2 => ?_⟩
  obtain ⟨c, e1, q⟩ := ofB_ok p2 sm2
  refine cmpD_ok sm2 (Rp.later l2 _ _ r1) r2 (non_of (y := y) (fun h => ?_) r2) e1 q
  have := hn h
  subst this
  simp only [evE] at he
  cases he
  rfl
theorem st_cmp {op : C2} {a b : Expr} {x y : Mi.E} {pos : Pos} (hu : X.A.units + 100 < cLine) (hn : (op = .isn ∨ op = .notn) → y = .non) (ha : PE X a (tE XR C E x)) (hb : PE X b (tE XR C E y)) (hm : behindInMarks (oC op) b = false) : PT X (.Compare a [oC op] [b] pos) (tT XR C E (.cmp op x y)) :=
  PT.imp (pt_cmpR (opC (by omega) op) ha hb hm) fun σ H Q ⟨F, ρ, ms, st, sm, er, p⟩ => by
  have p' := p
  unfold tst at p'
  simp only [evE] at p'
  refine ⟨F, ρ, ms, st, sm, er, ?_⟩
  have pb : Pst XR F bRel ((evE C x ρ st).bind fun d s1 => (evE C y ρ s1).bind fun e s2 => (ofB s2 (cmpD s2 op d e)).bind fun d s1 => lift s1 (truth s1 d)) H ms st Q (wx E σ) := by
    cases h : evE C x ρ st with
    | stuck => rw [h] at p'; exact p'
    | ex c ds s => rw [h] at p'; exact p'
    | ok d s1 =>
      rw [h] at p'
      simp only [Rs.bind] at p' ⊢
      cases h2 : evE C y ρ s1 with
      | stuck => rw [h2] at p'; exact p'
      | ex c ds s => rw [h2] at p'; exact p'
      | ok e s2 => rw [h2] at p'; simp only [Rs.bind] at p' ⊢; exact p'
  refine pb.bind fun d s1 v H1 ms1 _ l1 sm1 r1 p1 => ?_
  refine ⟨F, ρ, ms1, s1, sm1, er.later l1, p1.bind fun e s2 w H2 ms2 he l2 sm2 r2 p2 => ?_⟩
  cases hc : cmpD s2 op d e with
  | none => rw [hc] at p2; exact p2.elim
  | some c =>
    rw [hc] at p2
    refine cmpD_ok sm2 (Rp.later l2 _ _ r1) r2 (non_of (y := y) (fun h => ?_) r2) hc ⟨c, rfl, ?_⟩
    · have := hn h
      subst this
      simp only [evE] at he
      cases he
      rfl
    · exact Pst.ok (a := c) (b := c) (Rel := bRel) p2 sm2 rfl
end
end Mi
end

section
set_option linter.all false
set_option maxRecDepth 100000
set_option autoImplicit false
namespace Mi
open PySem L2
variable [Cls]
theorem Rs.bind_assoc {α β γ : Type} (r : Rs α) (f : α → Sto → Rs β) (g : β → Sto → Rs γ) : (r.bind f).bind g = r.bind fun a s => (f a s).bind g := by cases r <;> rfl
section
variable {X : Cx} {XR : XRel} {C : Nat → List D → Sto → Rs D} {E : WX}
theorem se_and {a b : Expr} {rest : List Expr} {x y : Mi.E} {pos : Pos} (ha : PE X a (tE XR C E x)) (hb : PE X (.BoolOp .And (b :: rest) pos) (tE XR C E y)) : PE X (.BoolOp .And (a :: b :: rest) pos) (tE XR C E (.and x y)) := PE.imp (pe_andT ha hb) fun σ H Q ⟨F, ρ, ms, st, sm, er, p⟩ => by
  refine ⟨F, ρ, ms, st, sm, er, p.bind fun d s1 v H1 ms1 _ l1 sm1 r1 p1 => ?_⟩
  split at p1
  · rename_i ht; exact ⟨true, truth_ok sm1 r1 ht, by rw [if_pos rfl]; exact ⟨F, ρ, ms1, s1, sm1, er.later l1, p1⟩⟩
  · rename_i ht; exact ⟨false, truth_ok sm1 r1 ht, by rw [if_neg (by decide)]; exact p1.ok sm1 r1⟩
  · exact p1.elim
theorem se_or {a b : Expr} {rest : List Expr} {x y : Mi.E} {pos : Pos} (ha : PE X a (tE XR C E x)) (hb : PE X (.BoolOp .Or (b :: rest) pos) (tE XR C E y)) : PE X (.BoolOp .Or (a :: b :: rest) pos) (tE XR C E (.or x y)) := PE.imp (pe_orT ha hb) fun σ H Q ⟨F, ρ, ms, st, sm, er, p⟩ => by
  refine ⟨F, ρ, ms, st, sm, er, p.bind fun d s1 v H1 ms1 _ l1 sm1 r1 p1 => ?_⟩
  split at p1
  · rename_i ht; exact ⟨true, truth_ok sm1 r1 ht, by rw [if_pos rfl]; exact p1.ok sm1 r1⟩
  · rename_i ht; exact ⟨false, truth_ok sm1 r1 ht, by rw [if_neg (by decide)]; exact ⟨F, ρ, ms1, s1, sm1, er.later l1, p1⟩⟩
  · exact p1.elim
theorem se_not {a : Expr} {x : Mi.E} {pos : Pos} (ha : PE X a (tE XR C E x)) : PE X (.UnaryOp .Not a pos) (tE XR C E (.not x)) := PE.imp (pe_notT ha) fun σ H Q ⟨F, ρ, ms, st, sm, er, p⟩ => by
  refine ⟨F, ρ, ms, st, sm, er, p.bind fun d s1 v H1 ms1 _ l1 sm1 r1 p1 => ?_⟩
  obtain ⟨c, e1, q⟩ := ofB_ok p1 sm1
  simp only [Option.map_eq_some_iff] at e1
  obtain ⟨k, e1, rfl⟩ := e1
  exact ⟨k, truth_ok sm1 r1 e1, q⟩
theorem se_ite {c a b : Expr} {z x y : Mi.E} {pos : Pos} (hc : PT X c (tT XR C E z)) (ha : PE X a (tE XR C E x)) (hb : PE X b (tE XR C E y)) : PE X (.IfExp c a b pos) (tE XR C E (.ite z x y)) := PE.imp (pe_ifExp hc ha hb) fun σ H Q ⟨F, ρ, ms, st, sm, er, p⟩ => by
  refine ⟨F, ρ, ms, st, sm, er, Pst.bind (Rel2 := bRel) p fun d s1 v H1 ms1 _ l1 sm1 r1 p1 => ?_⟩
  have e : d = v := r1
  subst e
  cases d with
  | true => rw [if_pos rfl]; exact ⟨F, ρ, ms1, s1, sm1, er.later l1, by simpa using p1⟩
  | false => rw [if_neg (by decide)]; exact ⟨F, ρ, ms1, s1, sm1, er.later l1, by simpa using p1⟩
/-! tests -/
theorem st_plain {a : Expr} {x : Mi.E} (ha : PE X a (tE XR C E x)) (he : ∀ whole, PySem.isTrue a X.env whole = (do let v ← whole; standAt a.pos; holding [v] (truthy v))) : PT X a (tT XR C E x) := PT.imp (pt_truth ha he) fun σ H Q ⟨F, ρ, ms, st, sm, er, p⟩ => by
  refine ⟨F, ρ, ms, st, sm, er, Pst.bind (r := evE C x ρ st) p fun d s1 v H1 ms1 _ l1 sm1 r1 p1 => ?_⟩
  cases ht : truth s1 d with
  | none => rw [ht] at p1; exact p1.elim
  | some k => rw [ht] at p1; exact ⟨k, truth_ok sm1 r1 ht, Pst.ok (a := k) (b := k) (Rel := bRel) p1 sm1 rfl⟩
theorem st_not {a : Expr} {x : Mi.E} {pos : Pos} (ha : PT X a (tT XR C E x)) : PT X (.UnaryOp .Not a pos) (tT XR C E (.not x)) := PT.imp (pt_not ha) fun σ H Q ⟨F, ρ, ms, st, sm, er, p⟩ => by
  refine ⟨F, ρ, ms, st, sm, er, ?_⟩
  unfold tst at p ⊢
  simp only [evE, Rs.bind_assoc] at p
  cases h : evE C x ρ st with
  | stuck => rw [h] at p; exact p
  | ex c ds s => rw [h] at p; exact p
  | ok d s1 =>
    rw [h] at p
    simp only [Rs.bind] at p ⊢
    cases ht : truth s1 d with
    | none => rw [ht] at p; exact p
    | some k =>
      rw [ht] at p
      intro b H' ms' l' sm' r'
      have e : k = b := r'
      subst e
      exact p _ H' ms' l' sm' rfl
theorem tst_and {x y : Mi.E} {ρ : Env} {st : Sto} : tst (evE C (.and x y) ρ st) = (tst (evE C x ρ st)).bind fun t s1 => if t then tst (evE C y ρ s1) else .ok false s1 := by
  unfold tst
  simp only [evE, Rs.bind_assoc]
  cases evE C x ρ st with
  | ok d s1 =>
    simp only [Rs.bind]
    cases ht : truth s1 d with
    | none => rfl
    | some k => cases k <;> simp [lift, Rs.bind, ht]
  | _ => rfl
theorem tst_or {x y : Mi.E} {ρ : Env} {st : Sto} : tst (evE C (.or x y) ρ st) = (tst (evE C x ρ st)).bind fun t s1 => if t then .ok true s1 else tst (evE C y ρ s1) := by
  unfold tst
  simp only [evE, Rs.bind_assoc]
  cases evE C x ρ st with
  | ok d s1 =>
    simp only [Rs.bind]
    cases ht : truth s1 d with
    | none => rfl
    | some k => cases k <;> simp [lift, Rs.bind, ht]
  | _ => rfl
theorem tst_ite {z x y : Mi.E} {ρ : Env} {st : Sto} : tst (evE C (.ite z x y) ρ st) = (tst (evE C z ρ st)).bind fun t s1 => if t then tst (evE C x ρ s1) else tst (evE C y ρ s1) := by
  show Rs.bind _ _ = _
  simp only [evE, Rs.bind_assoc]
  congr 1
  funext t s1
  cases t <;> rfl
/-- a test whatever its whole is -/
theorem sw_one {op : BoolOp} {a : Expr} {x : Mi.E} {pos : Pos} (ha : PT X a (tT XR C E x)) : PW X (.BoolOp op [a] pos) (tT XR C E x) := by
  cases op with
  | And => exact pw_and1 ha
  | Or => exact pw_or1 ha
theorem PW.imp {X : Cx} {e : Expr} {t t' : TT} (h : PW X e t) (k : ∀ σ H Q, t' σ H Q → t σ H Q) : PW X e t' := ⟨fun w pins s σ H Q I q => h.run w pins s σ H Q I (k σ H Q q)⟩
theorem sw_and {a b : Expr} {rest : List Expr} {x y : Mi.E} {pos : Pos} (ha : PT X a (tT XR C E x)) (hb : PW X (.BoolOp .And (b :: rest) pos) (tT XR C E y)) : PW X (.BoolOp .And (a :: b :: rest) pos) (tT XR C E (.and x y)) := PW.imp (pw_and ha hb) fun σ H Q ⟨F, ρ, ms, st, sm, er, p⟩ => by
  rw [tst_and] at p
  refine ⟨F, ρ, ms, st, sm, er, Pst.bind (Rel2 := bRel) p fun d s1 v H1 ms1 _ l1 sm1 r1 p1 => ?_⟩
  have e : d = v := r1
  subst e
  cases d with
  | true => rw [if_pos rfl]; exact ⟨F, ρ, ms1, s1, sm1, er.later l1, by simpa using p1⟩
  | false => rw [if_neg (by decide)]; exact Pst.ok (a := false) (b := false) (Rel := bRel) (by simpa using p1) sm1 rfl
theorem sw_or {a b : Expr} {rest : List Expr} {x y : Mi.E} {pos : Pos} (ha : PT X a (tT XR C E x)) (hb : PW X (.BoolOp .Or (b :: rest) pos) (tT XR C E y)) : PW X (.BoolOp .Or (a :: b :: rest) pos) (tT XR C E (.or x y)) := PW.imp (pw_or ha hb) fun σ H Q ⟨F, ρ, ms, st, sm, er, p⟩ => by
  rw [tst_or] at p
  refine ⟨F, ρ, ms, st, sm, er, Pst.bind (Rel2 := bRel) p fun d s1 v H1 ms1 _ l1 sm1 r1 p1 => ?_⟩
  have e : d = v := r1
  subst e
  cases d with
  | true => rw [if_pos rfl]; exact Pst.ok (a := true) (b := true) (Rel := bRel) (by simpa using p1) sm1 rfl
  | false => rw [if_neg (by decide)]; exact ⟨F, ρ, ms1, s1, sm1, er.later l1, by simpa using p1⟩
theorem isTrue_ite {whole : Sem Value} {c a b : Expr} {pos : Pos} {env : PySem.Env} : PySem.isTrue (.IfExp c a b pos) env whole = (do if ← PySem.isTrue c env (eval c env) then PySem.isTrue a env (eval a env) else PySem.isTrue b env (eval b env)) := by
  simp only [PySem.isTrue]
theorem st_ite {c a b : Expr} {z x y : Mi.E} {pos : Pos} (hc : PT X c (tT XR C E z)) (ha : PT X a (tT XR C E x)) (hb : PT X b (tT XR C E y)) : PT X (.IfExp c a b pos) (tT XR C E (.ite z x y)) := ⟨fun pins s σ H Q I ⟨F, ρ, ms, st, sm, er, p⟩ => by
  rw [isTrue_ite]
  rw [tst_ite] at p
  refine wpAny_bind (thn (hc.run pins s σ H (fun t H1 => if t then tT XR C E x σ H1 Q else tT XR C E y σ H1 Q) I ⟨F, ρ, ms, st, sm, er, Pst.bind (Rel2 := bRel) p fun d s1 v H1 ms1 _ l1 sm1 r1 p1 => ?_⟩) fun t s1 ⟨H1, I1, q1⟩ => ?_)
  · have e : d = v := r1
    subst e
    cases d with
    | true => rw [if_pos rfl]; exact ⟨F, ρ, ms1, s1, sm1, er.later l1, by simpa using p1⟩
    | false => rw [if_neg (by decide)]; exact ⟨F, ρ, ms1, s1, sm1, er.later l1, by simpa using p1⟩
  · cases t with
    | true => rw [if_pos rfl] at q1 ⊢; exact ha.run pins s1 σ H1 Q I1 q1
    | false => rw [if_neg (by decide)] at q1 ⊢; exact hb.run pins s1 σ H1 Q I1 q1⟩
/-! chains -/
theorem chain_imp {K : PySem.W.Frag} {p q : C2} {x y z : Mi.E} {σ : L2.St} {H : Hp} {Q : VK} (hp : p ≠ .isn ∧ p ≠ .notn) (hq : q ≠ .isn ∧ q ≠ .notn) (h : tE XR C E (.chain p q x y z) σ H Q) : tChain (rC K p) (rC K q) (tE XR C E x) (tE XR C E y) (tE XR C E z) σ H Q := by
  obtain ⟨F, ρ, ms, st, sm, er, h⟩ := h
  refine ⟨F, ρ, ms, st, sm, er, h.bind fun d s1 v H1 ms1 _ l1 sm1 r1 p1 => ?_⟩
  refine ⟨F, ρ, ms1, s1, sm1, er.later l1, p1.bind fun e s2 w H2 ms2 he l2 sm2 r2 p2 => ?_⟩
  split at p2
  · rename_i hc
    refine cmpD_ok sm2 (Rp.later l2 _ _ r1) r2 (fun h => absurd h (by rintro (h | h); exact hp.1 h; exact hp.2 h)) hc ⟨false, rfl, ?_⟩
    rw [if_neg (by decide)]
    exact p2.ok sm2 (by simp only [Rp])
  · rename_i hc
    refine cmpD_ok sm2 (Rp.later l2 _ _ r1) r2 (fun h => absurd h (by rintro (h | h); exact hp.1 h; exact hp.2 h)) hc ⟨true, rfl, ?_⟩
    rw [if_pos rfl]
    refine ⟨F, ρ, ms2, s2, sm2, (er.later l1).later l2, p2.bind fun g s3 u H3 ms3 _ l3 sm3 r3 p3 => ?_⟩
    obtain ⟨c, e1, qq⟩ := ofB_ok p3 sm3
    exact cmpD_ok sm3 (Rp.later l3 _ _ r2) r3 (fun h => absurd h (by rintro (h | h); exact hq.1 h; exact hq.2 h)) e1 qq
  · exact p2.elim
theorem se_chain {p q : C2} {a b c : Expr} {x y z : Mi.E} {pos : Pos} (hu : X.A.units + 100 < cLine) (hp : p ≠ .isn ∧ p ≠ .notn) (hq : q ≠ .isn ∧ q ≠ .notn) (ha : PE X a (tE XR C E x)) (hb : PE X b (tE XR C E y)) (hc : PE X c (tE XR C E z)) (hm : lastMarks [oC p, oC q] [b, c] = false) :
    PE X (.Compare a [oC p, oC q] [b, c] pos) (tE XR C E (.chain p q x y z)) := PE.imp (pe_chain (opC (by omega) p) (opC (by omega) q) ha hb hc hm) fun σ H Q h => chain_imp hp hq h
theorem st_chain {p q : C2} {a b c : Expr} {x y z : Mi.E} {pos : Pos} (hu : X.A.units + 100 < cLine) (hp : p ≠ .isn ∧ p ≠ .notn) (hq : q ≠ .isn ∧ q ≠ .notn) (ha : PE X a (tE XR C E x)) (hb : PE X b (tE XR C E y)) (hc : PE X c (tE XR C E z)) (hm : lastMarks [oC p, oC q] [b, c] = false) :
    PT X (.Compare a [oC p, oC q] [b, c] pos) (tT XR C E (.chain p q x y z)) := PT.imp (pt_chain (opC (by omega) p) (opC (by omega) q) ha hb hc hm) fun σ H Q ⟨F, ρ, ms, st, sm, er, h⟩ => by
  refine chain_imp hp hq ⟨F, ρ, ms, st, sm, er, ?_⟩
  refine Pst.bind (r := evE C (.chain p q x y z) ρ st) h fun d s1 v H1 ms1 he l1 sm1 r1 p1 => ?_
  -- what a chain gives is a bool
  have isb : ∃ k, d = .bl k := by
    simp only [evE] at he
    cases h1 : evE C x ρ st with
    | ok d1 t1 =>
      rw [h1] at he
      simp only [Rs.bind] at he
      cases h2 : evE C y ρ t1 with
      | ok d2 t2 =>
        rw [h2] at he
        simp only [Rs.bind] at he
        split at he
        · cases he; exact ⟨_, rfl⟩
        · cases h3 : evE C z ρ t2 with
          | ok d3 t3 =>
            rw [h3] at he
            simp only [Rs.bind] at he
            cases h4 : cmpD t3 q d2 d3 with
            | none => rw [h4] at he; cases he
            | some k => rw [h4] at he; cases he; exact ⟨_, rfl⟩
          | _ => rw [h3] at he; cases he
        · cases he
      | _ => rw [h2] at he; cases he
    | _ => rw [h1] at he; cases he
  obtain ⟨k, rfl⟩ := isb
  simp only [Rp] at r1
  subst r1
  exact ⟨k, rfl, Pst.ok (a := k) (b := k) (Rel := bRel) p1 sm1 rfl⟩
/-! subscripts -/
theorem se_ix {a b : Expr} {x y : Mi.E} {pos : Pos} (hu : X.A.units + 100 < cLine) (ha : PE X a (tE XR C E x)) (hb : PE X b (tE XR C E y)) (hs : PlainIx b) : PE X (.Subscript a b pos) (tE XR C E (.ix x y)) := PE.imp (pe_ix (opIx (by omega)) ha hb hs) fun σ H Q ⟨F, ρ, ms, st, sm, er, p⟩ => by
  refine ⟨F, ρ, ms, st, sm, er, p.bind fun d s1 v H1 ms1 _ l1 sm1 r1 p1 => ?_⟩
  refine ⟨F, ρ, ms1, s1, sm1, er.later l1, p1.bind fun e s2 w H2 ms2 _ l2 sm2 r2 p2 => ?_⟩
  exact ixD_ok sm2 (Rp.later l2 _ _ r1) r2 p2
def oRel : Hp → (Addr → Prop) → List Addr → Option Int → Option Int → Prop := fun _ _ _ a b => a = b
def tO (XR : XRel) (C : Nat → List D → Sto → Rs D) (X : WX) (e : Eo) : TO := fun σ H Q => ∃ F ρ ms st, Sm F H ms st ∧ EnvR H (Mt F ms st) ms ρ σ ∧ Pst XR F oRel (evO C e ρ st) H ms st Q (wx X σ)
theorem PO.imp {X : Cx} {e : Option Expr} {t t' : TO} (h : PO X e t) (k : ∀ σ H Q, t' σ H Q → t σ H Q) : PO X e t' := ⟨fun pins s σ H Q I q => h.run pins s σ H Q I (k σ H Q q)⟩
theorem so_none : PO X none (tO XR C E .none) := PO.imp po_none fun σ H Q ⟨F, ρ, ms, st, sm, er, p⟩ => Pst.ok (Rel := oRel) p sm rfl
theorem so_some {a : Expr} {x : Mi.E} (ha : PE X a (tE XR C E x)) : PO X (some a) (tO XR C E (.some x)) := PO.imp (po_some ha) fun σ H Q ⟨F, ρ, ms, st, sm, er, p⟩ => by
  refine ⟨F, ρ, ms, st, sm, er, Pst.bind p fun d s1 v H1 ms1 _ l1 sm1 r1 p1 => ?_⟩
  split at p1
  · simp only [Rp] at r1; subst r1
    exact ⟨_, rfl, Pst.ok (Rel := oRel) p1 sm1 rfl⟩
  · exact p1.elim
theorem se_sl {a : Expr} {lo hi : Option Expr} {x : Mi.E} {l h : Eo} {p2 pos : Pos} (ha : PE X a (tE XR C E x)) (hl : PO X lo (tO XR C E l)) (hh : PO X hi (tO XR C E h)) : PE X (.Subscript a (.Slice lo hi none p2) pos) (tE XR C E (.sl x l h)) := PE.imp (pe_slice opSl ha hl hh) fun σ H Q ⟨F, ρ, ms, st, sm, er, p⟩ => by
  refine ⟨F, ρ, ms, st, sm, er, p.bind fun d s1 v H1 ms1 _ l1 sm1 r1 p1 => ?_⟩
  refine ⟨F, ρ, ms1, s1, sm1, er.later l1, Pst.bind (Rel2 := oRel) p1 fun o s2 o' H2 ms2 _ l2 sm2 r2 p2 => ?_⟩
  have e : o = o' := r2
  subst e
  refine ⟨F, ρ, ms2, s2, sm2, (er.later l1).later l2, Pst.bind (Rel2 := oRel) p2 fun u s3 u' H3 ms3 _ l3 sm3 r3 p3 => ?_⟩
  have e : u = u' := r3
  subst e
  exact slD_ok sm3 (Rp.later l3 _ _ (Rp.later l2 _ _ r1)) p3
/-! built-in functions -/
theorem se_blt {f : Bf} {a : Expr} {as : List Expr} {es : Es} {p pos : Pos} (hc : X.calm = true) (hu : X.A.units + 100 < cLine) (ok : okF f = true) (hg : Gl X (nF f)) (hm : X.mg (nF f) = none) (ha : PA X (a :: as) (tA XR C E es)) (hs : (a :: as).all notStar = true) :
    PE X (.Call (.Name (nF f) p) (a :: as) [] pos) (tE XR C E (.blt f es)) := by
  rw [List.all_cons, Bool.and_eq_true] at hs
  have main : ∀ {r : List V → Hp → VK → Prop}, PE X (.Call (.Name (nF f) p) (a :: as) [] pos) (tCB (rF X.K f) (tA XR C E es)) → PE X (.Call (.Name (nF f) p) (a :: as) [] pos) (tE XR C E (.blt f es)) := fun h =>
    PE.imp h fun σ H Q ⟨F, ρ, ms, st, sm, er, p⟩ => ⟨F, ρ, ms, st, sm, er, p.bind fun ds s1 vs H1 ms1 _ l1 sm1 r1 p1 => bltD_ok ok sm1 r1 p1⟩
  have hr := opF hc hu f
  have hb := bootF f
  refine main (r := rF X.K f) ?_
  cases hv : vF f with
  | builtin id =>
    rw [hv] at hr hb
    exact pe_callB hr hg hm hb ha (nF_name f) (nF_debug f) (starEach_cons hs.1) (any_back hs.2)
  | type T =>
    rw [hv] at hr hb
    exact pe_callTy hr hg hm hb ha (nF_name f) (nF_debug f) (starEach_cons hs.1) (any_back hs.2)
  | _ => cases f <;> cases hv
end
end Mi
end

section
set_option linter.all false
set_option maxRecDepth 100000
set_option autoImplicit false
/-! Mi: what loops and comprehensions walk. -/
namespace Mi
open PySem L2
variable [Cls]
structure LaterM (H : Hp) (mt : Addr → Prop) (ms : List Addr) (H' : Hp) (mt' : Addr → Prop) (ms' : List Addr) : Prop where
  pre : ∀ (i : Nat) (a : Addr), ms[i]? = some a → ms'[i]? = some a
  nm : ∀ a, H a ≠ none → ¬ mt a → ¬ mt' a
  lst : ∀ a vs, ¬ mt a → H a = some (.lst vs) → H' a = some (.lst vs)
  tup : ∀ a vs, H a = some (.tup vs) → H' a = some (.tup vs)
  dK : ∀ a u, ¬ mt a → Rd H a (.dK u) → Rd H' a (.dK u)
  ne : ∀ a, H a ≠ none → H' a ≠ none
  frz : ∀ a o u, H a = some (.frz o u) → H' a = some (.frz o u)
theorem Later.m {F : Addr → Prop} {H H' : Hp} {ms ms' : List Addr} {st st' : Sto} (l : Later F H ms st H' ms' st') : LaterM H (Mt F ms st) ms H' (Mt F ms' st') ms' := ⟨l.pre, l.nm, l.lst, l.tup, l.dK, l.ne, l.frz⟩
theorem LaterM.trans {H H1 H2 : Hp} {mt mt1 mt2 : Addr → Prop} {ms ms1 ms2 : List Addr} (a : LaterM H mt ms H1 mt1 ms1) (b : LaterM H1 mt1 ms1 H2 mt2 ms2) : LaterM H mt ms H2 mt2 ms2 :=
  ⟨fun i x h => b.pre i x (a.pre i x h), fun x h n => b.nm x (a.ne x h) (a.nm x h n), fun x vs n h => b.lst x vs (a.nm x (some_ne h) n) (a.lst x vs n h), fun x vs h => b.tup x vs (a.tup x vs h),
    fun x u n h => b.dK x u (a.nm x (Rd.ne h) n) (a.dK x u n h), fun x h => b.ne x (a.ne x h), fun x o u h => b.frz x o u (a.frz x o u h)⟩
mutual
theorem Rp.laterM {H H' : Hp} {mt mt' : Addr → Prop} {ms ms' : List Addr} (l : LaterM H mt ms H' mt' ms') : ∀ (d : D) (v : V), Rp H mt ms d v → Rp H' mt' ms' d v
  | .non, _, h => by simpa only [Rp] using h
  | .bl b, _, h => by simpa only [Rp] using h
  | .int i, _, h => by simpa only [Rp] using h
  | .str c, _, h => by simpa only [Rp] using h
  | .lst ds, _, h => by
    simp only [Rp] at h ⊢
    obtain ⟨a, vs, rfl, n, e, z, r⟩ := h
    exact ⟨a, vs, rfl, l.nm a (some_ne e) n, l.lst a vs n e, z, Rps.laterM l ds vs r⟩
  | .tup ds, _, h => by
    simp only [Rp] at h ⊢
    obtain ⟨a, vs, rfl, n, e, z, r⟩ := h
    exact ⟨a, vs, rfl, l.nm a (some_ne e) n, l.tup a vs e, z, Rps.laterM l ds vs r⟩
  | .dct ks ds, _, h => by
    simp only [Rp] at h ⊢
    obtain ⟨a, vs, rfl, n, e, z, r⟩ := h
    exact ⟨a, vs, rfl, l.nm a (Rd.ne e) n, l.dK a _ n e, z, Rps.laterM l ds vs r⟩
  | .ref n, _, h => by
    simp only [Rp] at h ⊢
    obtain ⟨a, rfl, e⟩ := h
    exact ⟨a, rfl, l.pre n a e⟩
  | .exc c ds, _, h => by
    simp only [Rp] at h ⊢
    obtain ⟨a, oa, u, vs, rfl, e, hc, hn, hd, z, r⟩ := h
    refine ⟨a, oa, u, vs, rfl, l.frz a oa u e, hc, hn, ?_, z, Rps.laterM l ds vs r⟩
    split at hd
    · exact hd
    · obtain ⟨od, q⟩ := hd
      exact ⟨od, l.frz _ _ _ q⟩
theorem Rps.laterM {H H' : Hp} {mt mt' : Addr → Prop} {ms ms' : List Addr} (l : LaterM H mt ms H' mt' ms') : ∀ (ds : List D) (vs : List V), Rps H mt ms ds vs → Rps H' mt' ms' ds vs
  | [], _, h => by simpa only [Rps] using h
  | d :: ds, _, h => by
    simp only [Rps] at h ⊢
    obtain ⟨v, r, rfl, h1, h2⟩ := h
    exact ⟨v, r, rfl, Rp.laterM l d v h1, Rps.laterM l ds r h2⟩
end
/-- J walks over xs -/
def wRel : Hp → (Addr → Prop) → List Addr → List D → It → Prop := fun H mt ms xs J => ∀ F H' ms' st', LaterM H mt ms H' (Mt F ms' st') ms' → Sm F H' ms' st' → J.stop xs.length H' ∧
  ∀ i d, xs[i]? = some d → J.go i H' ∧ ∀ x H'', J.yld i H' x H'' → Later F H' ms' st' H'' ms' st' ∧ Sm F H'' ms' st' ∧ Rp H'' (Mt F ms' st') ms' d x
def tR (XR : XRel) (C : Nat → List D → Sto → Rs D) (X : WX) (e : Sr) : TI := fun σ H R => ∃ F ρ ms st, Sm F H ms st ∧ EnvR H (Mt F ms st) ms ρ σ ∧ Pst XR F wRel (evR C e ρ st) H ms st R (wx X σ)
theorem PI.imp {X : Cx} {tg e : Expr} {t t' : TI} (h : PI X tg e t) (k : ∀ σ H R, t' σ H R → t σ H R) : PI X tg e t' := ⟨fun pins s σ H R I q => h.run pins s σ H R I (k σ H R q)⟩
theorem w_at {J : It} {n : Nat} {G : Hp → Prop} {vs : List V} {ds : List D} {H : Hp} {mt : Addr → Prop} {ms : List Addr} (w : Walk J n G (YAt vs)) (hn : ds.length = n) (r : Rps H mt ms ds vs) (g : ∀ F H' ms' st', LaterM H mt ms H' (Mt F ms' st') ms' → Sm F H' ms' st' → G H') : wRel H mt ms ds J := fun F H' ms' st' l sm => by
  have q := g F H' ms' st' l sm
  refine ⟨by rw [hn]; exact w.stops H' q, fun i d hi => ?_⟩
  have hlt : i < n := by rw [← hn]; exact (List.getElem?_eq_some_iff.mp hi).1
  refine ⟨w.goes i H' hlt q, fun x H'' y => ?_⟩
  obtain ⟨e, hx⟩ := w.yields i H' x H'' hlt q y
  subst e
  obtain ⟨v, hv, rv⟩ := r.get hi
  rw [hx] at hv
  cases hv
  exact ⟨Later.refl, sm, Rp.laterM l _ _ rv⟩
theorem w_pair {J : It} {n : Nat} {G : Hp → Prop} {f g : Nat → Option V} {ds : List D} {H : Hp} {mt : Addr → Prop} {ms : List Addr} (w : Walk J n G (YPair f g)) (hn : ds.length = n)
    (hG : ∀ F H' ms' st', LaterM H mt ms H' (Mt F ms' st') ms' → Sm F H' ms' st' → G H')
    (hd : ∀ i d x y, ds[i]? = some d → f i = some x → g i = some y → ∃ p q, d = .tup [p, q] ∧ Rp H mt ms p x ∧ Rp H mt ms q y) : wRel H mt ms ds J := fun F H' ms' st' l sm => by
  have q := hG F H' ms' st' l sm
  refine ⟨by rw [hn]; exact w.stops H' q, fun i d hi => ?_⟩
  have hlt : i < n := by rw [← hn]; exact (List.getElem?_eq_some_iff.mp hi).1
  refine ⟨w.goes i H' hlt q, fun x H'' y => ?_⟩
  obtain ⟨T, a, b, rfl, hT, rfl, ha, hb⟩ := w.yields i H' x H'' hlt q y
  obtain ⟨p, z, rfl, rp, rz⟩ := hd i d a b hi ha hb
  refine ⟨later_new sm hT, sm.new hT, rp_newT sm hT (Rps.cons (Rp.laterM l _ _ rp) (Rps.cons (Rp.laterM l _ _ rz) Rps.nil)) (by rw [← big_eq]; show 2 ≤ big; decide)⟩
section
variable {X : Cx} {XR : XRel} {C : Nat → List D → Sto → Rs D} {E : WX}
theorem w_list {K : PySem.W.Frag} {H : Hp} {mt : Addr → Prop} {ms : List Addr} {a : Addr} {vs : List V} {ds : List D} (n : ¬ mt a) (e : H a = some (.lst vs)) (r : Rps H mt ms ds vs) : wRel H mt ms ds (Itl K a) :=
  w_at (walk_list (xs := vs)) r.length r fun F H' ms' st' l sm => .inl (.inl (l.lst a vs n e))
theorem w_tup {K : PySem.W.Frag} {H : Hp} {mt : Addr → Prop} {ms : List Addr} {a : Addr} {vs : List V} {ds : List D} (e : H a = some (.tup vs)) (r : Rps H mt ms ds vs) : wRel H mt ms ds (Itt K a) :=
  w_at (walk_tup (xs := vs)) r.length r fun F H' ms' st' l sm => .inl (.inl (l.tup a vs e))
theorem w_str {H : Hp} {mt : Addr → Prop} {ms : List Addr} {c : Cs} : wRel H mt ms (c.map fun x => D.str [x]) (Its (tx c)) := fun F H' ms' st' l sm => by
  have w := walk_str (z := tx c)
  have hz : (tx c).cps.size = c.length := by simp [tx]
  refine ⟨by rw [List.length_map, ← hz]; exact w.stops H' trivial, fun i d hi => ?_⟩
  have hlt : i < (tx c).cps.size := by
    have := (List.getElem?_eq_some_iff.mp hi).1
    rw [hz]; simpa using this
  refine ⟨w.goes i H' hlt trivial, fun x H'' y => ?_⟩
  obtain ⟨e, z, hz2, rfl⟩ := w.yields i H' x H'' hlt trivial y
  subst e
  refine ⟨Later.refl, sm, ?_⟩
  have e2 : c[i]? = some z := by simpa [tx] using hz2
  rw [List.getElem?_map, e2] at hi
  cases hi
  simp only [Rp]
  exact ⟨rfl, by rw [← big_eq]; show 1 ≤ big; decide⟩
theorem sr_it {tg a : Expr} {x : Mi.E} (ha : PE X a (tE XR C E x)) : PI X tg a (tR XR C E (.it x)) := ⟨fun pins s σ H R I ⟨F, ρ, ms, st, sm, er, p⟩ => by
  simp only [evR] at p
  have go : ∀ (t : It → Hp → V → Hp → Prop), True := fun _ => trivial
  cases h : evE C x ρ st with
  | stuck => rw [h] at p; exact p.elim
  | ex c ds s1 =>
    rw [h] at p
    refine (pi_list ha).run pins s σ H R I ⟨F, ρ, ms, st, sm, er, ?_⟩
    rw [h]
    exact p
  | ok d s1 =>
    cases d with
    | tup ds =>
      refine (pi_tup ha).run pins s σ H R I ⟨F, ρ, ms, st, sm, er, Pst.bind p fun d s2 v H1 ms1 he l1 sm1 r1 p1 => ?_⟩
      rw [h] at he
      cases he
      simp only [Rp] at r1
      obtain ⟨b, vs, rfl, n, e, z, r⟩ := r1
      exact ⟨b, rfl, ⟨vs, .inl (.inl e)⟩, Pst.ok (Rel := wRel) p1 sm1 (w_tup e r)⟩
    | str c =>
      refine (pi_str ha).run pins s σ H R I ⟨F, ρ, ms, st, sm, er, Pst.bind p fun d s2 v H1 ms1 he l1 sm1 r1 p1 => ?_⟩
      rw [h] at he
      cases he
      simp only [Rp] at r1
      exact ⟨_, r1.1, Pst.ok (Rel := wRel) p1 sm1 w_str⟩
    | lst ds =>
      refine (pi_list ha).run pins s σ H R I ⟨F, ρ, ms, st, sm, er, Pst.bind p fun d s2 v H1 ms1 he l1 sm1 r1 p1 => ?_⟩
      rw [h] at he
      cases he
      simp only [Rp] at r1
      obtain ⟨b, vs, rfl, n, e, z, r⟩ := r1
      exact ⟨b, rfl, ⟨vs, .inl (.inl e)⟩, Pst.ok (Rel := wRel) p1 sm1 (w_list n e r)⟩
    | _ => rw [h] at p; exact p.elim⟩
/-! range -/
theorem w_rng {H : Hp} {mt : Addr → Prop} {ms : List Addr} {lo : Int} {n : Nat} : wRel H mt ms (rngD lo n) (Itr lo n) := fun F H' ms' st' l sm => by
  have w := walk_range (lo := lo) (n := n)
  have hl : (rngD lo n).length = n := by simp [rngD]
  refine ⟨by rw [hl]; exact w.stops H' trivial, fun i d hi => ?_⟩
  have hlt : i < n := by rw [← hl]; exact (List.getElem?_eq_some_iff.mp hi).1
  refine ⟨w.goes i H' hlt trivial, fun x H'' y => ?_⟩
  obtain ⟨e, rfl⟩ := w.yields i H' x H'' hlt trivial y
  subst e
  refine ⟨Later.refl, sm, ?_⟩
  unfold rngD at hi
  rw [List.getElem?_map, List.getElem?_range hlt] at hi
  cases hi
  simp only [Rp]
theorem star1 {a : Expr} {env : PySem.Env} (h : notStar a = true) : starEach [a] env = [(false, eval a env)] := starEach_cons h
theorem sr_rng {tg a : Expr} {x : Mi.E} {p pos : Pos} (hg : Gl X "range") (hm : X.mg "range" = none) (ha : PE X a (tE XR C E x)) (hs : notStar a = true) : PI X tg (.Call (.Name "range" p) [a] [] pos) (tR XR C E (.rng x)) :=
  PI.imp (pi_range1 hg hm (pa_cons ha pa_nil (starEach_cons hs)) (star1 hs)) fun σ H R ⟨F, ρ, ms, st, sm, er, p⟩ => by
  refine ⟨F, ρ, ms, st, sm, er, Pst.bind p fun d s1 v H1 ms1 _ l1 sm1 r1 p1 => ?_⟩
  split at p1
  · simp only [Rp] at r1; subst r1
    split at p1
    · rename_i hi
      refine ⟨_, rfl, by omega, by omega, ?_⟩
      have := Pst.ok (Rel := wRel) p1 sm1 w_rng
      exact this
    · exact p1.elim
  · exact p1.elim
theorem sr_rng2 {tg a b : Expr} {x y : Mi.E} {p pos : Pos} (hg : Gl X "range") (hm : X.mg "range" = none) (ha : PE X a (tE XR C E x)) (hb : PE X b (tE XR C E y)) (hs : notStar a = true) (hs2 : notStar b = true) : PI X tg (.Call (.Name "range" p) [a, b] [] pos) (tR XR C E (.rng2 x y)) :=
  PI.imp (pi_range2 hg hm (pa_cons ha (pa_cons hb pa_nil (starEach_cons hs2)) (starEach_cons hs)) (by rw [starEach_cons hs, star1 hs2]) (star1 hs2)) fun σ H R ⟨F, ρ, ms, st, sm, er, p⟩ => by
  refine ⟨F, ρ, ms, st, sm, er, Pst.bind p fun d s1 v H1 ms1 _ l1 sm1 r1 p1 => ?_⟩
  refine ⟨F, ρ, ms1, s1, sm1, er.later l1, Pst.bind p1 fun e s2 w H2 ms2 _ l2 sm2 r2 p2 => ?_⟩
  split at p2
  · simp only [Rp] at r1 r2; subst r1 r2
    split at p2
    · rename_i hi
      refine ⟨_, _, rfl, ⟨by omega, by omega, by omega, by omega⟩, ?_⟩
      exact Pst.ok (Rel := wRel) p2 sm2 w_rng
    · exact p2.elim
  · exact p2.elim
/-! zip -/
theorem zipD_get : ∀ {xs ys : List D} {i : Nat} {d : D}, (zipD xs ys)[i]? = some d → ∃ p q, d = .tup [p, q] ∧ xs[i]? = some p ∧ ys[i]? = some q
  | [], ys, i, d, h => by simp [zipD] at h
  | x :: xs, [], i, d, h => by simp [zipD] at h
  | x :: xs, y :: ys, 0, d, h => by simp [zipD] at h; exact ⟨x, y, h.symm, rfl, rfl⟩
  | x :: xs, y :: ys, i + 1, d, h => by
    simp only [zipD, List.getElem?_cons_succ] at h ⊢
    exact zipD_get h
theorem zipD_len : ∀ {xs ys : List D}, (zipD xs ys).length = min xs.length ys.length
  | [], ys => by simp [zipD]
  | x :: xs, [] => by simp [zipD]
  | x :: xs, y :: ys => by simp only [zipD, List.length_cons, zipD_len (xs := xs) (ys := ys)]; omega
theorem walk_zipT {K : PySem.W.Frag} {a b : Addr} {xs ys : List V} {n : Nat} (hn : n = min xs.length ys.length) : Walk (RZ.ItzT K a b) n (fun H => SqT K H a xs ∧ SqT K H b ys) (YPair (fun i => xs[i]?) (fun i => ys[i]?)) := by
  refine ⟨fun i H hi h => ?_, fun H h => ?_, fun i H x H' hi h y => ?_⟩
  · have h1 : i < xs.length := by omega
    have h2 : i < ys.length := by omega
    exact ⟨xs, ys, xs[i], ys[i], h.1, h.2, by simp [h1], by simp [h2]⟩
  · exact ⟨xs, ys, h.1, h.2, by omega⟩
  · obtain ⟨T, a', b', e1, e2, e3, f1, f2⟩ := y
    exact ⟨T, a', b', e1, e2, e3, f1 xs h.1, f2 ys h.2⟩
theorem sr_zip {a b : Expr} {x y : Mi.E} {p pos tpos : Pos} {elts : List Expr} {kk : Nat} (hg : Gl X "zip") (hm : X.mg "zip" = none) (ha : PE X a (tE XR C E x)) (hb : PE X b (tE XR C E y)) (hs : notStar a = true) (hs2 : notStar b = true) :
    PI X (.Tuple elts kk tpos) (.Call (.Name "zip" p) [a, b] [] pos) (tR XR C E (.zip x y)) :=
  PI.imp (RZ.pi_zipA hg hm (pa_cons ha (pa_cons hb pa_nil (starEach_cons hs2)) (starEach_cons hs)) (by rw [starEach_cons hs, star1 hs2]) (by first | exact star1 hs2 | (rw [star1 hs2]; rfl))) fun σ H R ⟨F, ρ, ms, st, sm, er, p⟩ => by
  refine ⟨F, ρ, ms, st, sm, er, Pst.bind p fun d s1 v H1 ms1 _ l1 sm1 r1 p1 => ?_⟩
  refine ⟨F, ρ, ms1, s1, sm1, er.later l1, Pst.bind p1 fun e s2 w H2 ms2 _ l2 sm2 r2 p2 => ?_⟩
  replace r1 := Rp.later l2 _ _ r1
  split at p2
  · simp only [Rp] at r1 r2
    obtain ⟨l, vs, rfl, n, e, z, r⟩ := r1
    obtain ⟨l', us, rfl, n', e', z', r'⟩ := r2
    refine ⟨l, l', vs, us, rfl, .inl ⟨.inl (.inl e), .inl (.inl e'), Pst.ok (Rel := wRel) p2 sm2 (w_pair (walk_zip (xs := vs) (ys := us) rfl) (by rw [zipD_len, r.length, r'.length]) (fun F H' ms' st' l sm => ⟨.inl (.inl (l.lst _ vs n e)), .inl (.inl (l.lst _ us n' e'))⟩) fun i d p q hd hp hq => ?_)⟩⟩
    obtain ⟨p', q', rfl, h1, h2⟩ := zipD_get hd
    obtain ⟨v1, g1, rp⟩ := r.get h1
    obtain ⟨v2, g2, rq⟩ := r'.get h2
    rw [g1] at hp; rw [g2] at hq
    cases hp; cases hq
    exact ⟨p', q', rfl, rp, rq⟩
  · simp only [Rp] at r1 r2
    obtain ⟨l, vs, rfl, n, e, z, r⟩ := r1
    obtain ⟨l', us, rfl, n', e', z', r'⟩ := r2
    refine ⟨l, l', vs, us, rfl, .inr ⟨.inl (.inl e), .inl (.inl e'), Pst.ok (Rel := wRel) p2 sm2 (w_pair (walk_zipT (xs := vs) (ys := us) rfl) (by rw [zipD_len, r.length, r'.length]) (fun F H' ms' st' l sm => ⟨.inl (.inl (l.tup _ vs e)), .inl (.inl (l.tup _ us e'))⟩) fun i d p q hd hp hq => ?_)⟩⟩
    obtain ⟨p', q', rfl, h1, h2⟩ := zipD_get hd
    obtain ⟨v1, g1, rp⟩ := r.get h1
    obtain ⟨v2, g2, rq⟩ := r'.get h2
    rw [g1] at hp; rw [g2] at hq
    cases hp; cases hq
    exact ⟨p', q', rfl, rp, rq⟩
  · exact p2.elim
end
end Mi
end

section
set_option linter.all false
set_option maxRecDepth 100000
set_option autoImplicit false
/-! Mi: list comprehensions. -/
namespace Mi
open PySem L2
variable [Cls]
/-! targets -/
def gAll : List Nat → TGs
  | [] => gNil
  | i :: r => gCons (gName i) (gAll r)
def gT (K : PySem.W.Frag) : List Nat → TG
  | [i] => gName i
  | tg => gTup K tg.length (gAll tg)
/-- related but for the slots S -/
def EnvQ (S : List Nat) (H : Hp) (mt : Addr → Prop) (ms : List Addr) (ρ : Env) (σ : L2.St) : Prop := ρ.length = σ.length ∧ ∀ (i : Nat) (d : D), i ∉ S → ρ[i]? = some (some d) → ∃ v, σ[i]? = some (some v) ∧ Rp H mt ms d v
theorem EnvQ.r {H : Hp} {mt : Addr → Prop} {ms : List Addr} {ρ : Env} {σ : L2.St} (h : EnvQ [] H mt ms ρ σ) : EnvR H mt ms ρ σ := ⟨h.1, fun i d e => h.2 i d (by simp) e⟩
theorem EnvQ.of {H : Hp} {mt : Addr → Prop} {ms : List Addr} {ρ : Env} {σ : L2.St} (S : List Nat) (h : EnvR H mt ms ρ σ) : EnvQ S H mt ms ρ (wipe σ S) :=
  ⟨by rw [wipe_length]; exact h.1, fun i d hi e => by rw [wipe_out hi]; exact h.2 i d e⟩
theorem EnvQ.set {S : List Nat} {H : Hp} {mt : Addr → Prop} {ms : List Addr} {ρ : Env} {σ : L2.St} {i : Nat} {d : D} {v : V} (h : EnvQ (i :: S) H mt ms ρ σ) (r : Rp H mt ms d v) : EnvQ S H mt ms (ρ.set i (some d)) (σ.set i (some v)) := by
  refine ⟨by simp [h.1], fun j x hj e => ?_⟩
  by_cases hij : i = j
  · subst hij
    by_cases hl : i < ρ.length
    · rw [List.getElem?_set_self hl] at e
      cases e
      exact ⟨v, by rw [List.getElem?_set_self (by rw [← h.1]; exact hl)], r⟩
    · rw [List.getElem?_eq_none (by simpa using hl)] at e; cases e
  · rw [List.getElem?_set_ne hij] at e ⊢
    exact h.2 j x (by simp only [List.mem_cons, not_or]; exact ⟨fun z => hij z.symm, hj⟩) e
/-- σ2 is σ but for the slots S -/
def But (S : List Nat) (σ σ2 : L2.St) : Prop := σ2.length = σ.length ∧ ∀ i, i ∉ S → σ2[i]? = σ[i]?
theorem wipe_in {σ : L2.St} : ∀ {vs : List Nat} {i : Nat}, i ∈ vs → i < σ.length → (wipe σ vs)[i]? = some none
  | [], _, h, _ => by simp at h
  | v :: vs, i, h, hl => by
    unfold wipe
    by_cases e : v = i
    · subst e; rw [List.getElem?_set_self (by rw [wipe_length]; exact hl)]
    · rw [List.getElem?_set_ne e]
      exact wipe_in ((List.mem_cons.mp h).resolve_left fun z => e z.symm) hl
theorem But.wipe {S : List Nat} {σ σ2 : L2.St} (h : But S σ σ2) : L2.wipe σ2 S = L2.wipe σ S := by
  refine List.ext_getElem? fun i => ?_
  by_cases hi : i ∈ S
  · by_cases hl : i < σ.length
    · rw [wipe_in hi hl, wipe_in hi (by rw [h.1]; exact hl)]
    · rw [List.getElem?_eq_none (by rw [wipe_length, h.1]; omega), List.getElem?_eq_none (by rw [wipe_length]; omega)]
  · rw [wipe_out hi, wipe_out hi, h.2 i hi]
theorem But.start {S : List Nat} {σ : L2.St} : But S σ (L2.wipe σ S) := ⟨wipe_length .., fun i hi => wipe_out hi⟩
theorem But.set {S : List Nat} {σ σ2 : L2.St} {i : Nat} {o : Option V} (h : But S σ σ2) (hi : i ∈ S) : But S σ (σ2.set i o) :=
  ⟨by rw [List.length_set]; exact h.1, fun j hj => by rw [List.getElem?_set_ne (fun (z : i = j) => hj (z ▸ hi))]; exact h.2 j hj⟩
theorem gAll_ok {H : Hp} {mt : Addr → Prop} {ms : List Addr} {K : L2.St → Hp → Prop} {S : List Nat} {σ0 : L2.St} : ∀ (tg : List Nat) (ds : List D) (vs : List V) (ρ : Env) (σ : L2.St), (∀ i ∈ tg, i ∈ S) → ds.length = tg.length → Rps H mt ms ds vs → EnvQ tg H mt ms ρ σ → But S σ0 σ →
    (∀ σ2, EnvR H mt ms (setAll tg ds ρ) σ2 → But S σ0 σ2 → K σ2 H) → gAll tg vs σ H K
  | [], ds, vs, ρ, σ, _, hl, r, e, bt, k => by
    have : ds = [] := List.length_eq_zero_iff.mp (by simpa using hl)
    subst this
    simp only [Rps] at r
    subst r
    exact ⟨rfl, k σ (by simpa [setAll] using e.r) bt⟩
  | i :: tg, [], vs, ρ, σ, _, hl, r, e, bt, k => by simp at hl
  | i :: tg, d :: ds, vs, ρ, σ, hS, hl, r, e, bt, k => by
    obtain ⟨v, us, rfl, h1, r⟩ := r.uncons
    refine ⟨v, us, rfl, ?_⟩
    exact gAll_ok tg ds us (ρ.set i (some d)) (σ.set i (some v)) (fun j hj => hS j (List.mem_cons_of_mem _ hj)) (by simpa using hl) r (e.set h1) (bt.set (hS i List.mem_cons_self)) (by simpa only [setAll] using k)
theorem tgt_ok {K : PySem.W.Frag} {H : Hp} {mt : Addr → Prop} {ms : List Addr} {tg : List Nat} {d : D} {v : V} {ρ ρ1 : Env} {σ : L2.St} {Q : L2.St → Hp → Prop} (e : tgt tg d ρ = some ρ1) (er : EnvR H mt ms ρ σ) (r : Rp H mt ms d v)
    (k : ∀ σ2, EnvR H mt ms ρ1 σ2 → L2.wipe σ2 tg = L2.wipe σ tg → Q σ2 H) : gT K tg v (L2.wipe σ tg) H Q := by
  unfold tgt at e
  split at e
  · rename_i i
    cases e
    exact k _ (EnvQ.r ((EnvQ.of [i] er).set r)) (But.wipe (But.start.set List.mem_cons_self))
  · rename_i hne
    split at e
    · rename_i ds
      split at e
      · rename_i hl
        cases e
        simp only [Rp] at r
        obtain ⟨a, vs, rfl, _, h, _, r⟩ := r
        have main : gTup K tg.length (gAll tg) (.ref a) (L2.wipe σ tg) H Q := ⟨a, vs, rfl, .inl (.inl h), by rw [← r.length]; exact hl, gAll_ok (S := tg) (σ0 := σ) tg ds vs ρ _ (fun _ h => h) hl r (EnvQ.of tg er) But.start fun σ2 e2 b2 => k σ2 e2 b2.wipe⟩
        unfold gT
        split
        · rename_i i
          exact absurd rfl (hne i)
        · exact main
      · cases e
    · cases e
/-! the list that a comprehension makes -/
theorem ObR.laterM {H H' : Hp} {mt mt' : Addr → Prop} {ms ms' : List Addr} (l : LaterM H mt ms H' mt' ms') {o : Ob} {a : Addr} (h : ObR H mt ms o a) (k : H' a = H a) : ObR H' mt' ms' o a := by
  cases o with
  | lst ds => obtain ⟨vs, e, z, r⟩ := h; exact ⟨vs, by rw [k]; exact e, z, Rps.laterM l _ _ r⟩
  | dct ks ds => obtain ⟨vs, e, z, r⟩ := h; exact ⟨vs, by rw [k]; exact e, z, Rps.laterM l _ _ r⟩
  | ro ds => obtain ⟨vs, e, z, r⟩ := h; exact ⟨vs, by unfold Rd; rw [k]; exact e, z, Rps.laterM l _ _ r⟩
  | dead => trivial
section
variable {F : Addr → Prop} {H H1 : Hp} {ms ms1 : List Addr} {st s1 : Sto} {D : Addr} {u o : HO}
theorem fa_later (hD : H D = none) (o : HO) : LaterM H (Mt F ms st) ms (upd H D o) (Mt (FA F D) ms st) ms :=
  ⟨fun _ _ h => h, fun a h n z => (mt_fa.mp z).elim n (ne_fresh hD h), fun a vs _ h => by rw [upd_ne (ne_fresh hD (some_ne h))]; exact h, fun a vs h => by rw [upd_ne (ne_fresh hD (some_ne h))]; exact h,
    fun a u _ h => by unfold Rd; rw [upd_ne (ne_fresh hD (Rd.ne h))]; exact h, fun a h => by rw [upd_ne (ne_fresh hD h)]; exact h, fun a x y h => by rw [upd_ne (ne_fresh hD (some_ne h))]; exact h⟩
theorem fa_start (s : Sm F H ms st) (hD : H D = none) (o : HO) : Sm (FA F D) (upd H D o) ms st :=
  ⟨s.nd, s.len, fun i a ob h1 h2 => (s.at_ i a ob h1 h2).laterM (fa_later hD o) (upd_ne (ne_fresh hD (s.has a (List.mem_of_getElem? h1)))), fun a h => by rw [upd_ne (ne_fresh hD (s.has a h))]; exact s.has a h,
    fun a h => h.elim (fun h => by rw [upd_ne (ne_fresh hD (s.fr a h))]; exact s.fr a h) (fun h => by rw [h, upd_same]; intro z; cases z),
    fun a h z => h.elim (fun h => s.frn a h z) (fun h => s.has a z (h ▸ hD))⟩
/-- another thing at D -/
theorem fa_step (u o : HO) (hu : H D = some u) (nt : ∀ vs, u ≠ .tup vs) (nf : ∀ x y, u ≠ .frz x y) : LaterM H (Mt (FA F D) ms st) ms (upd H D o) (Mt (FA F D) ms st) ms := by
  have ne : ∀ a, ¬ Mt (FA F D) ms st a → a ≠ D := fun a h z => h (mt_fa.mpr (.inr z))
  refine ⟨fun _ _ h => h, fun a _ n => n, fun a vs n h => by rw [upd_ne (ne a n)]; exact h, fun a vs h => ?_, fun a w n h => by unfold Rd; rw [upd_ne (ne a n)]; exact h, fun a h => ?_, fun a x y h => ?_⟩
  · rw [upd_ne (fun z => by subst z; rw [hu] at h; exact nt vs (Option.some.inj h))]; exact h
  · by_cases z : a = D
    · subst z; rw [upd_same]; intro z; cases z
    · rw [upd_ne z]; exact h
  · rw [upd_ne (fun z => by subst z; rw [hu] at h; exact nf x y (Option.some.inj h))]; exact h
theorem fa_sm (s : Sm (FA F D) H ms st) (u o : HO) (hu : H D = some u) (nt : ∀ vs, u ≠ .tup vs) (nf : ∀ x y, u ≠ .frz x y) : Sm (FA F D) (upd H D o) ms st := by
  have l := fa_step (F := F) (ms := ms) (st := st) u o hu nt nf
  exact ⟨s.nd, s.len, fun i a ob h1 h2 => (s.at_ i a ob h1 h2).laterM l (upd_ne fun z => s.frn D (.inr rfl) (z ▸ List.mem_of_getElem? h1)), fun a h => l.ne a (s.has a h), fun a h => l.ne a (s.fr a h), s.frn⟩
/-- from outside -/
theorem fa_out {H4 : Hp} {m4 : List Addr} {s4 : Sto} (sm1 : Sm F H1 ms1 s1) (hD : H1 D = none) (a : Later F H1 ms1 s1 H ms st) (b : Later (FA F D) H ms st H4 m4 s4) (o : HO) : Later F H1 ms1 s1 (upd H4 D o) m4 s4 := by
  have ne : ∀ x, H1 x ≠ none → x ≠ D := fun x h => ne_fresh hD h
  have nm : ∀ x, H1 x ≠ none → ¬ Mt F ms1 s1 x → ¬ Mt (FA F D) ms st x := fun x h n z => (mt_fa.mp z).elim (a.nm x h n) (ne x h)
  refine ⟨fun i x h => b.pre i x (a.pre i x h), fun x h n z => b.nm x (a.ne x h) (nm x h n) (mt_fa.mpr (.inl z)), fun x vs n h => ?_, fun x vs h => ?_, fun x u n h => ?_, fun x h => ?_, fun x y z h => ?_, fun x h => ?_⟩
  · rw [upd_ne (ne x (some_ne h))]; exact b.lst x vs (nm x (some_ne h) n) (a.lst x vs n h)
  · rw [upd_ne (ne x (some_ne h))]; exact b.tup x vs (a.tup x vs h)
  · unfold Rd; rw [upd_ne (ne x (Rd.ne h))]; exact b.dK x u (nm x (Rd.ne h) n) (a.dK x u n h)
  · rw [upd_ne (ne x h)]; exact b.ne x (a.ne x h)
  · rw [upd_ne (ne x (some_ne h))]; exact b.frz x y z (a.frz x y z h)
  · rw [upd_ne (ne x (sm1.fr x h))]; exact (b.own x (.inl h)).trans (a.own x h)
theorem fa_out0 {H4 : Hp} {m4 : List Addr} {s4 : Sto} (sm1 : Sm F H1 ms1 s1) (hD : H1 D = none) (a : Later F H1 ms1 s1 H ms st) (b : Later (FA F D) H ms st H4 m4 s4) : Later F H1 ms1 s1 H4 m4 s4 := by
  cases h : H4 D with
  | none =>
    have ne : ∀ x, H1 x ≠ none → x ≠ D := fun x h => ne_fresh hD h
    have nm : ∀ x, H1 x ≠ none → ¬ Mt F ms1 s1 x → ¬ Mt (FA F D) ms st x := fun x h n z => (mt_fa.mp z).elim (a.nm x h n) (ne x h)
    exact ⟨fun i x h => b.pre i x (a.pre i x h), fun x h n z => b.nm x (a.ne x h) (nm x h n) (mt_fa.mpr (.inl z)), fun x vs n h => b.lst x vs (nm x (some_ne h) n) (a.lst x vs n h), fun x vs h => b.tup x vs (a.tup x vs h),
      fun x u n h => b.dK x u (nm x (Rd.ne h) n) (a.dK x u n h), fun x h => b.ne x (a.ne x h), fun x y z h => b.frz x y z (a.frz x y z h), fun x h => (b.own x (.inl h)).trans (a.own x h)⟩
  | some u =>
    have := fa_out sm1 hD a b u
    have e : upd H4 D u = H4 := by funext x; unfold upd; split <;> simp_all
    rwa [e] at this
theorem fa_in (sm1 : Sm F H1 ms1 s1) (hD : H1 D = none) (a : Later F H1 ms1 s1 H ms st) : LaterM H1 (Mt F ms1 s1) ms1 H (Mt (FA F D) ms st) ms :=
  ⟨a.pre, fun x h n z => (mt_fa.mp z).elim (a.nm x h n) (ne_fresh hD h), a.lst, a.tup, a.dK, a.ne, a.frz⟩
/-- D is a value, or the store's own -/
theorem fa_weak : LaterM H (Mt (FA F D) ms st) ms H (Mt F ms st) ms := ⟨fun _ _ h => h, fun a _ n z => n (mt_fa.mpr (.inl z)), fun _ _ _ h => h, fun _ _ h => h, fun _ _ _ h => h, fun _ h => h, fun _ _ _ h => h⟩
theorem fa_free (s : Sm (FA F D) H ms st) : Sm F H ms st :=
  ⟨s.nd, s.len, fun i a ob h1 h2 => (s.at_ i a ob h1 h2).laterM fa_weak rfl, s.has, fun a h => s.fr a (.inl h), fun a h => s.frn a (.inl h)⟩
theorem fa_not (s : Sm (FA F D) H ms st) (nF : ¬ F D) : ¬ Mt F ms st D := by
  rintro (h | ⟨i, ob, h1, _⟩)
  · exact nF h
  · exact s.frn D (.inr rfl) (List.mem_of_getElem? h1)
theorem mt_adopt (ob : Ob) (hl : ms.length = st.length) {a : Addr} : Mt F (ms ++ [D]) (st ++ [ob]) a → Mt (FA F D) ms st a := by
  rintro (h | ⟨i, o, h1, h2, h3⟩)
  · exact .inl (.inl h)
  by_cases hi : i < ms.length
  · rw [List.getElem?_append_left hi] at h1
    rw [List.getElem?_append_left (by rw [← hl]; exact hi)] at h2
    exact .inr ⟨i, o, h1, h2, h3⟩
  · rw [List.getElem?_append_right (by omega)] at h1
    by_cases hj : i - ms.length = 0
    · rw [hj] at h1; simp at h1; exact .inl (.inr h1.symm)
    · rw [List.getElem?_eq_none (by simp; omega)] at h1; cases h1
theorem fa_adoptM (ob : Ob) (hl : ms.length = st.length) : LaterM H (Mt (FA F D) ms st) ms H (Mt F (ms ++ [D]) (st ++ [ob])) (ms ++ [D]) :=
  ⟨fun i a h => by rw [List.getElem?_append_left (List.getElem?_eq_some_iff.mp h).1]; exact h, fun a _ n z => n (mt_adopt ob hl z), fun _ _ _ h => h, fun _ _ h => h, fun _ _ _ h => h, fun _ h => h, fun _ _ _ h => h⟩
theorem fa_adopt (s : Sm (FA F D) H ms st) (nF : ¬ F D) {ob : Ob} (h : ObR H (Mt (FA F D) ms st) ms ob D) : Sm F H (ms ++ [D]) (st ++ [ob]) := by
  have hn : D ∉ ms := s.frn D (.inr rfl)
  have l := fa_adoptM (F := F) (H := H) (D := D) ob s.len
  refine ⟨?_, by simp [s.len], fun i a o h1 h2 => ?_, fun a h => ?_, fun a h => s.fr a (.inl h), fun a hf z => ?_⟩
  · rw [List.nodup_append]
    exact ⟨s.nd, by simp, fun x hx y hy e => by simp at hy; subst hy; exact hn (e ▸ hx)⟩
  · by_cases hi : i < ms.length
    · rw [List.getElem?_append_left hi] at h1
      rw [List.getElem?_append_left (by rw [← s.len]; exact hi)] at h2
      exact (s.at_ i a o h1 h2).laterM l rfl
    · rw [List.getElem?_append_right (by omega)] at h1
      rw [List.getElem?_append_right (by rw [← s.len]; omega)] at h2
      by_cases hj : i - ms.length = 0
      · rw [hj] at h1
        rw [← s.len, hj] at h2
        simp at h1 h2
        subst h1; subst h2
        exact h.laterM l rfl
      · rw [List.getElem?_eq_none (by simp; omega)] at h1; cases h1
  · rcases List.mem_append.mp h with h | h
    · exact s.has a h
    · simp at h; subst h; exact s.fr a (.inr rfl)
  · rcases List.mem_append.mp z with z | z
    · exact s.frn a (.inl hf) z
    · simp at z; exact nF (z ▸ hf)
theorem fa_adopt_later {H2 : Hp} {m2 : List Addr} {s2 : Sto} (sm1 : Sm F H1 ms1 s1) (hD : H1 D = none) (a : Later F H1 ms1 s1 H2 m2 s2) (hl : m2.length = s2.length) (ob : Ob) : Later F H1 ms1 s1 H2 (m2 ++ [D]) (s2 ++ [ob]) :=
  ⟨fun i x h => by
      have := a.pre i x h
      rw [List.getElem?_append_left (List.getElem?_eq_some_iff.mp this).1]; exact this,
    fun x h n z => (mt_fa.mp (mt_adopt ob hl z)).elim (a.nm x h n) (ne_fresh hD h), a.lst, a.tup, a.dK, a.ne, a.frz, a.own⟩
end
/-! the tests of a comprehension -/
def tTs (XR : XRel) (C : Nat → List D → Sto → Rs D) (X : WX) (es : Es) : TT := fun σ H Q => ∃ F ρ ms st, Sm F H ms st ∧ EnvR H (Mt F ms st) ms ρ σ ∧ Pst XR F bRel (evTs C es ρ st) H ms st Q (wx X σ)
theorem PTs.imp {X : Cx} {e : List Expr} {t t' : TT} (h : PTs X e t) (k : ∀ σ H Q, t' σ H Q → t σ H Q) : PTs X e t' := ⟨fun pins s σ H Q I q => h.run pins s σ H Q I (k σ H Q q)⟩
section
variable {X : Cx} {XR : XRel} {C : Nat → List D → Sto → Rs D} {E : WX}
theorem sts_nil : PTs X [] (tTs XR C E .nil) := PTs.imp pts_nil fun σ H Q ⟨F, ρ, ms, st, sm, er, p⟩ => Pst.ok (Rel := bRel) p sm rfl
theorem sts_one {a : Expr} {x : Mi.E} (ha : PT X a (tT XR C E x)) : PTs X [a] (tTs XR C E (.cons x .nil)) := PTs.imp (pts_one ha) fun σ H Q ⟨F, ρ, ms, st, sm, er, p⟩ => by
  refine ⟨F, ρ, ms, st, sm, er, Pst.bind (Rel2 := bRel) p fun t s1 b H1 ms1 _ l1 sm1 r1 p1 => ?_⟩
  have e : t = b := r1
  subst e
  cases t with
  | true => exact Pst.ok (Rel := bRel) (a := true) (by simpa [evTs] using p1) sm1 rfl
  | false => exact Pst.ok (Rel := bRel) (a := false) (by simpa using p1) sm1 rfl
end
end Mi
end

section
set_option linter.all false
set_option maxRecDepth 100000
set_option autoImplicit false
/-! Mi: a list comprehension is what the run says. -/
namespace Mi
open PySem L2
variable [Cls]
abbrev XN : WX := fun _ _ _ _ => False
/-- one turn -/
def turnF (C : Nat → List D → Sto → Rs D) (tg : List Nat) (ifs : Es) (elt : E) (ρ : Env) : D → Sto → Rs (Option D) := fun x s => match tgt tg x ρ with
      | some ρ1 => (evTs C ifs ρ1 s).bind fun t s2 => if t then (evE C elt ρ1 s2).bind fun y s3 => .ok (some y) s3 else .ok none s2
      | none => .stuck
section
variable {X : Cx} {XR : XRel} {C : Nat → List D → Sto → Rs D} {E : WX}
theorem comp_imp {K : PySem.W.Frag} {m : Bool} {elt : Mi.E} {tg : List Nat} {src : Sr} {ifs : Es} {own : List Nat} {σ : L2.St} {H : Hp} {Q : VK} (h : tE XR C E (.comp m elt tg src ifs own) σ H Q) :
    tLc (tR XR C E src) (gT K tg) (tTs XR C XN ifs) (tE XR C XN elt) tg σ H Q := by
  obtain ⟨F, ρ, ms, st, sm, er, p⟩ := h
  refine ⟨F, ρ, ms, st, sm, er, Pst.bind (Rel2 := wRel) p fun xs s1 J H1 ms1 _ l1 sm1 wj p1 => ?_⟩
  replace er := er.later l1
  intro D hD
  have nF : ¬ F D := fun z => sm1.fr D z hD
  have p1 : Pst XR F Rp (if xs.length ≤ big then (compL (turnF C tg ifs elt ρ) xs s1).bind fun ys s2 => newList m ys s2 else .stuck) H1 ms1 s1 Q (wx E σ) := p1
  split at p1
  case isFalse => exact p1.elim
  rename_i hbig
  have big' : ∀ ys : List Mi.D, ys.length ≤ big → ys.length ≤ sizeLine := fun ys h => by rw [← big_eq]; exact h
  -- the state behind i turns
  refine ⟨fun i k H' => k = xs.length - i ∧ i ≤ xs.length ∧ ∃ ms' s' accV ysd, Later F H1 ms1 s1 H' ms' s' ∧ Sm (FA F D) H' ms' s' ∧ H' D = some (.lst accV) ∧ Rps H' (Mt (FA F D) ms' s') ms' ysd accV ∧ accV.length ≤ i ∧
      Pst XR F Rp ((compL (turnF C tg ifs elt ρ) (xs.drop i) s').bind fun ys s2 => newList m (ysd ++ ys) s2) H1 ms1 s1 Q (wx E σ),
    ⟨xs.length, by simp, Nat.zero_le _, ms1, s1, [], [], later_new sm1 hD, fa_start sm1 hD _, upd_same, Rps.nil, Nat.le_refl _, by simpa using p1⟩, ?_⟩
  rintro i k H' ⟨rfl, hi, ms', s', accV, ysd, l, smF, hDl, rr, hz, pr⟩
  obtain ⟨ws, wg⟩ := wj _ H' ms' s' (fa_in sm1 hD l) smF
  by_cases hlt : i < xs.length
  · -- a turn
    have hx : xs[i]? = some xs[i] := List.getElem?_eq_getElem hlt
    obtain ⟨go, yl⟩ := wg i _ hx
    refine .inr ⟨go, fun H'' => i + 1 ≤ xs.length ∧ ∃ ms' s' accV ysd, Later F H1 ms1 s1 H'' ms' s' ∧ Sm (FA F D) H'' ms' s' ∧ H'' D = some (.lst accV) ∧ Rps H'' (Mt (FA F D) ms' s') ms' ysd accV ∧ accV.length ≤ i + 1 ∧
      Pst XR F Rp ((compL (turnF C tg ifs elt ρ) (xs.drop (i + 1)) s').bind fun ys s2 => newList m (ysd ++ ys) s2) H1 ms1 s1 Q (wx E σ), fun H'' q => ⟨xs.length - (i + 1), by omega, rfl, q⟩, fun v H2 y => ?_⟩
    obtain ⟨l2, sm2, rx⟩ := yl v H2 y
    have hdrop : xs.drop i = xs[i] :: xs.drop (i + 1) := by rw [List.drop_eq_getElem_cons hlt]
    rw [hdrop] at pr
    simp only [compL, Rs.bind_assoc] at pr
    -- what the turn's run says
    cases ht : turnF C tg ifs elt ρ xs[i] s' with
    | stuck => rw [ht] at pr; exact pr.elim
    | ex c ds s => rw [ht] at pr; exact pr.elim
    | ok o s3 =>
    rw [ht] at pr
    simp only [noex, Rs.bind] at pr
    unfold turnF at ht
    cases htg : tgt tg xs[i] ρ with
    | none => rw [htg] at ht; cases ht
    | some ρ1 =>
    rw [htg] at ht
    simp only at ht
    have l02 : Later F H1 ms1 s1 H2 ms' s' := fa_out0 sm1 hD l l2
    have er2 : EnvR H2 (Mt (FA F D) ms' s') ms' ρ σ := ⟨er.1, fun j d e => by obtain ⟨w, e1, r⟩ := er.2 j d e; exact ⟨w, e1, Rp.laterM (fa_in sm1 hD l02) d w r⟩⟩
    refine tgt_ok htg er2 rx fun σ2 er3 hw => ⟨hw, FA F D, ρ1, ms', s', sm2, er3, ?_⟩
    cases hts : evTs C ifs ρ1 s' with
    | stuck => rw [hts] at ht; cases ht
    | ex c ds s => rw [hts] at ht; cases ht
    | ok t s2 =>
    rw [hts] at ht
    simp only [Rs.bind] at ht
    intro b H3 ms3 l3 sm3 eb
    have eb : t = b := eb
    subst eb
    have l03 : Later (FA F D) H' ms' s' H3 ms3 s2 := l2.trans l3
    have hD3 : H3 D = some (.lst accV) := (l03.own D (.inr rfl)).trans hDl
    cases t with
    | false =>
      simp only [Bool.false_eq_true, if_false, Rs.ok.injEq] at ht
      obtain ⟨rfl, rfl⟩ := ht
      rw [if_neg (by decide)]
      refine ⟨hlt, ms3, s2, accV, ysd, fa_out0 sm1 hD l l03, sm3, hD3, Rps.later l03 _ _ rr, by omega, ?_⟩
      simpa only [Rs.bind_assoc, Rs.bind] using pr
    | true =>
      simp only [if_true] at ht
      rw [if_pos rfl]
      refine ⟨FA F D, ρ1, ms3, s2, sm3, er3.later l3, ?_⟩
      cases he : evE C elt ρ1 s2 with
      | stuck => rw [he] at ht; cases ht
      | ex c ds s => rw [he] at ht; cases ht
      | ok y s3' =>
      rw [he] at ht
      simp only [Rs.bind, Rs.ok.injEq] at ht
      obtain ⟨rfl, rfl⟩ := ht
      intro w H4 ms4 l4 sm4 ry
      have l04 : Later (FA F D) H' ms' s' H4 ms4 s3' := l03.trans l4
      have hD4 : H4 D = some (.lst accV) := (l04.own D (.inr rfl)).trans hDl
      have st4 := fa_step (F := F) (ms := ms4) (st := s3') (HO.lst accV) (HO.lst (accV ++ [w])) hD4 (fun _ z => nomatch z) (fun _ _ z => nomatch z)
      refine ⟨accV, hD4, ?_, hlt, ms4, s3', accV ++ [w], ysd ++ [y], fa_out sm1 hD l l04 _, fa_sm sm4 _ _ hD4 (fun _ z => nomatch z) (fun _ _ z => nomatch z), upd_same,
        Rps.laterM st4 _ _ (Rps.append (Rps.later l04 _ _ rr) (Rps.cons ry Rps.nil)), by simp; omega, ?_⟩
      · -- the size
        rw [← big_eq]
        omega
      · simpa only [Rs.bind_assoc, Rs.bind, List.append_assoc, List.singleton_append] using pr
  · -- the end
    have e : i = xs.length := by omega
    subst e
    refine .inl ⟨ws, ?_⟩
    rw [List.drop_length] at pr
    simp only [compL, Rs.bind, List.append_nil] at pr
    unfold newList at pr
    split at pr
    · rename_i hb
      cases m with
      | false =>
        simp only [Bool.false_eq_true, if_false] at pr
        refine pr _ H' ms' l (fa_free smF) ?_
        simp only [Rp]
        exact ⟨D, accV, rfl, fa_not smF nF, hDl, big' _ hb, Rps.laterM fa_weak _ _ rr⟩
      | true =>
        simp only [if_true] at pr
        refine pr _ H' (ms' ++ [D]) (fa_adopt_later sm1 hD l smF.len _) (fa_adopt smF nF ⟨accV, hDl, big' _ hb, rr⟩) ?_
        simp only [Rp]
        refine ⟨D, rfl, ?_⟩
        rw [← smF.len, List.getElem?_append_right (Nat.le_refl _), Nat.sub_self]
        rfl
    · exact pr.elim
end
end Mi
end

section
set_option linter.all false
set_option maxRecDepth 100000
set_option autoImplicit false
/-! Mi: own calls; what they let out. -/
namespace Mi
open PySem L2
variable [Cls]
/-- how an error lies that flies -/
def X0 : XRel := fun H mt ms c ds cls oe => cls = .ref (Cls.ca c) ∧ ds.length = (Cls.fl c).length ∧ match oe with
  | none => Cls.fl c = []
  | some dx => ¬ mt dx ∧ ∃ vs, H dx = some (.xd ((Cls.fl c).zip vs)) ∧ Rps H mt ms ds vs
def spN (P : List Fn) (k i : Nat) : Sp := fun vs H Q E => ∃ F ms st ds, Sm F H ms st ∧ Rps H (Mt F ms st) ms ds vs ∧ Pst X0 F Rp (callN P k i ds st) H ms st Q E
structure OwnOk (P : List Fn) (k : Nat) (X : Cx) (x : PySem.Str) (i : Nat) : Prop where
  ex : ∃ f fd ps, FnOk X.prog X.w X.K X.mg X.base (L2.CX X.prog X.w) k f fd ps (spN P k i) ∧ X.mg x = some (.ref f) ∧ PySem.W.keepIn X.K (.ref f) = true ∧ Binds X.K fd ps []
theorem pe_callS0 {X : Cx} {CX : CXT} {k : Nat} {f : Addr} {fd : FuncData} {ps : List PySem.Str} {sp : Sp} {E : L2.St → XK} {x : PySem.Str} {p pos : Pos} (F : FnOk X.prog X.w X.K X.mg X.base CX k f fd ps sp) (hr : Room k X.A) (hg : Gl X x) (hm : X.mg x = some (.ref f)) (hk : PySem.W.keepIn X.K (.ref f) = true) (hb : Binds X.K fd ps []) (hx : ∀ σ, PassesAt CX X σ (E σ))
    (hdb : (x == ("__debug__" : PySem.Str)) = false) : PE X (.Call (.Name x p) [] [] pos) (tCallS sp E tNil) := by
  refine ⟨fun pins s σ H Q I h => ?_⟩
  refine wpAny_Call_Name_kw (ld_glob I hg hm ?_ hdb)
  exact PySem.W.callWith_K0 I.kIn hk (run_fnS (us := []) F hr hb (hx σ) I .nil h)
theorem se_call {X : Cx} {P : List Fn} {k i : Nat} {W : WX} {x : PySem.Str} {as : List Expr} {es : Es} {p pos : Pos} (tk : Takes X W) (o : OwnOk P k X x i) (hr : Room k X.A) (hg : Gl X x) (hd : (x == ("__debug__" : PySem.Str)) = false) (ha : PA X as (tA X0 (callN P k) W es)) (hs : as.all notStar = true) (hn : as = [] → es = .nil) :
    PE X (.Call (.Name x p) as [] pos) (tE X0 (callN P k) W (.call i es)) := by
  obtain ⟨f, fd, ps, F, hm, hk, hb⟩ := o.ex
  have main : ∀ {σ : L2.St} {H : Hp} {Q : VK}, tE X0 (callN P k) W (.call i es) σ H Q → tCallS (spN P k i) (WE W) (tA X0 (callN P k) W es) σ H Q := fun {σ H Q} ⟨F, ρ, ms, st, sm, er, p⟩ => by
    refine ⟨F, ρ, ms, st, sm, er, Pst.bind p fun ds s1 vs H1 ms1 _ l1 sm1 r1 p1 => ?_⟩
    exact ⟨F, ms1, s1, ds, sm1, r1, p1⟩
  cases as with
  | nil =>
    refine PE.imp (pe_callS0 F hr hg hm hk hb (passAt tk) hd) fun σ H Q h => ?_
    obtain ⟨F, ρ, ms, st, sm, er, p⟩ := h
    obtain rfl := hn rfl
    simp only [evE, evEs, Rs.bind] at p
    exact ⟨F, ms, st, [], sm, Rps.nil, p⟩
  | cons a as =>
    rw [List.all_cons, Bool.and_eq_true] at hs
    exact PE.imp (pe_callS F hr hg hm hk hb (passAt tk) ha hd (starEach_cons hs.1) (any_back hs.2)) fun σ H Q h => main h
end Mi
end

section
set_option linter.all false
set_option maxRecDepth 100000
set_option autoImplicit false
/-! Mi: isinstance. -/
namespace Mi
open PySem L2
variable [Cls]
def tyN : Ty → String
  | .int => "int" | .str => "str" | .bool => "bool" | .list => "list" | .tuple => "tuple" | .none => "NoneType"
def tyS : Ty → PySem.Str
  | .int => "int" | .str => "str" | .bool => "bool" | .list => "list" | .tuple => "tuple" | .none => "NoneType"
def okTy : Ty → Bool
  | .none => false
  | _ => true
theorem boot_ty {t : Ty} (h : okTy t = true) : bootBuiltins (tyS t) = some (.type (tyN t)) := by
  cases t <;> first | decide +kernel | cases h
theorem tyS_name (t : Ty) : tyS t ≠ ("__name__" : PySem.Str) := by cases t <;> simp only [tyS] <;> decide
theorem tyS_debug (t : Ty) : (tyS t == ("__debug__" : PySem.Str)) = false := by cases t <;> simp only [tyS] <;> decide
theorem kit_all (a b : Ty) (h : okTy b = true) : kitB (tyN a) (tyN b) = some (decide (a = b) || (decide (a = .bool) && decide (b = .int))) := by
  cases a <;> cases b <;> first | decide +kernel | cases h
section
variable {X : Cx} {XR : XRel} {C : Nat → List D → Sto → Rs D} {E : WX}
theorem ty_of {K : PySem.W.Frag} {H : Hp} {mt : Addr → Prop} {ms : List Addr} {d : D} {v : V} {t : Ty} (h : typeOf d = some t) (r : Rp H mt ms d v) : TyX K H v (.type (tyN t)) := by
  cases d with
  | non => cases h; simp only [Rp] at r; subst r; exact .base .non
  | bl b => cases h; simp only [Rp] at r; subst r; exact .base (.bl b)
  | int b => cases h; simp only [Rp] at r; subst r; exact .base (.int b)
  | str c => cases h; simp only [Rp] at r; rw [r.1]; exact .base (.str _)
  | lst ds => cases h; simp only [Rp] at r; obtain ⟨a, vs, rfl, _, e, _⟩ := r; exact .base (.lst e)
  | tup ds => cases h; simp only [Rp] at r; obtain ⟨a, vs, rfl, _, e, _⟩ := r; exact .base (.tup e)
  | _ => cases h
theorem isInst_of {d : D} {t b : Ty} (h : typeOf d = some t) : isInst b d = some (decide (t = b) || (decide (t = .bool) && decide (b = .int))) := by
  unfold isInst; rw [h]; rfl
theorem typeOf_of {d : D} {b : Ty} {r : Bool} (h : isInst b d = some r) : ∃ t, typeOf d = some t := by
  unfold isInst at h
  cases e : typeOf d with
  | none => rw [e] at h; cases h
  | some t => exact ⟨t, rfl⟩
theorem kitAny_of {K : PySem.W.Frag} {d : D} {t : Ty} (h : typeOf d = some t) : ∀ {ts : List Ty} {b : Bool}, ts.all okTy = true → isInsts ts d = some b → PySem.W.kitAny K (.type (tyN t)) (ts.map fun t => .type (tyN t)) = some b
  | [], b, _, e => by cases e; exact kitAny_nil
  | u :: ts, b, ok, e => by
    rw [List.all_cons, Bool.and_eq_true] at ok
    have k := kit_all t u ok.1
    rw [isInsts, isInst_of h] at e
    refine kitAny_cons (kit_ty k) (fun hb => ?_) (fun hb => ?_)
    · rw [hb] at e
      exact kitAny_of h ok.2 e
    · rw [hb] at e
      exact (Option.some.inj e).symm
theorem insts_ty {d : D} {b : Bool} : ∀ {ts : List Ty}, ts ≠ [] → isInsts ts d = some b → ∃ t, typeOf d = some t
  | [], h, _ => absurd rfl h
  | u :: ts, _, e => by
    rw [isInsts] at e
    cases h : isInst u d with
    | none => rw [h] at e; cases e
    | some r => exact typeOf_of h
theorem pe_ty {t : Ty} {pos : Pos} (ok : okTy t = true) (hg : Gl X (tyS t)) (hm : X.mg (tyS t) = none) : PE X (.Name (tyS t) pos) (tC (.ty (tyN t))) := pe_bltn hg hm (boot_ty ok) rfl (tyS_name t) (tyS_debug t)
def tyArg : Ty → Expr → Bool
  | t, .Name x _ => decide (x = tyS t)
  | _, _ => false
def tyArgs : List Ty → List Expr → Bool
  | [], [] => true
  | t :: ts, e :: es => tyArg t e && tyArgs ts es
  | _, _ => false
def tTys (ts : List Ty) : TA := fun _ H Q => Q (ts.map fun t => V.ty (tyN t)) H
theorem pa_tys : ∀ {ts : List Ty} {es : List Expr}, tyArgs ts es = true → ts.all okTy = true → (∀ t ∈ ts, Gl X (tyS t) ∧ X.mg (tyS t) = none) → PA X es (tTys ts)
  | [], [], _, _, _ => PA.imp pa_nil fun σ H Q q => q
  | t :: ts, e :: es, h, ok, hg => by
    simp only [tyArgs, Bool.and_eq_true] at h
    rw [List.all_cons, Bool.and_eq_true] at ok
    obtain ⟨h1, h2⟩ := h
    unfold tyArg at h1
    split at h1
    · have := of_decide_eq_true h1
      subst this
      refine PA.imp (pa_cons (pe_ty ok.1 (hg t List.mem_cons_self).1 (hg t List.mem_cons_self).2) (pa_tys h2 ok.2 fun u hu => hg u (List.mem_cons_of_mem _ hu)) (starEach_cons rfl)) fun σ H Q q => q
    · cases h1
  | [], _ :: _, h, _, _ => by simp [tyArgs] at h
  | _ :: _, [], h, _, _ => by simp [tyArgs] at h
theorem cls_tys : ∀ ts : List Ty, Paired ClsV (ts.map fun t => V.ty (tyN t)) (ts.map fun t => Value.type (tyN t))
  | [] => .nil
  | t :: ts => .cons (.ty _) (cls_tys ts)
theorem isi_run {x : Mi.E} {ts : List Ty} {σ : L2.St} {H : Hp} {Q : VK} (h : tE XR C E (.blt (.isinst ts) (.cons x .nil)) σ H Q) (hn : ts ≠ []) :
    tE XR C E x σ H fun v H1 => ∃ t b, TyX X.K H1 v (.type (tyN t)) ∧ (∃ d, typeOf d = some t ∧ isInsts ts d = some b ∧ ∀ {F : Addr → Prop} {ms : List Addr} {st : Sto}, True) ∧ Q (.bl b) H1 ∧ ∀ p o, H1 p = none → TyX X.K (upd H1 p o) v (.type (tyN t)) ∧ Q (.bl b) (upd H1 p o) := by
  obtain ⟨F, ρ, ms, st, sm, er, p⟩ := h
  simp only [evE, evEs, Rs.bind_assoc] at p
  refine ⟨F, ρ, ms, st, sm, er, Pst.bind p fun d s1 v H1 ms1 _ l1 sm1 r1 p1 => ?_⟩
  simp only [Rs.bind, bltD] at p1
  cases hb : isInsts ts d with
  | none => rw [hb] at p1; exact p1.elim
  | some b =>
    rw [hb] at p1
    obtain ⟨t, ht⟩ := insts_ty hn hb
    refine ⟨t, b, ty_of ht r1, ⟨d, ht, hb, fun {_ _ _} => trivial⟩, Pst.ok (b := V.bl b) p1 sm1 (by simp only [Rp]), fun q o hq => ?_⟩
    have l2 := later_new (o := o) sm1 hq
    exact ⟨ty_of ht (Rp.later l2 _ _ r1), p1 (.bl b) _ ms1 l2 (sm1.new hq) (by simp only [Rp])⟩
theorem se_isi1 {x : Mi.E} {t : Ty} {a b : Expr} {p pos : Pos} (ok : okTy t = true) (hg : Gl X "isinstance") (hm : X.mg "isinstance" = none) (gt : Gl X (tyS t) ∧ X.mg (tyS t) = none) (ha : PE X a (tE XR C E x)) (hs : notStar a = true) (hb : tyArg t b = true) :
    PE X (.Call (.Name "isinstance" p) [a, b] [] pos) (tE XR C E (.blt (.isinst [t]) (.cons x .nil))) := by
  unfold tyArg at hb
  split at hb
  · have := of_decide_eq_true hb
    subst this
    refine PE.imp (pe_callB call_isi hg hm PyProof.Rows.boot_isinstance (pa_cons ha (pa_cons (pe_ty ok gt.1 gt.2) pa_nil (starEach_cons rfl)) (starEach_cons hs)) (by decide) (by decide) (starEach_cons hs) rfl) fun σ H Q h => ?_
    obtain ⟨F, ρ, ms, st, sm, er, q⟩ := isi_run (X := X) h (by simp)
    refine ⟨F, ρ, ms, st, sm, er, Pst.mono q fun v H1 ⟨u, b, ty, ⟨d, hd, hi, _⟩, q1, _⟩ => ?_⟩
    refine ⟨v, .ty (tyN t), .type (tyN u), .type (tyN t), b, rfl, .ty _, ty, ?_, q1⟩
    have k := kit_all u t ok
    refine kit_ty (k.trans ?_)
    rw [isInsts, isInst_of hd] at hi
    cases hh : (decide (u = t) || (decide (u = .bool) && decide (t = .int))) with
    | true => rw [hh] at hi; exact hi
    | false => rw [hh] at hi; simpa [isInsts] using hi
  · cases hb
theorem se_isiT {x : Mi.E} {ts : List Ty} {a : Expr} {es : List Expr} {kk : Nat} {p pos tpos : Pos} (hn : ts ≠ []) (hl : ts.length ≤ 10) (ok : ts.all okTy = true) (hg : Gl X "isinstance") (hm : X.mg "isinstance" = none) (gt : ∀ t ∈ ts, Gl X (tyS t) ∧ X.mg (tyS t) = none) (ha : PE X a (tE XR C E x)) (hs : notStar a = true) (hb : tyArgs ts es = true) :
    PE X (.Call (.Name "isinstance" p) [a, .Tuple es kk tpos] [] pos) (tE XR C E (.blt (.isinst ts) (.cons x .nil))) := by
  refine PE.imp (pe_callB call_isiT hg hm PyProof.Rows.boot_isinstance (pa_cons ha (pa_cons (pe_tup (pa_tys hb ok gt)) pa_nil (starEach_cons rfl)) (starEach_cons hs)) (by decide) (by decide) (starEach_cons hs) rfl) fun σ H Q h => ?_
  obtain ⟨F, ρ, ms, st, sm, er, q⟩ := isi_run (X := X) h hn
  refine ⟨F, ρ, ms, st, sm, er, Pst.mono q fun v H1 ⟨u, b, _, ⟨d, hd, hi, _⟩, _, q1⟩ => ?_⟩
  refine ⟨by rw [List.length_map, ← big_eq]; exact Nat.le_trans hl (by decide), fun q hq => ?_⟩
  obtain ⟨ty, q2⟩ := q1 q (.tup (ts.map fun t => V.ty (tyN t))) hq
  refine ⟨v, q, _, .type (tyN u), ts.map fun t => .type (tyN t), b, rfl, upd_same, cls_tys ts, ty, kitAny_of hd ok hi, q2⟩
end
end Mi
end

section
set_option linter.all false
set_option maxRecDepth 100000
set_option autoImplicit false
/-! Mi: methods of lists and dicts; o[i] = v. -/
namespace Mi
open PySem L2
variable [Cls]
theorem repl_rp {H : Hp} {mt : Addr → Prop} {ms : List Addr} {k : K2} {v : D} {w : V} (rv : Rp H mt ms v w) : ∀ (ks : List K2) (ds : List D) (vs : List V), ks.length = ds.length → Rps H mt ms ds vs →
    ∃ vs', ((ks.map kOf).zip vs).map (fun kv => if kv.1 = kOf k then (kv.1, w) else kv) = (ks.map kOf).zip vs' ∧ Rps H mt ms (repl k v ks ds) vs' ∧ (repl k v ks ds).length = ds.length
  | [], [], vs, _, r => ⟨[], by simp, by simp only [repl]; exact Rps.nil, rfl⟩
  | [], _ :: _, vs, h, r => by simp at h
  | _ :: _, [], vs, h, r => by simp at h
  | j :: ks, d :: ds, vs, h, r => by
    obtain ⟨x, us, rfl, h1, r⟩ := r.uncons
    obtain ⟨vs', e, r', hl⟩ := repl_rp (k := k) rv ks ds us (by simpa using h) r
    refine ⟨(if j = k then w else x) :: vs', ?_, ?_, by simp [repl, hl]⟩
    · simp only [List.map_cons, List.zip_cons_cons, e]
      by_cases hj : j = k
      · subst hj; simp
      · simp [hj, kOf_inj]
    · simp only [repl]
      by_cases hj : j = k
      · simp only [hj, if_true]; exact Rps.cons rv r'
      · simp only [hj, if_false]; exact Rps.cons h1 r'
theorem any_zip {k : K2} : ∀ (ks : List K2) (vs : List V), ks.length = vs.length → (((ks.map kOf).zip vs).any fun kv => decide (kv.1 = kOf k)) = ks.any fun j => decide (j = k)
  | [], vs, _ => by simp
  | _ :: _, [], h => by simp at h
  | j :: ks, v :: vs, h => by
    simp only [List.map_cons, List.zip_cons_cons, List.any_cons]
    rw [any_zip ks vs (by simpa using h)]
    congr 1
    exact decide_eq_decide.mpr kOf_inj
theorem putK_rp {H : Hp} {mt : Addr → Prop} {ms : List Addr} {k : K2} {v : D} {w : V} {ks : List K2} {ds : List D} {vs : List V} (rv : Rp H mt ms v w) (hl : ks.length = ds.length) (r : Rps H mt ms ds vs) :
    ∃ vs', L2.putK ((ks.map kOf).zip vs) (kOf k) w = ((putK k v ks ds).1.map kOf).zip vs' ∧ (putK k v ks ds).1.length = (putK k v ks ds).2.length ∧ Rps H mt ms (putK k v ks ds).2 vs' := by
  unfold L2.putK putK
  rw [any_zip ks vs (by rw [hl, r.length])]
  cases h : ks.any fun j => decide (j = k) with
  | true =>
    simp only [if_true]
    obtain ⟨vs', e, r', hl'⟩ := repl_rp (k := k) rv ks ds vs hl r
    exact ⟨vs', e, by rw [hl', hl], r'⟩
  | false =>
    simp only [Bool.false_eq_true, if_false]
    refine ⟨vs ++ [w], ?_, by simp [hl], Rps.append r (Rps.cons rv Rps.nil)⟩
    rw [List.map_append, List.zip_append (by rw [List.length_map, hl, r.length])]
    rfl
section
variable {F : Addr → Prop} {H : Hp} {ms : List Addr} {st : Sto} {Q : VK} {XR : XRel} {E : XK}
theorem lst_at (s : Sm F H ms st) {n : Nat} {v : V} {ds : List D} (r : Rp H (Mt F ms st) ms (.ref n) v) (h : st[n]? = some (.lst ds)) : ∃ a vs, v = .ref a ∧ ms[n]? = some a ∧ H a = some (.lst vs) ∧ ds.length ≤ sizeLine ∧ Rps H (Mt F ms st) ms ds vs := by
  simp only [Rp] at r
  obtain ⟨a, rfl, ha⟩ := r
  obtain ⟨vs, e, z, rr⟩ := s.at_ n a _ ha h
  exact ⟨a, vs, rfl, ha, e, z, rr⟩
theorem dct_at (s : Sm F H ms st) {n : Nat} {v : V} {ks : List K2} {ds : List D} (r : Rp H (Mt F ms st) ms (.ref n) v) (h : st[n]? = some (.dct ks ds)) : ∃ a vs, v = .ref a ∧ ms[n]? = some a ∧ H a = some (.dK ((ks.map kOf).zip vs)) ∧ ks.length = ds.length ∧ Rps H (Mt F ms st) ms ds vs := by
  simp only [Rp] at r
  obtain ⟨a, rfl, ha⟩ := r
  obtain ⟨vs, e, z, rr⟩ := s.at_ n a _ ha h
  exact ⟨a, vs, rfl, ha, e, z, rr⟩
/-- the object n becomes another one -/
theorem set_lst (s : Sm F H ms st) {n : Nat} {a : Addr} {ds es : List D} {vs us : List V} (ha : ms[n]? = some a) (ho : st[n]? = some (.lst ds)) (e : H a = some (.lst vs)) (hz : es.length ≤ sizeLine) (r : Rps H (Mt F ms st) ms es us) :
    Later F H ms st (upd H a (.lst us)) ms (st.set n (.lst es)) ∧ Sm F (upd H a (.lst us)) ms (st.set n (.lst es)) := by
  have nt : ∀ ws, H a ≠ some (.tup ws) := fun ws z => by rw [e] at z; cases z
  have nf : ∀ x y, H a ≠ some (.frz x y) := fun x y z => by rw [e] at z; cases z
  have l := later_set (o' := .lst es) (u := .lst us) s ha ho nofun nt nf
  exact ⟨l, s.set ha ho nofun nt nf ⟨us, upd_same, hz, Rps.later l _ _ r⟩⟩
theorem set_dct (s : Sm F H ms st) {n : Nat} {a : Addr} {ks ks' : List K2} {ds es : List D} {us : List V} {u : List (Key × V)} (ha : ms[n]? = some a) (ho : st[n]? = some (.dct ks ds)) (e : H a = some (.dK u)) (hz : ks'.length = es.length) (r : Rps H (Mt F ms st) ms es us) :
    Later F H ms st (upd H a (.dK ((ks'.map kOf).zip us))) ms (st.set n (.dct ks' es)) ∧ Sm F (upd H a (.dK ((ks'.map kOf).zip us))) ms (st.set n (.dct ks' es)) := by
  have nt : ∀ ws, H a ≠ some (.tup ws) := fun ws z => by rw [e] at z; cases z
  have nf : ∀ x y, H a ≠ some (.frz x y) := fun x y z => by rw [e] at z; cases z
  have l := later_set (o' := .dct ks' es) (u := .dK ((ks'.map kOf).zip us)) s ha ho nofun nt nf
  exact ⟨l, s.set ha ho nofun nt nf ⟨us, upd_same, hz, Rps.later l _ _ r⟩⟩
end
def notCall : Expr → Bool
  | .Call (.Name _ _) [] [] _ => false
  | _ => true
theorem attr_plain {o : Expr} {m : PySem.Str} {env : PySem.Env} {w : Sem Value} (h : notCall o = true) : attributeBase o m env w = w := by
  unfold attributeBase
  split
  · cases h
  · rfl
section
variable {X : Cx} {XR : XRel} {C : Nat → List D → Sto → Rs D} {E : WX}
theorem few1 {a : Expr} {env : PySem.Env} {pos : Pos} (hs : notStar a = true) : ((backTo pos (starEach [a] env)).all (fun x => !x.1) && (backToKw pos (keywordEach [] env)).all (fun x => x.1.isSome)
      && decide (([a] : List Expr).length + ([] : List Keyword).length + (if ([] : List Keyword).isEmpty then 0 else 1) < 30)) = true := by
  rw [starEach_cons hs]; rfl
theorem m1_of {o a : Expr} {m : PySem.Str} {apos cpos : Pos} (ho : notCall o = true) (hs : notStar a = true) (hl : (apos.endLine == cpos.line) = true) : M1 X o m apos a cpos :=
  ⟨attr_plain ho, few1 hs, hl, by rw [starEach_cons hs]; rfl⟩
theorem m2_of {o a b : Expr} {m : PySem.Str} {apos cpos : Pos} (ho : notCall o = true) (hs : notStar a = true) (hs2 : notStar b = true) (hl : (apos.endLine == cpos.line) = true) : M2 X o m apos a b cpos :=
  ⟨attr_plain ho, by rw [starEach_cons hs, starEach_cons hs2]; rfl, hl, by rw [starEach_cons hs, starEach_cons hs2]; rfl⟩
/-- what a list's method with one argument asks -/
theorem lm_imp {m : Mf} {o e : Mi.E} {r : V → List V → Hp → VK → Prop} {σ : L2.St} {H : Hp} {Q : VK} (hm : m = .append ∨ m = .pop)
    (h : tE XR C E (.mth m o (.cons e .nil)) σ H Q)
    (k : ∀ {F : Addr → Prop} {H : Hp} {ms : List Addr} {st : Sto} {n : Nat} {d : D} {v w : V}, Sm F H ms st → Rp H (Mt F ms st) ms (.ref n) v → Rp H (Mt F ms st) ms d w → Pst XR F Rp (mthD st m (.ref n) [d]) H ms st Q (wx E σ) → r v [w] H Q) :
    tBM X.K "list" r (tE XR C E o) (tCons (tE XR C E e) tNil) σ H Q := by
  obtain ⟨F, ρ, ms, st, sm, er, p⟩ := h
  simp only [evE, evEs, Rs.bind_assoc] at p
  refine ⟨F, ρ, ms, st, sm, er, Pst.bind p fun x s1 v H1 ms1 _ l1 sm1 r1 p1 => ?_⟩
  split at p1
  case isFalse => exact p1.elim
  rename_i hr
  have hx : ∃ n ds, x = .ref n ∧ s1[n]? = some (.lst ds) := by
    rcases hm with rfl | rfl
    · cases x with
      | ref n =>
        simp only [recv] at hr
        split at hr
        · rename_i ds hd; exact ⟨n, ds, rfl, hd⟩
        · cases hr
      | _ => cases hr
    · cases x with
      | ref n =>
        simp only [recv] at hr
        split at hr
        · rename_i ds hd; exact ⟨n, ds, rfl, hd⟩
        · cases hr
      | _ => cases hr
  obtain ⟨n, ds, rfl, hn⟩ := hx
  obtain ⟨a, vs, e1, ha, he, _, _⟩ := lst_at sm1 r1 hn
  refine ⟨?_, F, ρ, ms1, s1, sm1, er.later l1, Pst.bind p1 fun d s2 w H2 ms2 _ l2 sm2 r2 p2 => ?_⟩
  · subst e1; exact .inl ⟨rfl, vs, .inl (.inl he)⟩
  · simp only [Rs.bind] at p2
    exact k sm2 (Rp.later l2 _ _ r1) r2 p2
theorem se_append {o a : Expr} {x y : Mi.E} {apos cpos : Pos} (ho : PE X o (tE XR C E x)) (ha : PE X a (tE XR C E y)) (hc : notCall o = true) (hs : notStar a = true) (hl : (apos.endLine == cpos.line) = true) :
    PE X (.Call (.Attribute o "append" apos) [a] [] cpos) (tE XR C E (.mth .append x (.cons y .nil))) :=
  PE.imp (pe_bm PySem.F.plainAttrs_list PySem.F.slot_list_append PySem.F.type_list_append mt_append ho (pa_cons ha pa_nil (starEach_cons hs)) (attr_plain hc) (few1 hs) hl (starEach_cons hs) rfl) fun σ H Q h => lm_imp (.inl rfl) h fun {F H ms st n d v w} sm rv rw' p => by
    simp only [mthD] at p
    split at p
    · rename_i ds hd
      split at p
      · rename_i hz
        obtain ⟨b, vs, rfl, hb, he, _, rr⟩ := lst_at sm rv hd
        have hz' : (ds ++ [d]).length ≤ sizeLine := by rw [List.length_append, ← big_eq]; exact hz
        obtain ⟨l, s2⟩ := set_lst sm hb hd he hz' (Rps.append rr (Rps.cons rw' Rps.nil))
        exact ⟨b, vs, w, rfl, rfl, he, by rw [← rr.length, ← big_eq]; exact hz, p .non _ ms l s2 (by simp only [Rp])⟩
      · exact p.elim
    · exact p.elim
theorem se_popAt {o a : Expr} {x y : Mi.E} {apos cpos : Pos} (ho : PE X o (tE XR C E x)) (ha : PE X a (tE XR C E y)) (hc : notCall o = true) (hs : notStar a = true) (hl : (apos.endLine == cpos.line) = true) :
    PE X (.Call (.Attribute o "pop" apos) [a] [] cpos) (tE XR C E (.mth .pop x (.cons y .nil))) :=
  PE.imp (pe_bm PySem.F.plainAttrs_list PySem.F.slot_list_pop PySem.F.type_list_pop mt_popAt ho (pa_cons ha pa_nil (starEach_cons hs)) (attr_plain hc) (few1 hs) hl (starEach_cons hs) rfl) fun σ H Q h => lm_imp (.inr rfl) h fun {F H ms st n d v w} sm rv rw' p => by
    cases d with
    | int i =>
      simp only [mthD] at p
      split at p
      · rename_i ds hd
        split at p
        · rename_i j hj
          split at p
          · rename_i z hz
            obtain ⟨b, vs, rfl, hb, he, hzz, rr⟩ := lst_at sm rv hd
            obtain ⟨y, hy, ry⟩ := rr.get hz
            obtain ⟨l, s2⟩ := set_lst sm hb hd he (Nat.le_trans (len_erase ds j) hzz) (rr.eraseIdx j)
            simp only [Rp] at rw'
            subst rw'
            have hj' : L2.ixN vs.length i = some j := by rw [← rr.length, ← ixN_eq]; exact hj
            obtain ⟨q1, q2, q3, q4⟩ := ixN_seq hj'
            have hb2 : (vs.length : Int) ≤ 16777216 := by
              have := rr.length
              have h3 : ds.length ≤ 16777216 := by rw [← big_eq] at hzz; exact hzz
              omega
            exact ⟨b, vs, i, j, y, rfl, rfl, he, by omega, by omega, q1, hy, p y _ ms l s2 (Rp.later l _ _ ry)⟩
          · exact p.elim
        · exact p.elim
      · exact p.elim
    | _ => exact p.elim
theorem se_get1 {o a : Expr} {x y : Mi.E} {apos cpos : Pos} (hu : X.A.units + 100 < cLine) (ho : PE X o (tE XR C E x)) (ha : PE X a (tE XR C E y)) (hc : notCall o = true) (hs : notStar a = true) (hl : (apos.endLine == cpos.line) = true) :
    PE X (.Call (.Attribute o "get" apos) [a] [] cpos) (tE XR C E (.mth .get x (.cons y .nil))) :=
  PE.imp (pe_dget1 (by omega) ho ha (m1_of hc hs hl)) fun σ H Q h => by
    obtain ⟨F, ρ, ms, st, sm, er, p⟩ := h
    simp only [evE, evEs, Rs.bind_assoc] at p
    refine ⟨F, ρ, ms, st, sm, er, Pst.bind p fun x s1 v H1 ms1 _ l1 sm1 r1 p1 => ?_⟩
    split at p1
    case isFalse => exact p1.elim
    rename_i hr
    obtain ⟨q, hq⟩ := Option.isSome_iff_exists.mp (show (dctOf s1 x).isSome = true from hr)
    obtain ⟨a, vs, rfl, hd, _, _⟩ := dctOf_rp sm1 r1 (ks := q.1) (ds := q.2) hq
    refine ⟨a, rfl, .inl ⟨_, hd⟩, F, ρ, ms1, s1, sm1, er.later l1, Pst.bind p1 fun d s2 w H2 ms2 _ l2 sm2 r2 p2 => ?_⟩
    simp only [Rs.bind, mthD] at p2
    cases hk : keyed s2 d x with
    | none => rw [hk] at p2; exact p2.elim
    | some o =>
      rw [hk] at p2
      obtain ⟨b, ov, e1, g, _, hh⟩ := keyed_rp sm2 r2 (Rp.later l2 _ _ r1) hk
      cases e1
      refine ⟨ov, g, ?_⟩
      rcases hh with ⟨rfl, rfl⟩ | ⟨w', u, rfl, rfl, ru⟩
      · exact Pst.ok (b := V.non) p2 sm2 (by simp only [Option.getD, Rp])
      · exact Pst.ok (b := u) p2 sm2 ru
end
end Mi
end

section
set_option linter.all false
set_option maxRecDepth 100000
set_option autoImplicit false
namespace Mi
open PySem L2
variable [Cls]
section
variable {X : Cx} {XR : XRel} {C : Nat → List D → Sto → Rs D} {E : WX}
theorem se_setd {o a b : Expr} {x y z : Mi.E} {apos cpos : Pos} (ho : PE X o (tE XR C E x)) (ha : PE X a (tE XR C E y)) (hb : PE X b (tE XR C E z)) (hc : notCall o = true) (hs : notStar a = true) (hs2 : notStar b = true) (hl : (apos.endLine == cpos.line) = true) :
    PE X (.Call (.Attribute o "setdefault" apos) [a, b] [] cpos) (tE XR C E (.mth .setdefault x (.cons y (.cons z .nil)))) :=
  PE.imp (pe_dsetd ho ha hb (m2_of hc hs hs2 hl)) fun σ H Q h => by
    obtain ⟨F, ρ, ms, st, sm, er, p⟩ := h
    simp only [evE, evEs, Rs.bind_assoc] at p
    refine ⟨F, ρ, ms, st, sm, er, Pst.bind p fun x s1 v H1 ms1 _ l1 sm1 r1 p1 => ?_⟩
    split at p1
    case isFalse => exact p1.elim
    rename_i hr
    have hx : ∃ n ks ds, x = .ref n ∧ s1[n]? = some (.dct ks ds) := by
      cases x with
      | ref n =>
        simp only [recv] at hr
        split at hr
        · rename_i ks ds hd; exact ⟨n, ks, ds, rfl, hd⟩
        · cases hr
      | _ => cases hr
    obtain ⟨n, ks, ds, rfl, hn⟩ := hx
    obtain ⟨a, vs, rfl, hma, hd, _, _⟩ := dct_at sm1 r1 hn
    refine ⟨a, rfl, .inl ⟨_, .inl hd⟩, F, ρ, ms1, s1, sm1, er.later l1, Pst.bind p1 fun d s2 w H2 ms2 _ l2 sm2 r2 p2 => ?_⟩
    refine ⟨F, ρ, ms2, s2, sm2, (er.later l1).later l2, Pst.bind p2 fun d' s3 w' H3 ms3 _ l3 sm3 r3 p3 => ?_⟩
    simp only [Rs.bind, mthD] at p3
    have r1' := Rp.later l3 _ _ (Rp.later l2 _ _ r1)
    have r2' := Rp.later l3 _ _ r2
    split at p3
    · rename_i ks3 ds3 k3 h3 hk
      obtain ⟨a', vs', e1, hma', hd', hl3, rr⟩ := dct_at sm3 r1' h3
      cases e1
      have hlen : ((ks3.map kOf).zip vs').length = ks3.length := by
        rw [List.length_zip, List.length_map, ← rr.length, ← hl3, Nat.min_self]
      have hkV := K2.of_v hk r2'
      split at p3
      case isFalse => exact p3.elim
      rename_i hz
      have hz' : ks3.length < sizeLine := by rw [← big_eq]; exact hz
      refine ⟨_, kOf k3, hd', hkV, by rw [hlen]; exact hz', fun v hv => ?_, fun e2 => ?_⟩
      · rcases valV_look k3 ks3 ds3 vs' rr with ⟨e1, e2⟩ | ⟨z, u, e1, e2, e3⟩
        · rw [e2] at hv; cases hv
        · rw [e2] at hv; cases hv
          rw [e1] at p3
          exact Pst.ok (b := v) p3 sm3 e3
      · rcases valV_look k3 ks3 ds3 vs' rr with ⟨e1, _⟩ | ⟨z, u, e1, e3, _⟩
        · rw [e1] at p3
          simp only at p3
          have hput : L2.putK ((ks3.map kOf).zip vs') (kOf k3) w' = ((ks3 ++ [k3]).map kOf).zip (vs' ++ [w']) := by
            unfold L2.putK
            have hnone : (((ks3.map kOf).zip vs').any fun kv => decide (kv.1 = kOf k3)) = false := by
              unfold valV at e2
              rw [Option.map_eq_none_iff] at e2
              rw [List.any_eq_false]
              intro q hq
              exact (List.find?_eq_none.mp e2) q hq
            rw [hnone]
            simp only [Bool.false_eq_true, if_false]
            rw [List.map_append, List.zip_append (by rw [List.length_map, hl3, rr.length])]
            rfl
          rw [hput]
          obtain ⟨l, s4⟩ := set_dct (ks' := ks3 ++ [k3]) (es := ds3 ++ [d']) sm3 hma' h3 hd' (by simp [hl3]) (Rps.append rr (Rps.cons r3 Rps.nil))
          exact p3 w' _ ms3 l s4 (Rp.later l _ _ r3)
        · rw [e2] at e3; cases e3
    · exact p3.elim
/-- o[i] = v -/
def rSetM : TSet := fun o i v H Q => rSetL o i v H Q ∨ rSetD o i v H Q
theorem set_both (hu : X.A.units + 1 < cLine) : PSet X rSetM := fun pins s σ H o i v ov iv u Q I ro ri rv h => by
  rcases h with h | h
  · exact set_list pins s σ H o i v ov iv u Q I ro ri rv h
  · exact set_dict hu pins s σ H o i v ov iv u Q I ro ri rv h
theorem setD_ok {F : Addr → Prop} {H : Hp} {ms : List Addr} {st s4 : Sto} {o i v : D} {ov iv vv : V} {Q : Hp → Prop} (sm : Sm F H ms st) (ro : Rp H (Mt F ms st) ms o ov) (ri : Rp H (Mt F ms st) ms i iv) (rv : Rp H (Mt F ms st) ms v vv) (h : setD st o i v = some s4)
    (k : ∀ H', Later F H ms st H' ms s4 → Sm F H' ms s4 → Q H') : rSetM ov iv vv H Q := by
  unfold setD at h
  split at h
  · rename_i n
    split at h
    · rename_i ds hd
      obtain ⟨a, vs, rfl, ha, he, hz, rr⟩ := lst_at sm ro hd
      split at h
      · rename_i i
        simp only [Rp] at ri
        subst ri
        cases hj : ixN ds.length i with
        | none => rw [hj] at h; cases h
        | some j =>
          rw [hj] at h
          cases h
          obtain ⟨l, s2⟩ := set_lst sm ha hd he (by rw [List.length_set]; exact hz) (Rps.set rv j rr)
          exact .inl ⟨a, vs, i, j, rfl, rfl, he, by rw [← rr.length, ← ixN_eq]; exact hj, k _ l s2⟩
      · cases h
    · rename_i ks ds hd
      obtain ⟨a, vs, rfl, ha, he, hl, rr⟩ := dct_at sm ro hd
      split at h
      · rename_i kk hk
        split at h
        · rename_i hz
          cases h
          obtain ⟨vs', e, hl', rr'⟩ := putK_rp (k := kk) rv hl rr
          have hlen : ((ks.map kOf).zip vs).length = ks.length := by
            rw [List.length_zip, List.length_map, ← rr.length, ← hl, Nat.min_self]
          obtain ⟨l, s2⟩ := set_dct sm ha hd he hl' rr'
          refine .inr ⟨a, _, rfl, .inl ⟨_, kOf kk, he, K2.of_v hk ri, by rw [hlen, ← big_eq]; exact hz, rfl⟩, ?_⟩
          rw [e]
          exact k _ l s2
        · cases h
      · cases h
    · cases h
  · cases h
end
end Mi
end

section
set_option linter.all false
set_option maxRecDepth 100000
set_option autoImplicit false
/-! Mi: a dict comprehension is what the run says. -/
namespace Mi
open PySem L2
variable [Cls]
/-- one turn -/
def turnK (C : Nat → List D → Sto → Rs D) (tg : List Nat) (ifs : Es) (kx vx : E) (ρ : Env) : D → Sto → Rs (Option (K2 × D)) := fun x s => match tgt tg x ρ with
      | some ρ1 => (evTs C ifs ρ1 s).bind fun t s2 => if t then (evE C kx ρ1 s2).bind fun k s3 => (evE C vx ρ1 s3).bind fun v s4 => match K2.of k with
          | some k => .ok (some (k, v)) s4
          | none => .stuck
        else .ok none s2
      | none => .stuck
theorem repl_len {k : K2} {v : D} : ∀ (ks : List K2) (ds : List D), (repl k v ks ds).length = ds.length
  | [], ds => by simp [repl]
  | _ :: _, [] => by simp [repl]
  | j :: ks, d :: ds => by simp [repl, repl_len ks ds]
theorem putK_len {k : K2} {v : D} {ks : List K2} {ds : List D} : (putK k v ks ds).1.length ≤ ks.length + 1 := by
  unfold putK
  split <;> simp
section
variable {X : Cx} {XR : XRel} {C : Nat → List D → Sto → Rs D} {E : WX}
theorem dcomp_imp {K : PySem.W.Frag} {m : Bool} {kx vx : Mi.E} {tg : List Nat} {src : Sr} {ifs : Es} {own : List Nat} {σ : L2.St} {H : Hp} {Q : VK} (h : tE XR C E (.dcomp m kx vx tg src ifs own) σ H Q) :
    tDc (tR XR C E src) (gT K tg) (tTs XR C XN ifs) (tE XR C XN kx) (tE XR C XN vx) tg σ H Q := by
  obtain ⟨F, ρ, ms, st, sm, er, p⟩ := h
  refine ⟨F, ρ, ms, st, sm, er, Pst.bind (Rel2 := wRel) p fun xs s1 J H1 ms1 _ l1 sm1 wj p1 => ?_⟩
  replace er := er.later l1
  intro D hD
  have nF : ¬ F D := fun z => sm1.fr D z hD
  have p1 : Pst XR F Rp (if xs.length ≤ big then (dcompL (turnK C tg ifs kx vx ρ) [] [] xs s1).bind fun p s2 => newDict m p s2 else .stuck) H1 ms1 s1 Q (wx E σ) := p1
  split at p1
  case isFalse => exact p1.elim
  rename_i hbig
  refine ⟨fun i k H' => k = xs.length - i ∧ i ≤ xs.length ∧ ∃ ms' s' acc ks ds, Later F H1 ms1 s1 H' ms' s' ∧ Sm (FA F D) H' ms' s' ∧ H' D = some (.dK ((ks.map kOf).zip acc)) ∧ ks.length = ds.length ∧ Rps H' (Mt (FA F D) ms' s') ms' ds acc ∧ ks.length ≤ i ∧
      Pst XR F Rp ((dcompL (turnK C tg ifs kx vx ρ) ks ds (xs.drop i) s').bind fun p s2 => newDict m p s2) H1 ms1 s1 Q (wx E σ),
    ⟨xs.length, by simp, Nat.zero_le _, ms1, s1, [], [], [], later_new sm1 hD, fa_start sm1 hD _, upd_same, rfl, Rps.nil, Nat.le_refl _, by simpa using p1⟩, ?_⟩
  rintro i k H' ⟨rfl, hi, ms', s', acc, ks, ds, l, smF, hDl, hkd, rr, hz, pr⟩
  obtain ⟨ws, wg⟩ := wj _ H' ms' s' (fa_in sm1 hD l) smF
  by_cases hlt : i < xs.length
  · obtain ⟨go, yl⟩ := wg i _ (List.getElem?_eq_getElem hlt)
    refine .inr ⟨go, fun H'' => i + 1 ≤ xs.length ∧ ∃ ms' s' acc ks ds, Later F H1 ms1 s1 H'' ms' s' ∧ Sm (FA F D) H'' ms' s' ∧ H'' D = some (.dK ((ks.map kOf).zip acc)) ∧ ks.length = ds.length ∧ Rps H'' (Mt (FA F D) ms' s') ms' ds acc ∧ ks.length ≤ i + 1 ∧
      Pst XR F Rp ((dcompL (turnK C tg ifs kx vx ρ) ks ds (xs.drop (i + 1)) s').bind fun p s2 => newDict m p s2) H1 ms1 s1 Q (wx E σ), fun H'' q => ⟨xs.length - (i + 1), by omega, rfl, q⟩, fun v H2 y => ?_⟩
    obtain ⟨l2, sm2, rx⟩ := yl v H2 y
    rw [List.drop_eq_getElem_cons hlt] at pr
    simp only [dcompL, Rs.bind_assoc] at pr
    cases ht : turnK C tg ifs kx vx ρ xs[i] s' with
    | stuck => rw [ht] at pr; exact pr.elim
    | ex c es s => rw [ht] at pr; exact pr.elim
    | ok o s3 =>
    rw [ht] at pr
    simp only [noex, Rs.bind] at pr
    unfold turnK at ht
    cases htg : tgt tg xs[i] ρ with
    | none => rw [htg] at ht; cases ht
    | some ρ1 =>
    rw [htg] at ht
    simp only at ht
    have l02 : Later F H1 ms1 s1 H2 ms' s' := fa_out0 sm1 hD l l2
    have er2 : EnvR H2 (Mt (FA F D) ms' s') ms' ρ σ := ⟨er.1, fun j d e => by obtain ⟨w, e1, r⟩ := er.2 j d e; exact ⟨w, e1, Rp.laterM (fa_in sm1 hD l02) d w r⟩⟩
    refine tgt_ok htg er2 rx fun σ2 er3 hw => ⟨hw, FA F D, ρ1, ms', s', sm2, er3, ?_⟩
    cases hts : evTs C ifs ρ1 s' with
    | stuck => rw [hts] at ht; cases ht
    | ex c es s => rw [hts] at ht; cases ht
    | ok t s2 =>
    rw [hts] at ht
    simp only [Rs.bind] at ht
    intro b H3 ms3 l3 sm3 eb
    have eb : t = b := eb
    subst eb
    have l03 : Later (FA F D) H' ms' s' H3 ms3 s2 := l2.trans l3
    have hD3 : H3 D = some (.dK ((ks.map kOf).zip acc)) := (l03.own D (.inr rfl)).trans hDl
    cases t with
    | false =>
      simp only [Bool.false_eq_true, if_false, Rs.ok.injEq] at ht
      obtain ⟨rfl, rfl⟩ := ht
      rw [if_neg (by decide)]
      refine ⟨hlt, ms3, s2, acc, ks, ds, fa_out0 sm1 hD l l03, sm3, hD3, hkd, Rps.later l03 _ _ rr, by omega, ?_⟩
      simpa only [Rs.bind] using pr
    | true =>
      simp only [if_true] at ht
      rw [if_pos rfl]
      refine ⟨FA F D, ρ1, ms3, s2, sm3, er3.later l3, ?_⟩
      cases hk : evE C kx ρ1 s2 with
      | stuck => rw [hk] at ht; cases ht
      | ex c es s => rw [hk] at ht; cases ht
      | ok kd s3' =>
      rw [hk] at ht
      simp only at ht
      intro kv H4 ms4 l4 sm4 rk
      refine ⟨FA F D, ρ1, ms4, s3', sm4, (er3.later l3).later l4, ?_⟩
      cases hv : evE C vx ρ1 s3' with
      | stuck => rw [hv] at ht; cases ht
      | ex c es s => rw [hv] at ht; cases ht
      | ok vd s4' =>
      rw [hv] at ht
      simp only at ht
      intro vv H5 ms5 l5 sm5 rv
      cases hof : K2.of kd with
      | none => rw [hof] at ht; cases ht
      | some k2 =>
      rw [hof] at ht
      simp only [Rs.ok.injEq] at ht
      obtain ⟨rfl, rfl⟩ := ht
      have l05 : Later (FA F D) H' ms' s' H5 ms5 s4' := (l03.trans l4).trans l5
      have hD5 : H5 D = some (.dK ((ks.map kOf).zip acc)) := (l05.own D (.inr rfl)).trans hDl
      have rr5 := Rps.later l05 _ _ rr
      obtain ⟨acc', e', hl', rr'⟩ := putK_rp (k := k2) rv hkd rr5
      have hlen : ((ks.map kOf).zip acc).length = ks.length := by
        rw [List.length_zip, List.length_map, ← rr.length, ← hkd, Nat.min_self]
      have st5 := fa_step (F := F) (ms := ms5) (st := s4') (HO.dK ((ks.map kOf).zip acc)) (HO.dK (((putK k2 vd ks ds).1.map kOf).zip acc')) hD5 (fun _ z => nomatch z) (fun _ _ z => nomatch z)
      refine ⟨_, kOf k2, K2.of_v hof (Rp.later l5 _ _ rk), hD5, ?_, hlt, ms5, s4', acc', (putK k2 vd ks ds).1, (putK k2 vd ks ds).2, ?_, ?_, ?_, hl', ?_, ?_, ?_⟩
      · rw [hlen, ← big_eq]
        exact Nat.lt_of_le_of_lt hz (Nat.lt_of_lt_of_le hlt hbig)
      · rw [e']; exact fa_out sm1 hD l l05 _
      · rw [e']; exact fa_sm sm5 _ _ hD5 (fun _ z => nomatch z) (fun _ _ z => nomatch z)
      · rw [e']; exact upd_same
      · rw [e']; exact Rps.laterM st5 _ _ rr'
      · exact Nat.le_trans putK_len (Nat.succ_le_succ hz)
      · simpa only [Rs.bind] using pr
  · have e : i = xs.length := by omega
    subst e
    refine .inl ⟨ws, ?_⟩
    rw [List.drop_length] at pr
    simp only [dcompL, Rs.bind] at pr
    unfold newDict at pr
    cases m with
    | false =>
      simp only [Bool.false_eq_true, if_false] at pr
      refine pr _ H' ms' l (fa_free smF) ?_
      simp only [Rp]
      exact ⟨D, acc, rfl, fa_not smF nF, .inl hDl, hkd, Rps.laterM fa_weak _ _ rr⟩
    | true =>
      simp only [if_true] at pr
      refine pr _ H' (ms' ++ [D]) (fa_adopt_later sm1 hD l smF.len _) (fa_adopt smF nF ⟨acc, hDl, hkd, rr⟩) ?_
      simp only [Rp]
      refine ⟨D, rfl, ?_⟩
      rw [← smF.len, List.getElem?_append_right (Nat.le_refl _), Nat.sub_self]
      rfl
end
end Mi
end

section
set_option linter.all false
set_option maxRecDepth 100000
set_option autoImplicit false
/-! Mi: name = {..} on one line. -/
namespace Mi
open PySem L2
variable [Cls]
section
variable {X : Cx}
theorem swD_true {kx vx : Expr} {gs : List Comprehension} {scope : Scope} {pos py : Pos} {y : PySem.Str} {l : Nat} {env : PySem.Env} (hk : env.scope.kind = .function) (hy : env.scope.names.lookup y = some .local) (hl : (py.line == pos.line) = true)
    (ha : (scope.names.any fun (n, k) => n == y && (k == .local || k == .cell)) = false) : swapsWith (.DictComp kx vx gs scope pos) (some (.Name y py)) l env = pure true := by
  have h1 : env.kindOf y = some .local := hy
  have h2 : env.blockKind = .function := by unfold Env.blockKind; rw [hk]; rfl
  unfold swapsWith
  simp only [h2, h1, ha, Expr.pos, hl]
  rfl
theorem ps_setDc {i : Nat} {y : PySem.Str} {py : Pos} {kx vx tg iter : Expr} {ifs : List Expr} {scope : Scope} {own : List (PySem.Str × Nat)} {pos spos : Pos} {wi : TI} {g : TG} {tt : TT} {tk tv : TE} (hc : X.calm = true) (hN : X.N.Nodup) (hy : X.N[i]? = some y) (hyl : X.env.scope.names.lookup y = some .local)
    (hsw : swapsWith (.DictComp kx vx [⟨tg, iter, ifs, 0⟩] scope pos) (some (.Name y py)) spos.line X.env = pure true) (hi : PI X tg iter wi) (ok : BlkOk X.N X.env.scope scope own)
    (hg : ∀ (s : Shared) (H : Hp) (C : Addr) (cl : List (PySem.Str × Addr)) (fp : List Addr), PG (X.blk s H scope (compEnvC scope cl C X.env) fp) tg g) (ht : ∀ (s : Shared) (H : Hp) (C : Addr) (cl : List (PySem.Str × Addr)) (fp : List Addr), PTs (X.blk s H scope (compEnvC scope cl C X.env) fp) ifs tt)
    (hk : ∀ (s : Shared) (H : Hp) (C : Addr) (cl : List (PySem.Str × Addr)) (fp : List Addr), PE (X.blk s H scope (compEnvC scope cl C X.env) fp) kx tk)
    (he : ∀ (s : Shared) (H : Hp) (C : Addr) (cl : List (PySem.Str × Addr)) (fp : List Addr), PE (X.blk s H scope (compEnvC scope cl C X.env) fp) vx tv) (hs : ∀ x, foldedSetIterable iter X.env x = pure x) :
    PS X (.Assign [.Name y py] (.DictComp kx vx [⟨tg, iter, ifs, 0⟩] scope pos) spos) (tAsg (tDc wi g tt tk tv (own.map (·.2))) (gName i)) := by
  constructor
  intro pins s σ H Dn I h
  rw [exec_Assign_Name_used _ _ _ _ hsw]
  refine wpAny_bind (wpAny_standAt (wpAny_bind ?_))
  have h : tDc wi g tt tk tv (own.map (·.2)) σ H (fun x H1 => gName i x σ H1 Dn.nx) := h
  have core := dc_core (use := some (assign (.Name y py) X.env)) (pos := pos) (pos' := firstIterPos [⟨tg, iter, ifs, 0⟩] pos) (Qf := fun _ s' => SP X pins Dn .next s') hc hN I hi ok hg ht hk he hs h fun L B s' n H' I' q hn f => by
    show wpAny _ _ (assign (.Name y py) X.env (.ref L)) _ _ _
    refine wpAny_assign_Name (store_ok2 (v := V.ref L) I' hN hy (.inl hyl) rfl (fun s2 I2 ⟨z, sb, hz⟩ => ?_) (.inr hyl))
    obtain ⟨f0, f1, f2, f3, f4, f5⟩ := f
    have ne : B ≠ z := by
      rcases hz with e | e
      · rw [e]; exact f1
      · exact fun e2 => f4 y z e e2.symm
    exact ⟨n, hn.sameBut sb ne, fun h3 sb3 => ⟨_, H', I2.turned (t' := s2.toks) (fun b o hb e => (sb3.2 b hb).trans e) f0 f1 f3 f4 f5, q⟩⟩
  exact wpAny_bind (thn core fun _ s' hq => wpAny_pure (wpAny_pure hq))
end
end Mi
end

section
set_option linter.all false
set_option maxRecDepth 100000
set_option autoImplicit false
/-! Mi: walks over the keys of a dict that stays. -/
namespace Mi
open PySem L2
variable [Cls]
/-- the dict that comes out is locked for good -/
def tLk (td : TE) : TE := fun σ H Q => td σ H fun x H1 => Q x H1 ∨ ∃ a kvs, x = .ref a ∧ H1 a = some (.dK kvs) ∧ ∀ o, Q x (upd H1 a (.frz o (.dK kvs)))
theorem pe_lk {X : Cx} {e : Expr} {td : TE} (he : PE X e td) : PE X e (tLk td) := ⟨fun pins s σ H Q I h => by
  refine thn (he.run pins s σ H _ I h) fun u s1 ⟨x, H1, I1, rx, q⟩ => ?_
  rcases q with q | ⟨a, kvs, rfl, ha, q⟩
  · exact ⟨x, H1, I1, rx, q⟩
  · obtain ⟨o, I2⟩ := I1.lock ha trivial
    exact ⟨_, _, I2, rx, q o⟩⟩
section
variable {F : Addr → Prop} {H : Hp} {ms : List Addr} {st : Sto}
theorem later_lock {a : Addr} {o : Obj} {u : List (Key × V)} (h : H a = some (.dK u)) (hn : ¬ Mt F ms st a) : Later F H ms st (upd H a (.frz o (.dK u))) ms st := by
  have ne : ∀ {b : Addr} {x : HO}, H b = some x → (∀ z, x ≠ .dK z) → b ≠ a := fun {b x} e k z => by
    subst z
    rw [h] at e
    cases e
    exact k _ rfl
  refine ⟨fun _ _ h => h, fun _ _ h => h, fun b vs _ e => by rw [upd_ne (ne e nofun)]; exact e, fun b vs e => by rw [upd_ne (ne e nofun)]; exact e, fun b w _ e => ?_, fun b e => ?_, fun b x y e => by rw [upd_ne (ne e nofun)]; exact e, fun b hb => upd_ne fun z => hn (.inl (z ▸ hb))⟩
  · by_cases z : b = a
    · subst z
      rcases e with e | ⟨x, e⟩
      · rw [h] at e
        cases e
        exact .inr ⟨o, upd_same⟩
      · rw [h] at e; cases e
    · unfold Rd
      rw [upd_ne z]
      exact e
  · by_cases z : b = a
    · subst z; rw [upd_same]; intro z; cases z
    · rw [upd_ne z]; exact e
theorem sm_lock (s : Sm F H ms st) {a : Addr} {o : Obj} {u : List (Key × V)} (h : H a = some (.dK u)) (hn : ¬ Mt F ms st a) : Sm F (upd H a (.frz o (.dK u))) ms st := by
  have l := later_lock (o := o) h hn
  refine ⟨s.nd, s.len, fun i b ob h1 h2 => ?_, fun b hb => l.ne b (s.has b hb), fun b hb => l.ne b (s.fr b hb), s.frn⟩
  by_cases z : b = a
  · subst z
    cases ob with
    | dead => trivial
    | _ => exact absurd (.inr ⟨i, _, h1, h2, nofun⟩) hn
  · exact (s.at_ i b ob h1 h2).later l (upd_ne z)
end
theorem rp_key {H : Hp} {mt : Addr → Prop} {ms : List Addr} {k : K2} (h : K2.small k = true) : Rp H mt ms (K2.d k) (kV (kOf k)) := by
  cases k with
  | ki i => simp only [K2.d, Rp]; rfl
  | ks c =>
    simp only [K2.d, Rp]
    exact ⟨rfl, by rw [← big_eq]; exact of_decide_eq_true h⟩
section
variable {X : Cx} {XR : XRel} {C : Nat → List D → Sto → Rs D} {E : WX}
theorem w_keys {H : Hp} {mt : Addr → Prop} {ms : List Addr} {a : Addr} {o : Obj} {ks : List K2} {vs : List V} (e : H a = some (.frz o (.dK ((ks.map kOf).zip vs)))) (hl : ks.length = vs.length) (hs : ks.all K2.small = true) : wRel H mt ms (ks.map K2.d) (Itk a o ((ks.map kOf).zip vs)) := fun F H' ms' st' l sm => by
  have e' := l.frz a _ _ e
  have hlen : ((ks.map kOf).zip vs).length = ks.length := by
    rw [List.length_zip, List.length_map, ← hl, Nat.min_self]
  refine ⟨⟨e', by rw [List.length_map, hlen]; exact Nat.le_refl _⟩, fun i d hi => ?_⟩
  have hlt : i < ks.length := by
    have := (List.getElem?_eq_some_iff.mp hi).1
    simpa using this
  refine ⟨⟨e', by rw [hlen]; exact hlt⟩, fun x H'' y => ?_⟩
  obtain ⟨rfl, k, v, hk, rfl⟩ := y
  refine ⟨Later.refl, sm, ?_⟩
  rw [List.getElem?_map, List.getElem?_eq_getElem hlt] at hi
  cases hi
  have hz : k = kOf ks[i] := by
    have h1 := List.getElem?_eq_some_iff.mp hk
    obtain ⟨h2, h3⟩ := h1
    rw [List.getElem_zip, List.getElem_map] at h3
    exact (Prod.mk.inj h3).1.symm
  rw [hz]
  exact rp_key (List.all_eq_true.mp hs _ (List.getElem_mem hlt))
theorem sr_keys {tg a : Expr} {x : Mi.E} (ha : PE X a (tE XR C E x)) : PI X tg a (tR XR C E (.keys x)) := PI.imp (pi_keys (pe_lk ha)) fun σ H R ⟨F, ρ, ms, st, sm, er, p⟩ => by
  refine ⟨F, ρ, ms, st, sm, er, Pst.bind p fun d s1 v H1 ms1 _ l1 sm1 r1 p1 => ?_⟩
  split at p1
  · split at p1
    · rename_i hs
      simp only [Rp] at r1
      obtain ⟨b, vs, rfl, n, e, hl, r⟩ := r1
      have hlv := hl.trans r.length
      rcases e with e | ⟨o, e⟩
      · refine .inr ⟨b, _, rfl, e, fun o => ⟨b, o, rfl, .inl ⟨_, upd_same, ?_⟩⟩⟩
        exact p1 _ _ ms1 (later_lock e n) (sm_lock sm1 e n) (w_keys upd_same hlv hs)
      · exact .inl ⟨b, o, rfl, .inl ⟨_, e, Pst.ok (Rel := wRel) p1 sm1 (w_keys e hlv hs)⟩⟩
    · exact p1.elim
  · exact p1.elim
end
end Mi
end

section
set_option linter.all false
set_option maxRecDepth 100000
set_option autoImplicit false
/-! Mi: enumerate of a tuple. -/
namespace Mi
open PySem L2
variable [Cls]
abbrev tIt (t : Addr) : Obj := { cls := .type "tuple_iterator", data := .fields #[.ref t, .int 0 0] }
abbrev eOb (n : Addr) : Obj := { cls := .type "enumerate", data := .fields #[.none, .bool false, .ref n, rawInt 0, .none, .none] }
set_option maxHeartbeats 1000000 in
theorem enumT_new (t : Addr) (its : Array Value) : Meets (Builtin.«enumerate.__new__» ⟨[.type "enumerate", .ref t], []⟩) (fun _ R s => s.heap.IsTuple t its ∧ R (.ok (.ret (.ref (s.heap.push (tIt t)).objs.size))) { s with heap := (s.heap.push (tIt t)).push (eOb s.heap.objs.size) }) :=
  .of_wp fun prog w A R s h => by
    obtain ⟨hp, gs, dp, tk, os⟩ := s
    obtain ⟨hT, h⟩ := h
    have sub1 := sub_enumerate
    have go : ∀ {B : Around} {E Q : Value → Shared → Prop}, Q (.ref hp.objs.size) ⟨hp.push (tIt t), gs, dp, tk, os⟩ → wpAny (model prog w) B (pyIter (.ref t)) Q E ⟨hp, gs, dp, tk, os⟩ := fun q => wpAny_pyIter_tuple hT q
    wp_walk using go
    refine wpAny_stack_any fun k => wpAny_pure ?_
    split
    · rename_i c _ _ _ _ _
      cases (c == Value.type "enumerate")
      · wp_walk using go
        exact ⟨_, rfl, h⟩
      · wp_walk using go
        exact ⟨_, rfl, h⟩
    · wp_walk using go
      exact ⟨_, rfl, h⟩
section
variable {prog : Program} {w : World} {A : Around} {E Q : Value → Shared → Prop} {s : Shared}
theorem enumT_call {t : Addr} {its : Array Value} (hT : s.heap.IsTuple t its)
    (k : ∀ h', IsEnum h' (s.heap.objs.size + 1) s.heap.objs.size 0 .none → h'.IsTupleIter s.heap.objs.size t 0 → (∀ b o, s.heap.get? b = some o → h'.get? b = some o) → Q (.ref (s.heap.objs.size + 1)) { s with heap := h' }) :
    wpAny (model prog w) A (call (.type "enumerate") [.ref t]) Q E s := by
  refine callType_new F.called_enumerate (by decide) (F.typeCall_enumerate_1 _) (F.newCall_enumerate_1 _) (fun obj => F.args_object_init_2 obj _) F.entry_enumerate_new (enumT_new t its) ⟨hT, ?_⟩
  have z1 : (s.heap.push (tIt t)).objs.size = s.heap.objs.size + 1 := Heap.size_push ..
  have e1 : IsEnum ((s.heap.push (tIt t)).push (eOb s.heap.objs.size)) (s.heap.objs.size + 1) s.heap.objs.size 0 .none := by
    have q := Heap.get?_push_size (s.heap.push (tIt t)) (o := eOb s.heap.objs.size) rfl
    rwa [z1] at q
  show _ ∧ _
  rw [z1]
  exact ⟨⟨_, e1, rfl⟩, k _ e1 ⟨_, Heap.get?_push_of_some _ (Heap.get?_push_size _ rfl), rfl, rfl⟩ fun b o q => Heap.get?_push_of_some _ (Heap.get?_push_of_some _ q)⟩
end
/-- the tuple at a, each item in a new pair -/
def ItT (K : PySem.W.Frag) (a : Addr) : It :=
  ⟨fun i H => ∃ xs, SqT K H a xs ∧ i < xs.length, fun i H v H' => ∃ T x, v = .ref T ∧ H T = none ∧ H' = upd H T (.tup [.int (i : Nat), x]) ∧ ∀ xs, SqT K H a xs → xs[i]? = some x, fun i H => ∃ xs, SqT K H a xs ∧ xs.length = i⟩
theorem turn_eT {P : Program} {w : World} {K : PySem.W.Frag} {elts : List Expr} {kk : Nat} {tpos : Pos} (a e it : Addr) (hne : a ≠ it) :
    Turn P w K (.Tuple elts kk tpos) (ItT K a) [e, it] e (fun i h => (∃ old, IsEnum h e it ((i : Nat) : Int) old) ∧ h.IsTupleIter it a i ∧ e ≠ it ∧ e ≠ a) where
  mem := List.mem_cons_self
  obj := fun i h st b hb => by
    obtain ⟨⟨old, h1⟩, ⟨o, h2, h3, h4⟩, _⟩ := st
    rcases List.mem_cons.mp hb with z | z
    · subst z; exact ⟨_, h1, fun v q => nomatch q⟩
    · cases List.mem_singleton.mp z
      exact ⟨o, h2, fun v q => by rw [h4] at q; cases q⟩
  keep := fun i h h' st k => by
    obtain ⟨⟨old, h1⟩, h2, h3⟩ := st
    exact ⟨⟨old, k e List.mem_cons_self _ h1⟩, h2.at fun o q => k it (List.mem_cons_of_mem _ List.mem_cons_self) o q, h3⟩
  item := by
    intro X hP hw hK hc i pins s σ H E I hf st hg
    subst hP hw hK
    obtain ⟨⟨old, he⟩, hit, n1, n2⟩ := st
    obtain ⟨xs, hq, hlt⟩ := hg
    obtain ⟨its, rv, p, hz⟩ := I.tuple hq
    have hl := rv.length
    have le : e < s.heap.objs.size := Heap.lt_size he
    have li : it < s.heap.objs.size := by obtain ⟨_, q, _⟩ := hit; exact Heap.lt_size q
    have p' : s.heap.IsTuple a its.toArray := p
    have Dr := Draws.tuple (prog := X.prog) (w := X.w) (A := X.A.in1) (I.ok.hd hc) it a hne its.toArray
    refine wpAny_pyNext_enum_itemD Dr he ⟨hit, p'⟩ (by simp; omega) n1 (by simp [n1, n2]) fun u h' tk hP ho hs' hT hsz hk => ?_
    have hu : its[i]? = some u := by simpa using hP
    obtain ⟨x, hx, rx⟩ : ∃ x, xs[i]? = some x ∧ RelV x u := by
      obtain ⟨u', hu', r'⟩ := rv.get (List.getElem?_eq_getElem hlt)
      rw [hu] at hu'
      cases hu'
      exact ⟨_, List.getElem?_eq_getElem hlt, r'⟩
    refine ⟨_, rfl, wpAny_letOwnedTupleGo_enum (s := { s with heap := h', toks := tk + 1 }) ho fun h'' he' sb => ?_⟩
    have hT2 : h''.get? s.heap.objs.size = some { cls := .type "tuple", data := .seq #[.int i tk, u] } := (sb.2 _ (Nat.ne_of_gt le)).trans hT
    have ob : ObjOk X.prog X.w (upd H s.heap.objs.size (.tup [.int (i : Nat), x])) h'' s.heap.objs.size (.tup [.int (i : Nat), x]) := ⟨by show 2 ≤ sizeLine; decide, [.int i tk, u], .cons ⟨_, rfl⟩ (.cons rx .nil), ⟨_, hT2, rfl, _, rfl⟩⟩
    have I1 : Inv X pins σ (upd H s.heap.objs.size (.tup [.int (i : Nat), x])) { s with heap := h'', toks := tk + 1 } := by
      refine I.turnedNew (ch := [e, it]) (fun b o hb q => ?_) hf (Nat.le_refl _) ob
      have b1 : b ≠ e := fun z => hb (by simp [z])
      have b2 : b ≠ it := fun z => hb (by simp [z])
      exact (sb.2 b b1).trans (hk b o b1 b2 q)
    refine ⟨.ref s.heap.objs.size, _, I1, rfl, ⟨_, x, rfl, I.hok.fresh (Nat.le_refl _), rfl, fun ys hy => by rw [I.tuple_inj hy hq]; exact hx⟩, ⟨⟨u, ?_⟩, hs'.1.at fun o q => (sb.2 it (Ne.symm n1)).trans q, n1, n2⟩, fun b hb => ?_⟩
    · rw [show ((i + 1 : Nat) : Int) = (i : Int) + 1 by omega]; exact he'
    · have hb' : b < s.heap.objs.size := by
        rcases List.mem_cons.mp hb with z | z
        · rw [z]; exact le
        · rw [List.mem_singleton.mp z]; exact li
      rw [upd_ne (Nat.ne_of_lt hb')]
      exact (hf b hb).1
  done := by
    intro X hP hw hK hc i pins s σ H E I hf st hg
    subst hP hw hK
    obtain ⟨⟨old, he⟩, hit, n1, n2⟩ := st
    obtain ⟨xs, hq, hle⟩ := hg
    obtain ⟨its, rv, p, hz⟩ := I.tuple hq
    obtain ⟨f0, f1, f2, f3, f4, f5⟩ := hf it (by simp)
    have hl := rv.length
    have p' : s.heap.IsTuple a its.toArray := p
    have hn : its.toArray.size = i := by rw [← hle, hl]; rfl
    subst hn
    have Dr := Draws.tuple (prog := X.prog) (w := X.w) (A := X.A.in1) (I.ok.hd hc) it a hne its.toArray
    exact wpAny_pyNext_enum_endD Dr he ⟨hit, p'⟩ fun h' eb => ⟨rfl, I.turned (t' := s.toks) (fun b o hb q => eb b o hb q) f0 f1 f3 f4 f5⟩
  self := fun A i s Q E st h => by
    obtain ⟨⟨_, he⟩, _⟩ := st
    exact wpAny_pyIter_enum he h
section
variable {X : Cx} {XR : XRel} {C : Nat → List D → Sto → Rs D} {E : WX}
def iEnT (K : PySem.W.Frag) (ta : TA) : TI := fun σ H R => ta σ H fun vs H1 => ∃ a xs, vs = [.ref a] ∧ SqT K H1 a xs ∧ R (ItT K a) H1
theorem pi_enT {e : Expr} {ta : TA} {p pos tpos : Pos} {elts : List Expr} {kk : Nat} (hg : Gl X "enumerate") (hm : X.mg "enumerate" = none) (ha : PA X [e] ta) (hs : starEach [e] X.env = [(false, eval e X.env)]) :
    PI X (.Tuple elts kk tpos) (.Call (.Name "enumerate" p) [e] [] pos) (iEnT X.K ta) := ⟨fun pins s σ H R I h => by
  refine PyProof.Rows.Call_ (ld_blt I hg hm PyProof.Rows.boot_enumerate (PyProof.Rows.callWith_type1 (thn (ha.run pos pins s σ H _ I h) fun us s1 ⟨vs, H1, I1, r1, a, xs, ex, hq, q⟩ => ?_) hs rfl))
  subst ex
  cases r1 with
  | cons r rr =>
    cases rr
    cases r
    obtain ⟨its, rv, p', hz⟩ := I1.tuple hq
    have pT : s1.heap.IsTuple a its.toArray := p'
    have la : a < s1.heap.objs.size := by obtain ⟨_, z, _⟩ := pT; exact Heap.lt_size z
    refine enumT_call pT fun h' he hit hk => wpAny_pyIter_enum he ?_
    refine ⟨s1.heap.objs.size + 1, [s1.heap.objs.size + 1, s1.heap.objs.size], _, _, H1, rfl, I1.kept (t' := s1.toks) hk, turn_eT a (s1.heap.objs.size + 1) s1.heap.objs.size (Nat.ne_of_lt la), ⟨⟨.none, he⟩, hit, Nat.succ_ne_self _, Nat.ne_of_gt (Nat.lt_succ_of_lt la)⟩, fun b hb => ?_, q⟩
    have hle : s1.heap.objs.size ≤ b := by
      rcases List.mem_cons.mp hb with z | z
      · rw [z]; exact Nat.le_succ _
      · rw [List.mem_singleton.mp z]; exact Nat.le_refl _
    exact I1.fpOk hle (I1.hok.fresh hle)⟩
theorem enumD_get : ∀ {xs : List D} {k i : Nat} {d : D}, (enumD k xs)[i]? = some d → ∃ p, d = .tup [.int ((k + i : Nat) : Int), p] ∧ xs[i]? = some p
  | [], k, i, d, h => by simp [enumD] at h
  | x :: xs, k, 0, d, h => by simp [enumD] at h; exact ⟨x, by rw [← h]; simp, rfl⟩
  | x :: xs, k, i + 1, d, h => by
    simp only [enumD, List.getElem?_cons_succ] at h ⊢
    obtain ⟨p, e, e2⟩ := enumD_get h
    exact ⟨p, by rw [e]; congr 4; omega, e2⟩
theorem enumD_len : ∀ {xs : List D} {k : Nat}, (enumD k xs).length = xs.length
  | [], k => rfl
  | x :: xs, k => by simp only [enumD, List.length_cons, enumD_len]
theorem w_enum {J : It} {H : Hp} {mt : Addr → Prop} {ms : List Addr} {ds : List D} {vs : List V} (r : Rps H mt ms ds vs)
    (hst : ∀ F H' ms' st', LaterM H mt ms H' (Mt F ms' st') ms' → Sm F H' ms' st' → J.stop vs.length H') (hgo : ∀ F H' ms' st' i, LaterM H mt ms H' (Mt F ms' st') ms' → Sm F H' ms' st' → i < vs.length → J.go i H')
    (hy : ∀ F H' ms' st' i x H'', LaterM H mt ms H' (Mt F ms' st') ms' → Sm F H' ms' st' → i < vs.length → J.yld i H' x H'' → ∃ T y, x = .ref T ∧ H' T = none ∧ H'' = upd H' T (.tup [.int (i : Nat), y]) ∧ vs[i]? = some y) : wRel H mt ms (enumD 0 ds) J := fun F H' ms' st' l sm => by
  refine ⟨by rw [enumD_len, r.length]; exact hst F H' ms' st' l sm, fun i d hi => ?_⟩
  obtain ⟨p, rfl, hp⟩ := enumD_get hi
  obtain ⟨v, hv, rv⟩ := r.get hp
  have hlt : i < vs.length := (List.getElem?_eq_some_iff.mp hv).1
  refine ⟨hgo F H' ms' st' i l sm hlt, fun x H'' y => ?_⟩
  obtain ⟨T, z, rfl, hT, rfl, hz⟩ := hy F H' ms' st' i x H'' l sm hlt y
  rw [hv] at hz
  cases hz
  refine ⟨later_new sm hT, sm.new hT, rp_newT sm hT (Rps.cons (by simp only [Rp, Nat.zero_add]) (Rps.cons (Rp.laterM l _ _ rv) Rps.nil)) (by rw [← big_eq]; show 2 ≤ big; decide)⟩
theorem sr_enum {a : Expr} {x : Mi.E} {p pos tpos : Pos} {elts : List Expr} {kk : Nat} (hg : Gl X "enumerate") (hm : X.mg "enumerate" = none) (ha : PE X a (tE XR C E x)) (hs : notStar a = true) :
    PI X (.Tuple elts kk tpos) (.Call (.Name "enumerate" p) [a] [] pos) (tR XR C E (.enum x)) := ⟨fun pins s σ H R I ⟨F, ρ, ms, st, sm, er, p⟩ => by
  simp only [evR] at p
  have pa := pa_cons ha pa_nil (starEach_cons hs)
  cases h : evE C x ρ st with
  | stuck => rw [h] at p; exact p.elim
  | ex c ds s1 =>
    rw [h] at p
    refine (pi_enum hg hm pa (star1 hs)).run pins s σ H R I ⟨F, ρ, ms, st, sm, er, ?_⟩
    rw [h]
    exact p
  | ok d s1 =>
    cases d with
    | tup ds =>
      refine (pi_enT hg hm pa (star1 hs)).run pins s σ H R I ⟨F, ρ, ms, st, sm, er, Pst.bind p fun d s2 v H1 ms1 he l1 sm1 r1 p1 => ?_⟩
      rw [h] at he
      cases he
      simp only [Rp] at r1
      obtain ⟨b, vs, rfl, n, e, z, r⟩ := r1
      refine ⟨b, vs, rfl, .inl (.inl e), Pst.ok (Rel := wRel) p1 sm1 (w_enum r (fun F H' ms' st' l sm => ⟨vs, .inl (.inl (l.tup b vs e)), rfl⟩) (fun F H' ms' st' i l sm hi => ⟨vs, .inl (.inl (l.tup b vs e)), hi⟩) fun F H' ms' st' i x H'' l sm hi y => ?_)⟩
      obtain ⟨T, y, e1, e2, e3, e4⟩ := y
      exact ⟨T, y, e1, e2, e3, e4 vs (.inl (.inl (l.tup b vs e)))⟩
    | lst ds =>
      refine (pi_enum hg hm pa (star1 hs)).run pins s σ H R I ⟨F, ρ, ms, st, sm, er, Pst.bind p fun d s2 v H1 ms1 he l1 sm1 r1 p1 => ?_⟩
      rw [h] at he
      cases he
      simp only [Rp] at r1
      obtain ⟨b, vs, rfl, n, e, z, r⟩ := r1
      refine ⟨b, vs, rfl, .inl (.inl e), Pst.ok (Rel := wRel) p1 sm1 (w_enum r (fun F H' ms' st' l sm => ⟨vs, .inl (.inl (l.lst b vs n e)), Nat.le_refl _⟩) (fun F H' ms' st' i l sm hi => ⟨vs, vs[i], .inl (.inl (l.lst b vs n e)), List.getElem?_eq_getElem hi⟩) fun F H' ms' st' i x H'' l sm hi y => ?_)⟩
      obtain ⟨T, y, e1, e2, e3, e4⟩ := y
      exact ⟨T, y, e1, e2, e3, e4 vs (.inl (.inl (l.lst b vs n e)))⟩
    | _ => rw [h] at p; exact p.elim⟩
end
end Mi
end

section
set_option linter.all false
set_option maxRecDepth 100000
set_option autoImplicit false
/-! Mi: own calls by name. -/
namespace Mi
open PySem L2
def permV {α : Type} (pm : List Nat) (ws : List α) : List α := pm.filterMap fun i => ws[i]?
theorem permV_rel {vs : List V} {us : List Value} (r : Vals vs us) : ∀ pm : List Nat, Vals (permV pm vs) (permV pm us)
  | [] => .nil
  | i :: pm => by
    unfold permV
    rw [List.filterMap_cons, List.filterMap_cons]
    cases h : vs[i]? with
    | none =>
      have h2 : us[i]? = none := by
        rw [List.getElem?_eq_none_iff] at h ⊢
        rw [← r.length]; exact h
      rw [h2]
      exact permV_rel r pm
    | some v =>
      obtain ⟨u, hu, ru⟩ := r.get h
      rw [hu]
      exact .cons ru (permV_rel r pm)
variable [Cls]
theorem pick_rp {H : Hp} {mt : Addr → Prop} {ms : List Addr} {ds : List D} {vs : List V} (r : Rps H mt ms ds vs) : ∀ {pm : List Nat} {as : List D}, pick pm ds = some as → Rps H mt ms as (permV pm vs)
  | [], as, h => by cases h; exact Rps.nil
  | i :: pm, as, h => by
    simp only [pick] at h
    split at h
    · rename_i d bs hd hb
      cases h
      obtain ⟨v, hv, rv⟩ := r.get hd
      unfold permV
      rw [List.filterMap_cons, hv]
      exact Rps.cons rv (pick_rp r hb)
    · cases h
structure OwnKw (P : List Fn) (k : Nat) (X : Cx) (x : PySem.Str) (i : Nat) (ks : List PySem.Str) (pm : List Nat) : Prop where
  ex : ∃ f fd ps, FnOk X.prog X.w X.K X.mg X.base (L2.CX X.prog X.w) k f fd ps (spN P k i) ∧ X.mg x = some (.ref f) ∧ PySem.W.keepIn X.K (.ref f) = true ∧ KBn X.K fd ps 0 ks (fun _ ws => permV pm ws) (fun _ zs => permV pm zs)
/-- the keywords' names -/
def kwn : List Keyword → List PySem.Str
  | [] => []
  | ⟨some n, _, _⟩ :: r => n :: kwn r
  | _ :: r => kwn r
def kwOk : List Keyword → Bool
  | [] => true
  | ⟨some _, _, _⟩ :: r => kwOk r
  | _ => false
theorem kw_facts {pos : Pos} {env : PySem.Env} : ∀ {kws : List Keyword}, kwOk kws = true → (backToKw pos (keywordEach kws env)).all (·.1.isSome) = true ∧ (backToKw pos (keywordEach kws env)).filterMap (·.1) = kwn kws ∧ (backToKw pos (keywordEach kws env)).any (·.1.isNone) = false
  | [], _ => ⟨rfl, rfl, rfl⟩
  | ⟨some n, e, p⟩ :: r, h => by
    obtain ⟨q1, q2, q3⟩ := kw_facts (pos := pos) (env := env) (kws := r) h
    have e0 : backToKw pos (keywordEach (⟨some n, e, p⟩ :: r) env) = (some n, (do let v ← eval e env; standAt pos; pure v)) :: backToKw pos (keywordEach r env) := rfl
    rw [e0, List.all_cons, List.any_cons, List.filterMap_cons, q1, q2, q3]
    exact ⟨rfl, rfl, rfl⟩
  | ⟨none, e, p⟩ :: r, h => by cases h
section
variable {X : Cx} {P : List Fn} {k : Nat}
theorem PK.imp {kws : List Keyword} {t t' : TA} (h : PK X kws t) (q : ∀ σ H Q, t' σ H Q → t σ H Q) : PK X kws t' := ⟨fun pos pins s σ H Q I z => h.run pos pins s σ H Q I (q σ H Q z)⟩
theorem sk_nil {XR : XRel} {C : Nat → List D → Sto → Rs D} {E : WX} : PK X [] (tA XR C E .nil) := PK.imp pk_nil fun σ H Q ⟨F, ρ, ms, st, sm, er, p⟩ => p.ok sm Rps.nil
theorem sk_cons {XR : XRel} {C : Nat → List D → Sto → Rs D} {E : WX} {nm : Option PySem.Str} {a : Expr} {p : Pos} {kws : List Keyword} {e : Mi.E} {es : Es} (ha : PE X a (tE XR C E e)) (hr : PK X kws (tA XR C E es)) : PK X (⟨nm, a, p⟩ :: kws) (tA XR C E (.cons e es)) := PK.imp (pk_cons ha hr) fun σ H Q ⟨F, ρ, ms, st, sm, er, p⟩ => by
  refine ⟨F, ρ, ms, st, sm, er, p.bind fun d s1 v H1 ms1 _ l1 sm1 r1 p1 => ?_⟩
  refine ⟨F, ρ, ms1, s1, sm1, er.later l1, p1.bind fun ds s2 vs H2 ms2 _ l2 sm2 r2 p2 => ?_⟩
  exact p2.ok sm2 (Rps.cons (Rp.later l2 _ _ r1) r2)
theorem run_fnNS {CX : CXT} {f : Addr} {fd : FuncData} {ps ks : List PySem.Str} {sp : Sp} {g : List Value → List Value → List Value} {gV : List V → List V → List V} {n : Nat} {pins : List (Addr × Obj)} {σ : L2.St} {H : Hp} {s : Shared} {Q : VK} {E : XK} {us ws : List Value} {vs zs : List V} (F : FnOk X.prog X.w X.K X.mg X.base CX k f fd ps sp) (hr : Room k X.A) (hb : KBn X.K fd ps n ks g gV) (hx : PassesAt CX X σ E)
    (I : Inv X pins σ H s) (r : Vals vs us) (rz : Vals zs ws) (l1 : vs.length = n) (l2 : zs.length = ks.length) (h : sp (gV vs zs) H Q E) : wpAny (model X.prog X.w) X.A (call (.ref f) us (ks.zip ws)) (EP X pins σ Q) X.xe s := by
  have r2 := hb.rel r rz
  refine wpAny_call (codeAny_mono (F.run X.A X.stack s H ⟨us, ks.zip ws⟩ (g us ws) (gV vs zs) Q E hr I.env0 (hb.to s us ws I.kIn (r.length.symm.trans l1) (rz.length.symm.trans l2)) r2 h) fun r s' hq => ?_)
  cases r with
  | error e => exact hx pins H s e s' I hq
  | ok fl =>
    cases fl with
    | ret u => exact I.after hq
    | next => exact False.elim hq
    | brk => exact False.elim hq
    | cont => exact False.elim hq
theorem se_callk {W : WX} (tk : Takes X W) {i : Nat} {x : PySem.Str} {kws : List Keyword} {ks : List PySem.Str} {pm : List Nat} {es : Es} {p pos : Pos} (o : OwnKw P k X x i ks pm) (hr : Room k X.A) (hg : Gl X x) (hd : (x == ("__debug__" : PySem.Str)) = false) (ha : PK X kws (tA X0 (callN P k) W es)) (ok : kwOk kws = true) (hk : kwn kws = ks) (hl : pm.length = ks.length) :
    PE X (.Call (.Name x p) [] kws pos) (tE X0 (callN P k) W (.callk i pm es)) := by
  obtain ⟨f, fd, ps, F, hm, hkp, hb⟩ := o.ex
  obtain ⟨a1, a2, a3⟩ := kw_facts (pos := pos) (env := X.env) ok
  refine ⟨fun pins s σ H Q I ⟨G, ρ, ms, st, sm, er, h⟩ => ?_⟩
  refine wpAny_Call_Name_kw (ld_glob I hg hm ?_ hd)
  refine PySem.W.callWith_KW0 (h₀ := X.base) I.ok.mod.kin hkp a1 ?_ (by rw [a3]; rfl)
  have q : tA X0 (callN P k) W es σ H fun zs H2 => zs.length = ks.length ∧ spN P k i (permV pm zs) H2 Q (wx W σ) := by
    refine ⟨G, ρ, ms, st, sm, er, Pst.bind h fun ds s1 vs H1 ms1 _ l1 sm1 r1 p1 => ?_⟩
    split at p1
    · rename_i hz
      split at p1
      · rename_i as has
        exact ⟨by rw [← r1.length, hz, hl], G, ms1, s1, as, sm1, pick_rp r1 has, p1⟩
      · exact p1.elim
    · exact p1.elim
  refine thn (ha.run pos pins s σ H _ I q) fun ws s2 ⟨zs, H2, I2, rz, q1, q2⟩ => ⟨I2.kIn, ?_⟩
  rw [a2, hk]
  exact run_fnNS (us := []) (vs := []) F hr hb (passAt tk σ) I2 .nil rz rfl q1 q2
end
end Mi
end

section
set_option linter.all false
set_option maxRecDepth 100000
set_option autoImplicit false
/-! Mi: a dict comprehension with two fors, none with an if: the two loops of the text. -/
namespace Mi
open PySem L2
/-- the expression -/
abbrev dcE (kx vx t0 i0 t1 i1 : Expr) (scope : Scope) (pos : Pos) : Expr := .DictComp kx vx [⟨t0, i0, [], 0⟩, ⟨t1, i1, [], 0⟩] scope pos
section
variable {prog : Program} {w : World} {A : Around} {R : Result → Shared → Prop} {s : Shared} {kx vx t0 i0 t1 i1 : Expr} {scope : Scope} {pos : Pos} {it : Value} {D : Addr} {env : PySem.Env}
theorem turn_outer (acc : Value) : compTurn (dcE kx vx t0 i0 t1 i1 scope pos) 0 it acc env = (do
      standAt i0.pos
      match ← pyNext it with
      | none => pure (.done .next)
      | some v =>
        letOwnedTupleGo t0 it v
        assign t0 env v
        let x ← eval i1 env
        standAt i1.pos
        let x ← foldedSetIterable i1 env x
        let _ ← runOwn (.compStart (dcE kx vx t0 i0 t1 i1 scope pos) 1 (← holding [x] (pyIter x)) acc env) env
        again (.compLoop (dcE kx vx t0 i0 t1 i1 scope pos) 0 it acc env)) := by rfl
theorem turn_inner : compTurn (dcE kx vx t0 i0 t1 i1 scope pos) 1 it (.ref D) env = (do
      standAt i1.pos
      match ← pyNext it with
      | none => pure (.done .next)
      | some v =>
        letOwnedTupleGo t1 it v
        assign t1 env v
        (do
          let kv ← eval kx env
          let vv ← holding [kv] (eval vx env)
          standAt { kx.pos with endLine := vx.pos.endLine, endCol := vx.pos.endCol }
          holding [kv, vv] (dictSet D kv vv))
        again (.compLoop (dcE kx vx t0 i0 t1 i1 scope pos) 1 it (.ref D) env)) := by rfl
abbrev Nt (prog : Program) (w : World) (A : Around) (env : PySem.Env) (R : Result → Shared → Prop) : Value → Shared → Prop := notedBy (model prog w) A env fun e s' => R (.error e) s'
/-- the outer loop: each turn comes to an inner loop that ends below -/
theorem loop_outer (hs : ∀ x, foldedSetIterable i1 env x = pure x) (I : Nat → Shared → Prop)
    (turn : ∀ n s, I n s → wpAny (model prog w) A (pyNext it) (fun r s1 => match r with
      | none => R (.ok .next) s1
      | some v => wpAny (model prog w) A (letOwnedTupleGo t0 it v) (fun _ s2 => wpAny (model prog w) A (assign t0 env v) (fun _ s3 =>
          wpAny (model prog w) A (eval i1 env) (fun x s4 => wpAny (model prog w) A (pyIter x) (fun jt s5 =>
              codeAny (model prog w) A (.compStart (dcE kx vx t0 i0 t1 i1 scope pos) 1 jt (.ref D) env) (fun r s' => match r with
                | .ok _ => ∃ m, m < n ∧ I m s'
                | .error _ => False) s5) (Nt prog w A env R) s4) (Nt prog w A env R) s3) (Nt prog w A env R) s2) (Nt prog w A env R) s1) (Nt prog w A env R) s)
    (n : Nat) (h : I n s) : codeAny (model prog w) A (.compLoop (dcE kx vx t0 i0 t1 i1 scope pos) 0 it (.ref D) env) R s := by
  refine codeAny_loop rfl I (fun n s hI => ?_) n h
  show wpAny _ A ((compTurn (dcE kx vx t0 i0 t1 i1 scope pos) 0 it (.ref D) env).onRaise (fun x => do noteFrame x env; theTreesLotGoes x)) _ _ s
  refine wpAny_noted ?_
  rw [turn_outer]
  have nil : ∀ (e : Value) (s' : Shared), Nt prog w A env R e s' → Nt prog w A env R e s' := fun _ _ h => h
  refine wpAny_bind (wpAny_standAt (wpAny_bind (wpAny_mono (turn n s hI) (fun r s1 h1 => ?_) nil)))
  cases r with
  | none => exact wpAny_pure h1
  | some v =>
    refine wpAny_bind (wpAny_mono h1 (fun _ s2 h2 => wpAny_bind (wpAny_mono h2 (fun _ s3 h3 => wpAny_bind (wpAny_mono h3 (fun x s4 h4 => ?_) nil)) nil)) nil)
    refine wpAny_bind (wpAny_standAt (wpAny_bind (wpAny_of_eq (hs x) (wpAny_bind (wpAny_holding (wpAny_mono h4 (fun jt s5 h5 => ?_) nil))))))
    refine wpAny_bind (wpAny_runOwn ?_)
    rw [Around.mark_none]
    refine codeAny_mono h5 fun r s' hr => ?_
    cases r with
    | error e => exact hr.elim
    | ok f => first | exact wpAny_pure ⟨rfl, hr⟩ | exact wpAny_bind (wpAny_pure (wpAny_pure ⟨rfl, hr⟩))
/-- the inner loop -/
theorem loop_inner (I : Nat → Shared → Prop)
    (turn : ∀ n s, I n s → wpAny (model prog w) A (pyNext it) (fun r s1 => match r with
      | none => R (.ok .next) s1
      | some v => wpAny (model prog w) A (letOwnedTupleGo t1 it v) (fun _ s2 => wpAny (model prog w) A (assign t1 env v) (fun _ s3 =>
          wpAny (model prog w) A (eval kx env) (fun kv s4 => wpAny (model prog w) A (eval vx env) (fun vv s5 =>
              wpAny (model prog w) A (dictSet D kv vv) (fun _ s6 => ∃ m, m < n ∧ I m s6) (Nt prog w A env R) s5) (Nt prog w A env R) s4) (Nt prog w A env R) s3) (Nt prog w A env R) s2) (Nt prog w A env R) s1) (Nt prog w A env R) s)
    (n : Nat) (h : I n s) : codeAny (model prog w) A (.compLoop (dcE kx vx t0 i0 t1 i1 scope pos) 1 it (.ref D) env) R s := by
  refine codeAny_loop rfl I (fun n s hI => ?_) n h
  show wpAny _ A ((compTurn (dcE kx vx t0 i0 t1 i1 scope pos) 1 it (.ref D) env).onRaise (fun x => do noteFrame x env; theTreesLotGoes x)) _ _ s
  refine wpAny_noted ?_
  rw [turn_inner]
  have nil : ∀ (e : Value) (s' : Shared), Nt prog w A env R e s' → Nt prog w A env R e s' := fun _ _ h => h
  refine wpAny_bind (wpAny_standAt (wpAny_bind (wpAny_mono (turn n s hI) (fun r s1 h1 => ?_) nil)))
  cases r with
  | none => exact wpAny_pure h1
  | some v =>
    refine wpAny_bind (wpAny_mono h1 (fun _ s2 h2 => wpAny_bind (wpAny_mono h2 (fun _ s3 h3 => ?_) nil)) nil)
    refine wpAny_bind (wpAny_bind (wpAny_mono h3 (fun kv s4 h4 => wpAny_bind (wpAny_holding (wpAny_mono h4 (fun vv s5 h5 => ?_) nil))) nil))
    exact wpAny_bind (wpAny_standAt (wpAny_holding (wpAny_mono h5 (fun _ s6 h6 => wpAny_pure ⟨rfl, h6⟩) nil)))
/-- the inner loop starts: its source walked, or (where a setting says so) as it is -/
theorem start_inner {acc : Value} (h0 : codeAny (model prog w) A (.compLoop (dcE kx vx t0 i0 t1 i1 scope pos) 1 it acc env) R s)
    (h : wpAny (model prog w) A (pyIter it) (fun it' s' => codeAny (model prog w) A (.compLoop (dcE kx vx t0 i0 t1 i1 scope pos) 1 it' acc env) R s') (Nt prog w A env R) s) :
    codeAny (model prog w) A (.compStart (dcE kx vx t0 i0 t1 i1 scope pos) 1 it acc env) R s := by
  refine codeAny_of_tree ?_
  show wpAny _ _ ((compStart (dcE kx vx t0 i0 t1 i1 scope pos) 1 it acc env).onRaise (fun x => do noteFrame x env; standAt theWindowsPlace)) _ _ s
  refine wpAny_notedAt ?_
  unfold compStart
  show wpAny _ _ (ask >>= _) _ _ s
  refine wpAny_bind (wpAny_askSetting (wpAny_ite ?_))
  split
  · first | exact wpAny_bind (wpAny_pure (wpAny_pure (And.intro rfl h0))) | exact wpAny_pure (And.intro rfl h0)
  · have nil : ∀ (e : Value) (s' : Shared), Nt prog w A env R e s' → Nt prog w A env R e s' := fun _ _ h => h
    refine wpAny_bind (wpAny_rule ?_)
    show wpAny _ _ (standAt i1.pos >>= _) _ _ s
    exact wpAny_bind (wpAny_standAt (wpAny_bind (wpAny_mono h (fun it' s' h' => wpAny_pure (And.intro rfl h')) nil)))
end
end Mi
end

section
set_option linter.all false
set_option maxRecDepth 100000
set_option autoImplicit false
/-! Mi: a dict comprehension with two fors, over the abstract heap. -/
namespace Mi
open PySem L2
def tDc2 (wi : TI) (g : TG) (wj : TI) (gj : TG) (tk tv : TE) (vs vj : List Nat) : TE := fun σ H Q => wi σ H fun J H1 => ∀ D, H1 D = none → ∃ W : Nat → Nat → Hp → Prop, (∃ m, W 0 m (upd H1 D (.dK []))) ∧ ∀ i m H, W i m H →
  (J.stop i H ∧ Q (.ref D) H) ∨ (J.go i H ∧ ∃ Nx : Hp → Prop, (∀ H', Nx H' → ∃ m', m' < m ∧ W (i + 1) m' H') ∧ ∀ x H', J.yld i H x H' → g x (wipe σ vs) H' fun σ2 H2 => wipe σ2 vs = wipe σ vs ∧
    wj σ2 H2 fun L H4 => ∃ U : Nat → Nat → Hp → Prop, (∃ m, U 0 m H4) ∧ ∀ j k H, U j k H →
      (L.stop j H ∧ Nx H) ∨ (L.go j H ∧ ∃ Ny : Hp → Prop, (∀ H', Ny H' → ∃ k', k' < k ∧ U (j + 1) k' H') ∧ ∀ y H', L.yld j H y H' → gj y (wipe σ2 vj) H' fun σ3 H5 => wipe σ3 vj = wipe σ2 vj ∧
        tk σ3 H5 fun kv H6 => tv σ3 H6 fun z H7 => ∃ kvs k2, kv = kV k2 ∧ H7 D = some (.dK kvs) ∧ kvs.length < sizeLine ∧ Ny (upd H7 D (.dK (L2.putK kvs k2 z)))))
section
variable {X : Cx}
theorem dc2_core {pins : List (Addr × Obj)} {s : Shared} {σ : L2.St} {H : Hp} {Q : VK} {kx vx t0 i0 t1 i1 : Expr} {scope : Scope} {own : List (PySem.Str × Nat)} {vj : List Nat} {pos p2 : Pos} {wi wj : TI} {g gj : TG} {tk tv : TE} {use : Option (Value → Sem Unit)} {Qf : Value → Shared → Prop}
    (hc : X.calm = true) (hN : X.N.Nodup) (I : L2.Inv X pins σ H s) (hi : PI X t0 i0 wi) (ok : BlkOk X.N X.env.scope scope own) (hv : ∀ i ∈ vj, i ∈ own.map (·.2))
    (hg : ∀ (s : Shared) (H : Hp) (C : Addr) (cl : List (PySem.Str × Addr)) (fp : List Addr), PG (X.blk s H scope (compEnvC scope cl C X.env) fp) t0 g)
    (hj : ∀ (s : Shared) (H : Hp) (C : Addr) (cl : List (PySem.Str × Addr)) (fp : List Addr), PI (X.blk s H scope (compEnvC scope cl C X.env) fp) t1 i1 wj)
    (hgj : ∀ (s : Shared) (H : Hp) (C : Addr) (cl : List (PySem.Str × Addr)) (fp : List Addr), PG (X.blk s H scope (compEnvC scope cl C X.env) fp) t1 gj)
    (hk : ∀ (s : Shared) (H : Hp) (C : Addr) (cl : List (PySem.Str × Addr)) (fp : List Addr), PE (X.blk s H scope (compEnvC scope cl C X.env) fp) kx tk)
    (hx : ∀ (s : Shared) (H : Hp) (C : Addr) (cl : List (PySem.Str × Addr)) (fp : List Addr), PE (X.blk s H scope (compEnvC scope cl C X.env) fp) vx tv)
    (hs : ∀ x, foldedSetIterable i0 X.env x = pure x) (hsj : ∀ env x, foldedSetIterable i1 env x = pure x)
    (h : tDc2 wi g wj gj tk tv (own.map (·.2)) vj σ H Q)
    (fine : ∀ D C s' m H', L2.Inv X pins σ H' s' → Q (.ref D) H' → s'.heap.Ns C m → FpOk X pins H' C → compPost (model X.prog X.w) X.A X.xe use Qf (.ref D) C (.ok .next) s') :
    wpAny (model X.prog X.w) X.A (comprehension (dcE kx vx t0 i0 t1 i1 scope pos) scope X.env p2 PySem.newDict false (eval i0 X.env) use) Qf X.xe s := by
  have free : ∀ y ∈ scope.names, y.2 = .free → ∃ c, X.env.cells.lookup y.1 = some c := fun y hy e => (ok.free y hy e).elim (fun k => I.ok.has _ (.inl k)) fun k => I.ok.has _ (.inr k)
  refine wpAny_comprehension_free (use := use) rfl hs (closure_ok free) ok.kind (fun y hy e => by rw [ok.uniq y hy, e]) (thn (hi.run pins s σ H _ I h) fun xv sa hxv => thn hxv fun itv sb hb => ?_)
  obtain ⟨it, fp, tn, J, Hb, rfl, Ib, T, stb, fb, q⟩ := hb
  refine wpAny_newObj_type (newEnv_comp ?_)
  obtain ⟨W, ⟨m0, w0⟩, turn⟩ := q sb.heap.objs.size (Ib.hok.fresh (Nat.le_refl _))
  -- the new dict
  have Ic : L2.Inv X pins σ (upd Hb sb.heap.objs.size (.dK [])) { sb with heap := sb.heap.push { cls := .type "dict", data := .dict #[] } } :=
    Ib.laid (t' := sb.toks) (fun b o e => Heap.get?_push_of_some _ e) (Nat.le_refl _) (dk_empty sb.heap Ib.big)
  have lt : ∀ b ∈ fp, b < sb.heap.objs.size := fun b hm => by
    obtain ⟨o, e, _⟩ := T.obj _ _ stb b hm
    exact Heap.lt_size e
  have fc : ∀ b ∈ fp, FpOk X pins (upd Hb sb.heap.objs.size (.dK [])) b ∧ b < (sb.heap.push { cls := .type "dict", data := .dict #[] }).objs.size := fun b hm =>
    ⟨⟨by rw [upd_ne (Nat.ne_of_lt (lt b hm))]; exact (fb b hm).1, (fb b hm).2⟩, by rw [Heap.size_push]; exact Nat.lt_succ_of_lt (lt b hm)⟩
  have stc : tn 0 (sb.heap.push { cls := .type "dict", data := .dict #[] }) := T.keep _ _ _ stb fun b _ o e => Heap.get?_push_of_some _ e
  have Id := block_start Ic ok hN fc
  have pg := hg { sb with heap := sb.heap.push { cls := .type "dict", data := .dict #[] } } (upd Hb sb.heap.objs.size (.dK [])) (sb.heap.push { cls := .type "dict", data := .dict #[] }).objs.size (cellsFrom ((sb.heap.push { cls := .type "dict", data := .dict #[] }).objs.size + 1) scope.names (cloFrom X.env.cells scope.names [])) fp
  have pj := hj { sb with heap := sb.heap.push { cls := .type "dict", data := .dict #[] } } (upd Hb sb.heap.objs.size (.dK [])) (sb.heap.push { cls := .type "dict", data := .dict #[] }).objs.size (cellsFrom ((sb.heap.push { cls := .type "dict", data := .dict #[] }).objs.size + 1) scope.names (cloFrom X.env.cells scope.names [])) fp
  have pgj := hgj { sb with heap := sb.heap.push { cls := .type "dict", data := .dict #[] } } (upd Hb sb.heap.objs.size (.dK [])) (sb.heap.push { cls := .type "dict", data := .dict #[] }).objs.size (cellsFrom ((sb.heap.push { cls := .type "dict", data := .dict #[] }).objs.size + 1) scope.names (cloFrom X.env.cells scope.names [])) fp
  have pk := hk { sb with heap := sb.heap.push { cls := .type "dict", data := .dict #[] } } (upd Hb sb.heap.objs.size (.dK [])) (sb.heap.push { cls := .type "dict", data := .dict #[] }).objs.size (cellsFrom ((sb.heap.push { cls := .type "dict", data := .dict #[] }).objs.size + 1) scope.names (cloFrom X.env.cells scope.names [])) fp
  have px := hx { sb with heap := sb.heap.push { cls := .type "dict", data := .dict #[] } } (upd Hb sb.heap.objs.size (.dK [])) (sb.heap.push { cls := .type "dict", data := .dict #[] }).objs.size (cellsFrom ((sb.heap.push { cls := .type "dict", data := .dict #[] }).objs.size + 1) scope.names (cloFrom X.env.cells scope.names [])) fp
  have tnD : sb.heap.objs.size = sb.heap.objs.size := rfl
  generalize hsc : ({ sb with heap := sb.heap.push { cls := .type "dict", data := .dict #[] } } : Shared) = sc at Ic Id pg pj pgj pk px ⊢
  have hsc' : sb.heap.push { cls := .type "dict", data := .dict #[] } = sc.heap := by rw [← hsc]
  rw [hsc'] at stc pg pj pgj pk px
  have fc : ∀ b ∈ fp, FpOk X pins (upd Hb sb.heap.objs.size (.dK [])) b ∧ b < sc.heap.objs.size := fun b hm => by rw [← hsc']; exact fc b hm
  generalize sb.heap.objs.size = D at w0 turn Ic Id pg pj pgj pk px fc ⊢
  generalize hHc : upd Hb D (.dK []) = Hc at w0 Ic Id pg pj pgj pk px fc
  show codeAny _ _ (.compStart (dcE kx vx t0 i0 t1 i1 scope pos) 0 (.ref it) (.ref D) (compEnvC scope (cellsFrom (sc.heap.objs.size + 1) scope.names (cloFrom X.env.cells scope.names [])) sc.heap.objs.size X.env)) (compPost (model X.prog X.w) X.A X.xe use Qf (.ref D) sc.heap.objs.size) { sc with heap := pushCells (sc.heap.push { cls := .type "dict", data := .dict #[] }) scope.names }
  generalize hce : compEnvC scope (cellsFrom (sc.heap.objs.size + 1) scope.names (cloFrom X.env.cells scope.names [])) sc.heap.objs.size X.env = ce at Id pg pj pgj pk px ⊢
  have cl : ce.locals = sc.heap.objs.size := by subst hce; rfl
  have std : tn 0 (pushCells (sc.heap.push { cls := .type "dict", data := .dict #[] }) scope.names) := T.keep _ _ _ stc fun b _ o e => pushCells_keeps _ _ _ _ (Heap.get?_push_of_some _ e)
  have still : ∀ {τ : L2.St} {G : Hp} {s' : Shared}, L2.Inv (X.blk sc Hc scope ce fp) [] τ G s' → (∀ b ∈ fp, G b = none) → ∀ b ∈ fp, FpOk (X.blk sc Hc scope ce fp) [] G b := fun {τ G s'} Iz nz b hm =>
    ⟨nz b hm, (Iz.ok.exf b hm).1, Iz.ok.exfs b hm, .inl hm, fun y c e => (Iz.ok.exf b hm).2 y c e, fun p hp => absurd (show p ∈ ([] : List (Addr × Obj)) ++ [] from hp) (by simp)⟩
  have loop : codeAny (model X.prog X.w) X.A (.compLoop (dcE kx vx t0 i0 t1 i1 scope pos) 0 (.ref it) (.ref D) ce) (compPost (model X.prog X.w) X.A X.xe use Qf (.ref D) sc.heap.objs.size) { sc with heap := pushCells (sc.heap.push { cls := .type "dict", data := .dict #[] }) scope.names } := by
    refine loop_outer (hsj ce) (fun n s' => ∃ i G, L2.Inv (X.blk sc Hc scope ce fp) [] (wipe σ (own.map (·.2))) G s' ∧ tn i s'.heap ∧ (∀ b ∈ fp, G b = none) ∧ W i n G) ?_ m0 ⟨0, Hc, Id, std, fun b hm => (fc b hm).1.1, w0⟩
    rintro n s5 ⟨i, H5, I5, st5, n5, w5⟩
    rcases turn i n H5 w5 with ⟨stop, qq⟩ | ⟨go, Nx, hNx, step⟩
    · refine thnF (T.done (X.blk sc Hc scope ce fp) rfl rfl rfl hc i [] s5 _ H5 (fun _ _ => False) I5 (still I5 n5) st5 stop) fun r s6 ⟨hr, I6⟩ => ?_
      subst hr
      have I7 : L2.Inv X pins σ H5 s6 := Ic.call' (ch := fp) I6.os I6.base I6.hok I6.bare fun b hm => ⟨(fc b hm).1.2.2.2.1, (fc b hm).1.2.1, (fc b hm).1.2.2.2.2.1, (fc b hm).1.2.2.2.2.2⟩
      have nC : H5 sc.heap.objs.size = none := by
        have z : H5 ce.locals = none := I6.free
        rwa [cl] at z
      obtain ⟨m, hm, _⟩ := I6.loc
      have hm : s6.heap.Ns ce.locals m := hm
      rw [cl] at hm
      exact fine D sc.heap.objs.size s6 m H5 I7 qq hm (Ic.fpOk (Nat.le_refl _) nC)
    · refine thnF (T.item (X.blk sc Hc scope ce fp) rfl rfl rfl hc i [] s5 _ H5 (fun _ _ => False) I5 (still I5 n5) st5 go) fun r s6 ⟨u, hr, h6⟩ => ?_
      subst hr
      refine thnF h6 fun _ s7 ⟨x, H7, I7, r7, y7, st7, n7⟩ => ?_
      have I7p := I7.pinned (still I7 n7) (T.obj _ _ st7)
      refine thnF (pg.run _ s7 _ H7 x u _ I7p r7 (step x H7 y7)) fun _ s8 ⟨τ, H8, I8, hw, q8⟩ => ?_
      -- what the block knew at the turn's start, behind any state of the turn
      have back : ∀ {ζ : L2.St} {s' : Shared} {G : Hp}, L2.Inv (X.blk sc Hc scope ce fp) ([] ++ pinsAt fp s7.heap) ζ G s' → (wipe σ (own.map (·.2))).length = ζ.length → (∀ (j : Nat) v, (wipe σ (own.map (·.2)))[j]? = some (some v) → ζ[j]? = some (some v)) → Nx G →
          ∃ m, m < n ∧ ∃ i G, L2.Inv (X.blk sc Hc scope ce fp) [] (wipe σ (own.map (·.2))) G s' ∧ tn i s'.heap ∧ (∀ b ∈ fp, G b = none) ∧ W i m G := fun {ζ s' G} Iz hl hk nx => by
        obtain ⟨m, hm, wm⟩ := hNx G nx
        have pin : ∀ b ∈ fp, ∀ o, s7.heap.get? b = some o → s'.heap.get? b = some o ∧ G b = none := fun b hb o e => by
          have z := Iz.pin (b, o) (List.mem_append_right _ (List.mem_append_right _ (mem_pinsAt hb e)))
          exact ⟨z.1, z.2.1⟩
        refine ⟨m, hm, i + 1, G, (Iz.unpinned (pins := [])).weak hl hk, T.keep _ _ _ st7 fun b hb o e => (pin b hb o e).1, fun b hb => ?_, wm⟩
        obtain ⟨o, e, _⟩ := T.obj _ _ st7 b hb
        exact (pin b hb o e).2
      have hlen : (wipe σ (own.map (·.2))).length = (wipe τ vj).length := by rw [← hw, wipe_length, wipe_length]
      have hkeep : ∀ (j : Nat) v, (wipe σ (own.map (·.2)))[j]? = some (some v) → (wipe τ vj)[j]? = some (some v) := fun j v e => by
        rw [← hw] at e
        obtain ⟨e1, e2⟩ := wipe_some e
        rw [wipe_out fun z => e2 (hv j z)]
        exact e1
      refine thnF (pj.run _ s8 τ H8 _ I8 q8) fun xv s9 h9 => thnF h9 fun jv s10 h10 => ?_
      obtain ⟨jt, fq, tm, L, H10, rfl, I10, T2, st10, f10, U, ⟨k0, u0⟩, turn2⟩ := h10
      have still2 : ∀ {G : Hp}, (∀ b ∈ fq, G b = none) → ∀ b ∈ fq, FpOk (X.blk sc Hc scope ce fp) ([] ++ pinsAt fp s7.heap) G b := fun nz b hb => ⟨nz b hb, (f10 b hb).2⟩
      have inner : codeAny (model X.prog X.w) X.A (.compLoop (dcE kx vx t0 i0 t1 i1 scope pos) 1 (.ref jt) (.ref D) ce)
          (fun r s' => match r with
            | .ok _ => ∃ m, m < n ∧ ∃ i G, L2.Inv (X.blk sc Hc scope ce fp) [] (wipe σ (own.map (·.2))) G s' ∧ tn i s'.heap ∧ (∀ b ∈ fp, G b = none) ∧ W i m G
            | .error _ => False) s10 := by
        refine loop_inner (fun k s' => ∃ j G, L2.Inv (X.blk sc Hc scope ce fp) ([] ++ pinsAt fp s7.heap) (wipe τ vj) G s' ∧ tm j s'.heap ∧ (∀ b ∈ fq, G b = none) ∧ U j k G) ?_ k0 ⟨0, H10, I10.weak (wipe_length _ _) (fun j v e => (wipe_some e).1), st10, fun b hb => (f10 b hb).1, u0⟩
        rintro k s11 ⟨j, H11, I11, st11, n11, u11⟩
        rcases turn2 j k H11 u11 with ⟨stop, nx⟩ | ⟨go2, Ny, hNy, step2⟩
        · refine thnF (T2.done (X.blk sc Hc scope ce fp) rfl rfl rfl hc j _ s11 (wipe τ vj) H11 (fun _ _ => False) I11 (still2 n11) st11 stop) fun r s12 ⟨hr, I12⟩ => ?_
          subst hr
          exact back I12 hlen hkeep nx
        · refine thnF (T2.item (X.blk sc Hc scope ce fp) rfl rfl rfl hc j _ s11 (wipe τ vj) H11 (fun _ _ => False) I11 (still2 n11) st11 go2) fun r s12 ⟨u2, hr, h12⟩ => ?_
          subst hr
          refine thnF h12 fun _ s13 ⟨y, H13, I13, r13, y13, st13, n13⟩ => ?_
          have I13p := I13.pinned (still2 n13) (T2.obj _ _ st13)
          refine thnF (pgj.run _ s13 (wipe τ vj) H13 y u2 _ I13p r13 (step2 y H13 y13)) fun _ s14 ⟨ζ, H14, I14, hw2, q14⟩ => ?_
          refine thnF (pk.run _ s14 ζ H14 _ I14 q14) fun kv s15 ⟨kx', H15, I15, rk, q15⟩ => ?_
          refine thnF (px.run _ s15 ζ H15 _ I15 q15) fun vv s16 ⟨zx, H16, I16, rz, kvs, k2, ek, hD, hz, ny⟩ => ?_
          subst ek
          refine d_dictSet (X := X.blk sc Hc scope ce fp) I16 hD hz rk rz fun s17 I17 => ?_
          obtain ⟨m, hm, um⟩ := hNy _ ny
          have pin : ∀ b ∈ fq, ∀ o, s13.heap.get? b = some o → s17.heap.get? b = some o ∧ (upd H16 D (.dK (L2.putK kvs k2 zx))) b = none := fun b hb o e => by
            have z := I17.pin (b, o) (List.mem_append_right _ (List.mem_append_right _ (mem_pinsAt hb e)))
            exact ⟨z.1, z.2.1⟩
          refine ⟨m, hm, j + 1, _, I17.unpinned.weak (by rw [← hw2, wipe_length]) (fun j v e => by rw [← hw2] at e; exact (wipe_some e).1), T2.keep _ _ _ st13 fun b hb o e => (pin b hb o e).1, fun b hb => ?_, um⟩
          obtain ⟨o, e, _⟩ := T2.obj _ _ st13 b hb
          exact (pin b hb o e).2
      exact start_inner inner (T2.self X.A 0 _ _ _ st10 inner)
  exact codeAny_compStart_dict loop (T.self X.A 0 _ _ _ std loop)
/-- as a value -/
theorem pe_dc2 {kx vx t0 i0 t1 i1 : Expr} {scope : Scope} {own : List (PySem.Str × Nat)} {vj : List Nat} {pos : Pos} {wi wj : TI} {g gj : TG} {tk tv : TE}
    (hc : X.calm = true) (hN : X.N.Nodup) (hi : PI X t0 i0 wi) (ok : BlkOk X.N X.env.scope scope own) (hv : ∀ i ∈ vj, i ∈ own.map (·.2))
    (hg : ∀ (s : Shared) (H : Hp) (C : Addr) (cl : List (PySem.Str × Addr)) (fp : List Addr), PG (X.blk s H scope (compEnvC scope cl C X.env) fp) t0 g)
    (hj : ∀ (s : Shared) (H : Hp) (C : Addr) (cl : List (PySem.Str × Addr)) (fp : List Addr), PI (X.blk s H scope (compEnvC scope cl C X.env) fp) t1 i1 wj)
    (hgj : ∀ (s : Shared) (H : Hp) (C : Addr) (cl : List (PySem.Str × Addr)) (fp : List Addr), PG (X.blk s H scope (compEnvC scope cl C X.env) fp) t1 gj)
    (hk : ∀ (s : Shared) (H : Hp) (C : Addr) (cl : List (PySem.Str × Addr)) (fp : List Addr), PE (X.blk s H scope (compEnvC scope cl C X.env) fp) kx tk)
    (hx : ∀ (s : Shared) (H : Hp) (C : Addr) (cl : List (PySem.Str × Addr)) (fp : List Addr), PE (X.blk s H scope (compEnvC scope cl C X.env) fp) vx tv)
    (hs : ∀ x, foldedSetIterable i0 X.env x = pure x) (hsj : ∀ env x, foldedSetIterable i1 env x = pure x) : PE X (dcE kx vx t0 i0 t1 i1 scope pos) (tDc2 wi g wj gj tk tv (own.map (·.2)) vj) := ⟨fun pins s σ H Q I h => by
  rw [arm_eval_DictComp]
  refine dc2_core hc hN I hi ok hv hg hj hgj hk hx hs hsj h fun D B s' n G J q hn f => ⟨n, hn, fun h2 sb => ?_⟩
  obtain ⟨f0, f1, f2, f3, f4, f5⟩ := f
  exact ⟨.ref D, G, J.turned (t' := s'.toks) (fun b o hb e => (sb.2 b hb).trans e) f0 f1 f3 f4 f5, rfl, q⟩⟩
end
end Mi
end

section
set_option linter.all false
set_option maxRecDepth 100000
set_option autoImplicit false
/-! Mi: a dict comprehension with two fors is what the run says. -/
namespace Mi
open PySem L2
variable [Cls]
theorem EnvR.laterM {H H' : Hp} {mt mt' : Addr → Prop} {ms ms' : List Addr} {ρ : Env} {σ : L2.St} (h : EnvR H mt ms ρ σ) (l : LaterM H mt ms H' mt' ms') : EnvR H' mt' ms' ρ σ :=
  ⟨h.1, fun j d e => by obtain ⟨w, e1, r⟩ := h.2 j d e; exact ⟨w, e1, Rp.laterM l d w r⟩⟩
theorem clr_some {i : Nat} {x : D} : ∀ {vs : List Nat} {ρ : Env}, (clr vs ρ)[i]? = some (some x) → ρ[i]? = some (some x) ∧ i ∉ vs
  | [], ρ, h => ⟨h, by simp⟩
  | v :: vs, ρ, h => by
    unfold clr at h
    by_cases hi : v = i
    · subst hi
      by_cases hl : v < (clr vs ρ).length
      · rw [List.getElem?_set_self hl] at h; cases h
      · rw [List.getElem?_eq_none (by simpa using hl)] at h; cases h
    · rw [List.getElem?_set_ne hi] at h
      obtain ⟨q1, q2⟩ := clr_some h
      exact ⟨q1, fun z => (List.mem_cons.mp z).elim (fun z => hi z.symm) q2⟩
theorem clr_len : ∀ {vs : List Nat} {ρ : Env}, (clr vs ρ).length = ρ.length
  | [], ρ => rfl
  | v :: vs, ρ => by unfold clr; rw [List.length_set, clr_len]
theorem clr_env {H : Hp} {mt : Addr → Prop} {ms : List Addr} {ρ : Env} {σ : L2.St} {vs : List Nat} (h : EnvR H mt ms ρ σ) : EnvR H mt ms (clr vs ρ) (wipe σ vs) := by
  refine ⟨by rw [clr_len, wipe_length]; exact h.1, fun i d e => ?_⟩
  obtain ⟨q1, q2⟩ := clr_some e
  rw [wipe_out q2]
  exact h.2 i d q1
theorem wipe_app (σ : L2.St) (b : List Nat) : ∀ a : List Nat, wipe σ (a ++ b) = wipe (wipe σ b) a
  | [] => rfl
  | v :: a => by
    show (wipe σ (a ++ b)).set v none = (wipe (wipe σ b) a).set v none
    rw [wipe_app σ b a]
theorem wipe_more {σ σ2 : L2.St} {a b : List Nat} (h : wipe σ2 a = wipe σ (a ++ b)) : wipe σ2 (a ++ b) = wipe σ (a ++ b) := by
  have hl : σ2.length = σ.length := by
    have := congrArg List.length h
    rwa [wipe_length, wipe_length] at this
  refine List.ext_getElem? fun i => ?_
  by_cases hi : i ∈ a ++ b
  · by_cases hn : i < σ.length
    · rw [wipe_in hi hn, wipe_in hi (by rw [hl]; exact hn)]
    · rw [List.getElem?_eq_none (by rw [wipe_length, hl]; omega), List.getElem?_eq_none (by rw [wipe_length]; omega)]
  · have h1 : i ∉ a := fun z => hi (List.mem_append_left _ z)
    have e := congrArg (fun l : L2.St => l[i]?) h
    have e : (wipe σ2 a)[i]? = (wipe σ (a ++ b))[i]? := e
    rw [wipe_out h1, wipe_out hi] at e
    rw [wipe_out hi, wipe_out hi, e]
theorem tgt_ok2 {K : PySem.W.Frag} {H : Hp} {mt : Addr → Prop} {ms : List Addr} {tg tg2 : List Nat} {d : D} {v : V} {ρ ρ1 : Env} {σ : L2.St} {Q : L2.St → Hp → Prop} (e : tgt tg d (clr tg2 ρ) = some ρ1) (er : EnvR H mt ms ρ σ) (r : Rp H mt ms d v)
    (k : ∀ σ2, EnvR H mt ms ρ1 σ2 → L2.wipe σ2 (tg ++ tg2) = L2.wipe σ (tg ++ tg2) → Q σ2 H) : gT K tg v (L2.wipe σ (tg ++ tg2)) H Q := by
  rw [wipe_app]
  refine tgt_ok e (clr_env er) r fun σ2 e2 hw => k σ2 e2 (wipe_more ?_)
  rw [hw, wipe_app]
def turn2 (C : Nat → List D → Sto → Rs D) (tg : List Nat) (tg2 : List Nat) (src2 : Sr) (kx vx : E) (ρ : Env) : D → List K2 → List D → Sto → Rs (List K2 × List D) := fun x ks ds s => match tgt tg x (clr tg2 ρ) with
      | some ρ1 => (evTs C .nil ρ1 s).bind fun t s2 => if t then (evR C src2 ρ1 s2).bind fun zs s3 => if ks.length + zs.length ≤ big then dcompL (turnK C tg2 .nil kx vx ρ1) ks ds zs s3 else .stuck
        else .ok (ks, ds) s2
      | none => .stuck
section
variable {X : Cx} {XR : XRel} {C : Nat → List D → Sto → Rs D} {E : WX}
theorem dcomp2_imp {K : PySem.W.Frag} {m : Bool} {kx vx : Mi.E} {tg tg2 : List Nat} {src src2 : Sr} {σ : L2.St} {H : Hp} {Q : VK} (h : tE XR C E (.dcomp2 m kx vx tg src .nil tg2 src2 .nil) σ H Q) :
    tDc2 (tR XR C E src) (gT K tg) (tR XR C XN src2) (gT K tg2) (tE XR C XN kx) (tE XR C XN vx) (tg ++ tg2) tg2 σ H Q := by
  obtain ⟨F, ρ, ms, st, sm, er, p⟩ := h
  refine ⟨F, ρ, ms, st, sm, er, Pst.bind (Rel2 := wRel) p fun xs s1 J H1 ms1 _ l1 sm1 wj p1 => ?_⟩
  replace er := er.later l1
  intro D hD
  have nF : ¬ F D := fun z => sm1.fr D z hD
  have p1 : Pst XR F Rp ((accL (turn2 C tg tg2 src2 kx vx ρ) [] [] xs s1).bind fun p s2 => newDict m p s2) H1 ms1 s1 Q (wx E σ) := p1
  refine ⟨fun i k H' => k = xs.length - i ∧ i ≤ xs.length ∧ ∃ ms' s' acc ks ds, Later F H1 ms1 s1 H' ms' s' ∧ Sm (FA F D) H' ms' s' ∧ H' D = some (.dK ((ks.map kOf).zip acc)) ∧ ks.length = ds.length ∧ Rps H' (Mt (FA F D) ms' s') ms' ds acc ∧
      Pst XR F Rp ((accL (turn2 C tg tg2 src2 kx vx ρ) ks ds (xs.drop i) s').bind fun p s2 => newDict m p s2) H1 ms1 s1 Q (wx E σ),
    ⟨xs.length, by simp, Nat.zero_le _, ms1, s1, [], [], [], later_new sm1 hD, fa_start sm1 hD _, upd_same, rfl, Rps.nil, by simpa using p1⟩, ?_⟩
  rintro i k H' ⟨rfl, hi, ms', s', acc, ks, ds, l, smF, hDl, hkd, rr, pr⟩
  obtain ⟨ws, wg⟩ := wj _ H' ms' s' (fa_in sm1 hD l) smF
  by_cases hlt : i < xs.length
  · obtain ⟨go, yl⟩ := wg i _ (List.getElem?_eq_getElem hlt)
    refine .inr ⟨go, fun H'' => i + 1 ≤ xs.length ∧ ∃ ms' s' acc ks ds, Later F H1 ms1 s1 H'' ms' s' ∧ Sm (FA F D) H'' ms' s' ∧ H'' D = some (.dK ((ks.map kOf).zip acc)) ∧ ks.length = ds.length ∧ Rps H'' (Mt (FA F D) ms' s') ms' ds acc ∧
      Pst XR F Rp ((accL (turn2 C tg tg2 src2 kx vx ρ) ks ds (xs.drop (i + 1)) s').bind fun p s2 => newDict m p s2) H1 ms1 s1 Q (wx E σ), fun H'' q => ⟨xs.length - (i + 1), by omega, rfl, q⟩, fun v H2 y => ?_⟩
    obtain ⟨l2, sm2, rx⟩ := yl v H2 y
    rw [List.drop_eq_getElem_cons hlt] at pr
    simp only [accL, Rs.bind_assoc] at pr
    generalize hcont : (fun (p : List K2 × List Mi.D) (s : Sto) => (accL (turn2 C tg tg2 src2 kx vx ρ) p.1 p.2 (xs.drop (i + 1)) s).bind fun p s2 => newDict m p s2) = cont at pr
    cases htg : tgt tg xs[i] (clr tg2 ρ) with
    | none =>
      have e0 : turn2 C tg tg2 src2 kx vx ρ xs[i] ks ds s' = .stuck := by unfold turn2; rw [htg]
      rw [e0] at pr
      exact pr.elim
    | some ρ1 =>
    have e0 : turn2 C tg tg2 src2 kx vx ρ xs[i] ks ds s' = (evR C src2 ρ1 s').bind fun zs s3 => if ks.length + zs.length ≤ big then dcompL (turnK C tg2 .nil kx vx ρ1) ks ds zs s3 else .stuck := by
      unfold turn2; rw [htg]; rfl
    rw [e0] at pr
    have l02 : Later F H1 ms1 s1 H2 ms' s' := fa_out0 sm1 hD l l2
    have er2 : EnvR H2 (Mt (FA F D) ms' s') ms' ρ σ := er.laterM (fa_in sm1 hD l02)
    refine tgt_ok2 htg er2 rx fun σ2 er3 hw => ⟨hw, FA F D, ρ1, ms', s', sm2, er3, ?_⟩
    cases hzs : evR C src2 ρ1 s' with
    | stuck => rw [hzs] at pr; exact pr.elim
    | ex c es s => rw [hzs] at pr; exact pr.elim
    | ok zs s3 =>
    rw [hzs] at pr
    change Pst XR F Rp ((noex (if ks.length + zs.length ≤ big then dcompL (turnK C tg2 .nil kx vx ρ1) ks ds zs s3 else .stuck)).bind cont) H1 ms1 s1 Q (wx E σ) at pr
    by_cases hroom : ks.length + zs.length ≤ big
    case neg => rw [if_neg hroom] at pr; exact pr.elim
    rw [if_pos hroom] at pr
    intro J2 H4 ms4 l4 sm4 wj2
    have l04 : Later (FA F D) H' ms' s' H4 ms4 s3 := l2.trans l4
    have hD4 : H4 D = some (.dK ((ks.map kOf).zip acc)) := (l04.own D (.inr rfl)).trans hDl
    have er4 := er3.later l4
    refine ⟨fun j k G => k = zs.length - j ∧ j ≤ zs.length ∧ ∃ ms5 s5 acc5 ks5 ds5, Later F H1 ms1 s1 G ms5 s5 ∧ Sm (FA F D) G ms5 s5 ∧ LaterM H4 (Mt (FA F D) ms4 s3) ms4 G (Mt (FA F D) ms5 s5) ms5 ∧ G D = some (.dK ((ks5.map kOf).zip acc5)) ∧ ks5.length = ds5.length ∧ Rps G (Mt (FA F D) ms5 s5) ms5 ds5 acc5 ∧ ks5.length ≤ ks.length + j ∧
        Pst XR F Rp ((noex (dcompL (turnK C tg2 .nil kx vx ρ1) ks5 ds5 (zs.drop j) s5)).bind cont) H1 ms1 s1 Q (wx E σ),
      ⟨zs.length, by simp, Nat.zero_le _, ms4, s3, acc, ks, ds, fa_out0 sm1 hD l l04, sm4, Later.m Later.refl, hD4, hkd, Rps.later l04 _ _ rr, Nat.le_refl _, by simpa using pr⟩, ?_⟩
    rintro j k G ⟨rfl, hj, ms5, s5, acc5, ks5, ds5, l5, sm5, lm5, hD5, hkd5, rr5, hn5, pr5⟩
    obtain ⟨ws2, wg2⟩ := wj2 _ G ms5 s5 lm5 sm5
    by_cases hjl : j < zs.length
    · obtain ⟨go2, yl2⟩ := wg2 j _ (List.getElem?_eq_getElem hjl)
      refine .inr ⟨go2, fun G' => j + 1 ≤ zs.length ∧ ∃ ms5 s5 acc5 ks5 ds5, Later F H1 ms1 s1 G' ms5 s5 ∧ Sm (FA F D) G' ms5 s5 ∧ LaterM H4 (Mt (FA F D) ms4 s3) ms4 G' (Mt (FA F D) ms5 s5) ms5 ∧ G' D = some (.dK ((ks5.map kOf).zip acc5)) ∧ ks5.length = ds5.length ∧ Rps G' (Mt (FA F D) ms5 s5) ms5 ds5 acc5 ∧ ks5.length ≤ ks.length + (j + 1) ∧
        Pst XR F Rp ((noex (dcompL (turnK C tg2 .nil kx vx ρ1) ks5 ds5 (zs.drop (j + 1)) s5)).bind cont) H1 ms1 s1 Q (wx E σ), fun G' q => ⟨zs.length - (j + 1), by omega, rfl, q⟩, fun v2 G2 y2 => ?_⟩
      obtain ⟨l6, sm6, rx2⟩ := yl2 v2 G2 y2
      rw [List.drop_eq_getElem_cons hjl] at pr5
      simp only [dcompL] at pr5
      cases ht : turnK C tg2 .nil kx vx ρ1 zs[j] s5 with
      | stuck => rw [ht] at pr5; exact pr5.elim
      | ex c es s => rw [ht] at pr5; exact pr5.elim
      | ok o s6 =>
      rw [ht] at pr5
      simp only [noex, Rs.bind] at pr5
      unfold turnK at ht
      cases htg2 : tgt tg2 zs[j] ρ1 with
      | none => rw [htg2] at ht; cases ht
      | some ρ2 =>
      rw [htg2] at ht
      simp only [evTs, Rs.bind, if_true] at ht
      have er6 : EnvR G2 (Mt (FA F D) ms5 s5) ms5 ρ1 σ2 := er4.laterM (lm5.trans l6.m)
      refine tgt_ok htg2 er6 rx2 fun σ3 er7 hw2 => ⟨hw2, FA F D, ρ2, ms5, s5, sm6, er7, ?_⟩
      cases hk : evE C kx ρ2 s5 with
      | stuck => rw [hk] at ht; cases ht
      | ex c es s => rw [hk] at ht; cases ht
      | ok kd s7 =>
      rw [hk] at ht
      simp only at ht
      intro kv H7 ms7 l7 sm7 rk
      refine ⟨FA F D, ρ2, ms7, s7, sm7, er7.later l7, ?_⟩
      cases hv : evE C vx ρ2 s7 with
      | stuck => rw [hv] at ht; cases ht
      | ex c es s => rw [hv] at ht; cases ht
      | ok vd s8 =>
      rw [hv] at ht
      simp only at ht
      intro vv H8 ms8 l8 sm8 rv
      cases hof : K2.of kd with
      | none => rw [hof] at ht; cases ht
      | some k2 =>
      rw [hof] at ht
      simp only [Rs.ok.injEq] at ht
      obtain ⟨rfl, rfl⟩ := ht
      have l58 : Later (FA F D) G ms5 s5 H8 ms8 s8 := (l6.trans l7).trans l8
      have hD8 : H8 D = some (.dK ((ks5.map kOf).zip acc5)) := (l58.own D (.inr rfl)).trans hD5
      have rr8 := Rps.later l58 _ _ rr5
      obtain ⟨acc', e', hl', rr'⟩ := putK_rp (k := k2) rv hkd5 rr8
      have hlen : ((ks5.map kOf).zip acc5).length = ks5.length := by
        rw [List.length_zip, List.length_map, ← rr5.length, ← hkd5, Nat.min_self]
      have st8 := fa_step (F := F) (ms := ms8) (st := s8) (HO.dK ((ks5.map kOf).zip acc5)) (HO.dK (((putK k2 vd ks5 ds5).1.map kOf).zip acc')) hD8 (fun _ z => nomatch z) (fun _ _ z => nomatch z)
      refine ⟨_, kOf k2, K2.of_v hof (Rp.later l8 _ _ rk), hD8, ?_, hjl, ms8, s8, acc', (putK k2 vd ks5 ds5).1, (putK k2 vd ks5 ds5).2, ?_, ?_, ?_, ?_, hl', ?_, ?_, ?_⟩
      · rw [hlen, ← big_eq]
        omega
      · rw [e']; exact fa_out sm1 hD l5 l58 _
      · rw [e']; exact fa_sm sm8 _ _ hD8 (fun _ z => nomatch z) (fun _ _ z => nomatch z)
      · rw [e']; exact (lm5.trans l58.m).trans st8
      · rw [e']; exact upd_same
      · rw [e']; exact Rps.laterM st8 _ _ rr'
      · have := putK_len (k := k2) (v := vd) (ks := ks5) (ds := ds5)
        omega
      · exact pr5
    · have e : j = zs.length := by omega
      subst e
      refine .inl ⟨ws2, hlt, ms5, s5, acc5, ks5, ds5, l5, sm5, hD5, hkd5, rr5, ?_⟩
      rw [List.drop_length] at pr5
      simp only [dcompL, noex, Rs.bind] at pr5
      rw [← hcont] at pr5
      exact pr5
  · have e : i = xs.length := by omega
    subst e
    refine .inl ⟨ws, ?_⟩
    rw [List.drop_length] at pr
    simp only [accL, Rs.bind] at pr
    unfold newDict at pr
    cases m with
    | false =>
      simp only [Bool.false_eq_true, if_false] at pr
      refine pr _ H' ms' l (fa_free smF) ?_
      simp only [Rp]
      exact ⟨D, acc, rfl, fa_not smF nF, .inl hDl, hkd, Rps.laterM fa_weak _ _ rr⟩
    | true =>
      simp only [if_true] at pr
      refine pr _ H' (ms' ++ [D]) (fa_adopt_later sm1 hD l smF.len _) (fa_adopt smF nF ⟨acc, hDl, hkd, rr⟩) ?_
      simp only [Rp]
      refine ⟨D, rfl, ?_⟩
      rw [← smF.len, List.getElem?_append_right (Nat.le_refl _), Nat.sub_self]
      rfl
end
end Mi
end

section
set_option linter.all false
set_option maxRecDepth 100000
set_option autoImplicit false
/-! Mi: sum of a list of lists. -/
namespace Mi
open PySem L2
variable [Cls]
section
variable {prog : Program} {w : World} {A : Around} {R : Result → Shared → Prop}
abbrev LO (its : List Value) (n : Nat) : Obj := { cls := .type "list", data := .seq its.toArray n }
theorem sumL_loop (hh : A.in1.handled = none) {l it S : Addr} {its : List Value} {cs : List (List Value)} (hSi : S ≠ it) (hSl : S ≠ l) (hil : it ≠ l)
    (bs : List Addr) (hb : its = bs.map Value.ref) (hbi : it ∉ bs) (hbS : S ∉ bs) (hlen : cs.length = bs.length) :
    ∀ (k i : Nat) (s : Shared) (t : Addr) (acc : List Value) (n c : Nat), its.length - i = k → i ≤ its.length → s.heap.IsListIter it l i → s.heap.IsList l its.toArray →
      (∀ (j : Nat) (b : Addr) (zs : List Value), bs[j]? = some b → cs[j]? = some zs → ∃ m, s.heap.get? b = some (LO zs m)) →
      s.heap.get? S = some { cls := .type "list", dict := none, data := .seq #[.ref t] c, slots := #[] } → s.heap.get? t = some (LO acc n) → t ≠ S → t ≠ it → acc.length + (cs.drop i).flatten.length ≤ sizeLine →
      (∀ (h' : Heap) (tk : Nat) (t' : Addr) (n' : Nat), (∀ b o, b ≠ it → b ≠ S → s.heap.get? b = some o → h'.get? b = some o) → h'.get? t' = some (LO (acc ++ (cs.drop i).flatten) n') → (i = its.length → t' = t) → (i < its.length → s.heap.objs.size ≤ t') → R (.ok (.ret (.ref t'))) { s with heap := h', toks := tk }) →
      codeAny (model prog w) A (.builtin "sum.loop" ⟨[.ref it, .ref S, rawInt 2, rawInt 0], []⟩) R s := by
  intro k
  induction k with
  | zero =>
    intro i s t acc n c hk hi hit hl hc hS ht htS hti hz hR
    have hin : i = its.length := by omega
    refine codeAny_builtin F.entry_sum_loop ?_
    rw [Around.under_plainId F.plain_sum_loop _]
    show wpAny _ A.in1 (seqItems? (.ref S) >>= _) _ _ s
    refine wpAny_bind (wpAny_seqItems hS rfl ?_)
    show wpAny _ A.in1 (tryCatch (pyNext (.ref it)) _ >>= _) _ _ s
    refine wpAny_bind (wpAny_tryCatch (wpAny_pyNext_list_end hh hit hl (by simp; omega) fun h' eb => ?_))
    have hcs : cs.drop i = [] := List.drop_eq_nil_iff.mpr (by rw [hlen]; have : its.length = bs.length := by rw [hb, List.length_map]
                                                              omega)
    refine wpAny_pure (hR h' s.toks t n (fun b o h1 h2 e => eb b o h1 e) ?_ (fun _ => rfl) (fun z => by omega))
    rw [hcs]
    simpa using eb t _ hti ht
  | succ k ih =>
    intro i s t acc n c hk hi hit hl hc hS ht htS hti hz hR
    have hlt : i < its.length := by omega
    have hlb : i < bs.length := by rw [hb, List.length_map] at hlt; exact hlt
    have hlc : i < cs.length := by rw [hlen]; exact hlb
    refine codeAny_builtin F.entry_sum_loop ?_
    rw [Around.under_plainId F.plain_sum_loop _]
    show wpAny _ A.in1 (seqItems? (.ref S) >>= _) _ _ s
    refine wpAny_bind (wpAny_seqItems hS rfl ?_)
    show wpAny _ A.in1 (tryCatch (pyNext (.ref it)) _ >>= _) _ _ s
    have hx : its.toArray[i]? = some (.ref bs[i]) := by
      subst hb
      simp [hlb]
    refine wpAny_bind (wpAny_tryCatch (wpAny_pyNext_list_item hit hl hx fun h' hit' sb => ?_))
    obtain ⟨m, hbm⟩ := hc i bs[i] cs[i] (List.getElem?_eq_getElem hlb) (List.getElem?_eq_getElem hlc)
    have nb : bs[i] ≠ it := fun z => hbi (z ▸ List.getElem_mem hlb)
    have e1 : h'.get? t = some (LO acc n) := (sb.2 t hti).trans ht
    have e2 : h'.get? bs[i] = some (LO cs[i] m) := (sb.2 _ nb).trans hbm
    have hS' := (sb.2 S hSi).trans hS
    show wpAny _ A.in1 ((holding [Value.ref bs[i]] (binaryOp .Add (.ref t) (.ref bs[i]))).attempt >>= _) _ _ _
    have hroom : acc.length + cs[i].length ≤ sizeLine := by
      rw [List.drop_eq_getElem_cons hlc, List.flatten_cons, List.length_append] at hz
      omega
    refine wpAny_bind (wpAny_attempt (wpAny_holding (PySem.P.add_list e1 e2 ?_ (by rw [List.size_toArray, List.size_toArray]; exact hroom))))
    have ea : acc.toArray ++ cs[i].toArray = (acc ++ cs[i]).toArray := by simp
    rw [ea]
    -- the new list, the state
    have lS : S < h'.objs.size := Heap.lt_size hS'
    have lt' : ∀ {b o}, h'.get? b = some o → (h'.push (LO (acc ++ cs[i]) 0)).get? b = some o := fun e => Heap.get?_push_of_some _ e
    have hS2 := lt' hS'
    refine wpAny_bind (wpAny_updateSeq hS2 rfl ?_)
    have hS3 := Heap.get?_update_self (Obj.mapSeq fun _ => #[Value.ref h'.objs.size]) hS2 rfl
    refine wpAny_bind (wpAny_letGo ?_)
    refine wpAny_bind (wpAny_updateSeq hS3 rfl (wpAny_pure ⟨plainId_quiet F.plain_sum_loop _, ?_⟩))
    have keep : ∀ {b o}, b ≠ S → h'.get? b = some o → (((h'.push (LO (acc ++ cs[i]) 0)).update S (Obj.mapSeq fun _ => #[Value.ref h'.objs.size])).update S (Obj.mapSeq fun _ => #[Value.ref h'.objs.size])).get? b = some o := fun hb e =>
      (Heap.get?_update_other _ _ (Ne.symm hb)).trans ((Heap.get?_update_other _ _ (Ne.symm hb)).trans (lt' e))
    have keepN : (((h'.push (LO (acc ++ cs[i]) 0)).update S (Obj.mapSeq fun _ => #[Value.ref h'.objs.size])).update S (Obj.mapSeq fun _ => #[Value.ref h'.objs.size])).get? h'.objs.size = some (LO (acc ++ cs[i]) 0) :=
      (Heap.get?_update_other _ _ (Nat.ne_of_lt lS)).trans ((Heap.get?_update_other _ _ (Nat.ne_of_lt lS)).trans (Heap.get?_push_size _ rfl))
    have nit : h'.objs.size ≠ it := by
      obtain ⟨_, q, _⟩ := hit'
      exact Nat.ne_of_gt (Heap.lt_size q)
    have old : ∀ {b o}, b ≠ it → s.heap.get? b = some o → h'.get? b = some o := fun hb e => (sb.2 _ hb).trans e
    have bS : ∀ j (h : j < bs.length), bs[j] ≠ S := fun j h z => hbS (z ▸ List.getElem_mem h)
    refine ih (i + 1) _ h'.objs.size (acc ++ cs[i]) 0 _ (by omega) hlt (hit'.at fun o q => keep (Ne.symm hSi) q) (hl.at fun o q => keep (Ne.symm hSl) (old (Ne.symm hil) q)) (fun j b zs hj hz2 => ?_) (Heap.get?_update_self _ hS3 rfl) keepN (Nat.ne_of_gt lS) nit ?_ ?_
    · obtain ⟨m2, hm2⟩ := hc j b zs hj hz2
      have mem := List.mem_of_getElem? hj
      exact ⟨m2, keep (fun z => hbS (z ▸ mem)) (old (fun z => hbi (z ▸ mem)) hm2)⟩
    · rw [List.drop_eq_getElem_cons hlc, List.flatten_cons, List.length_append] at hz
      rw [List.length_append]
      omega
    · intro h2 tk t' n' k1 k2 k3 k4
      have hsz : s.heap.objs.size ≤ h'.objs.size := by
        rw [← sb.1]
        exact Nat.le_refl _
      refine hR h2 tk t' n' (fun b o h1 h3 e => k1 b o h1 h3 (keep h3 (old h1 e))) ?_ (fun z => by omega) (fun _ => ?_)
      · rw [List.drop_eq_getElem_cons hlc, List.flatten_cons, ← List.append_assoc]
        exact k2
      · by_cases hend : i + 1 < its.length
        · refine Nat.le_trans hsz (Nat.le_trans ?_ (k4 hend))
          show h'.objs.size ≤ (((h'.push _).update S _).update S _).objs.size
          rw [Heap.size_update, Heap.size_update, Heap.size_push]
          exact Nat.le_succ _
        · rw [k3 (by omega)]
          exact hsz
theorem args_sum2 (a b : Value) : argsOk "sum" ⟨[a, b], []⟩ := by unfold argsOk; kernel_rfl
theorem sumL_call {E Q : Value → Shared → Prop} {s : Shared} (hh : A.in1.handled = none) {l a0 : Addr} {its : List Value} {cs : List (List Value)} {n0 : Nat} (bs : List Addr) (hb : its = bs.map Value.ref) (hlen : cs.length = bs.length) (hl : s.heap.IsList l its.toArray)
    (hc : ∀ (j : Nat) (b : Addr) (zs : List Value), bs[j]? = some b → cs[j]? = some zs → ∃ m, s.heap.get? b = some (LO zs m)) (h0 : s.heap.get? a0 = some (LO [] n0)) (hz : cs.flatten.length ≤ sizeLine)
    (hQ : ∀ (h' : Heap) (tk : Nat) (t' : Addr) (n' : Nat), (∀ b o, s.heap.get? b = some o → h'.get? b = some o) → h'.get? t' = some (LO cs.flatten n') → (its = [] → t' = a0) → (its ≠ [] → s.heap.objs.size ≤ t') → Q (.ref t') { s with heap := h', toks := tk }) :
    wpAny (model prog w) A (call (.builtin "sum") [.ref l, .ref a0]) Q E s := by
  refine call_function_tree F.kind_sum F.plain_sum F.entry_sum (args_sum2 _ _) ?_
  unfold Builtin.«sum»
  simp only [List.length_cons, List.length_nil]
  rw [if_neg (by decide)]
  refine wpAny_bind (wpAny_of_eq (show Builtin.Builtins.bindParams "sum" ["start"] 0 ⟨[.ref a0], []⟩ = pure [some (.ref a0)] from rfl) ?_)
  refine wpAny_bind (wpAny_pyIter_list hl ?_)
  have ll : l < s.heap.objs.size := by obtain ⟨_, q, _⟩ := hl; exact Heap.lt_size q
  have l0 : a0 < s.heap.objs.size := Heap.lt_size h0
  have lb : ∀ b ∈ bs, b < s.heap.objs.size := fun b hm => by
    obtain ⟨j, hj⟩ := List.getElem?_of_mem hm
    have hjc : j < cs.length := by rw [hlen]; exact (List.getElem?_eq_some_iff.mp hj).1
    obtain ⟨m, e⟩ := hc j b cs[j] hj (List.getElem?_eq_getElem hjc)
    exact Heap.lt_size e
  refine wpAny_bind (wpAny_pure ?_)
  simp only [List.forIn_cons, List.forIn_nil]
  have ty : ∀ {h' : Heap}, (∀ b o, s.heap.get? b = some o → h'.get? b = some o) → ({ s with heap := h' } : Shared).TypeIs (.ref a0) "list" := fun k => ⟨_, k _ _ h0, rfl⟩
  have k1 : ∀ b o, s.heap.get? b = some o → (s.heap.push { cls := .type "list_iterator", data := .fields #[.ref l, .int 0 0] }).get? b = some o := fun b o e => Heap.get?_push_of_some _ e
  refine wpAny_bind (wpAny_bind (wpAny_bind (wpAny_isInstance (T := "list") (b := false) (ty k1) F.sub_list_str ?_)))
  simp only [Bool.false_eq_true, if_false]
  refine wpAny_pure (wpAny_bind (wpAny_bind (wpAny_isInstance (T := "list") (b := false) (ty k1) F.sub_list_bytes ?_)))
  simp only [Bool.false_eq_true, if_false]
  refine wpAny_pure (wpAny_bind (wpAny_bind (wpAny_isInstance (T := "list") (b := false) (ty k1) F.sub_list_bytearray ?_)))
  simp only [Bool.false_eq_true, if_false]
  refine wpAny_pure (wpAny_pure ?_)
  refine wpAny_bind (wpAny_newObj_type ?_)
  have hS : (s.heap.push { cls := .type "list_iterator", data := .fields #[.ref l, .int 0 0] }).objs.size = s.heap.objs.size + 1 := Heap.size_push ..
  rw [hS]
  have k2 : ∀ b o, s.heap.get? b = some o → ((s.heap.push { cls := .type "list_iterator", data := .fields #[.ref l, .int 0 0] }).push { cls := .type "list", data := .seq #[.ref a0] }).get? b = some o := fun b o e => Heap.get?_push_of_some _ (k1 b o e)
  have gS : ((s.heap.push { cls := .type "list_iterator", data := .fields #[.ref l, .int 0 0] }).push { cls := .type "list", data := .seq #[.ref a0] }).get? (s.heap.objs.size + 1) = some { cls := .type "list", data := .seq #[.ref a0] } := by
    rw [← hS]; exact Heap.get?_push_size _ rfl
  refine wpAny_pure ⟨plainId_quiet F.plain_sum_loop _, sumL_loop hh (S := s.heap.objs.size + 1) (it := s.heap.objs.size) (its := its) (cs := cs) (Nat.succ_ne_self _) (Nat.ne_of_gt (Nat.lt_succ_of_lt ll)) (Nat.ne_of_gt ll) bs hb (fun z => absurd (lb _ z) (Nat.lt_irrefl _)) (fun z => absurd (lb _ z) (Nat.not_lt.mpr (Nat.le_succ _))) hlen
    its.length 0 _ a0 [] n0 0 (by omega) (Nat.zero_le _) ⟨_, Heap.get?_push_of_some _ (Heap.get?_push_size _ rfl), rfl, rfl⟩ (hl.at fun o q => k2 _ _ q) (fun j b zs h1 h2 => by obtain ⟨m, e⟩ := hc j b zs h1 h2; exact ⟨m, k2 _ _ e⟩) gS (k2 _ _ h0) (Nat.ne_of_lt (Nat.lt_succ_of_lt l0)) (Nat.ne_of_lt l0) (by simpa using hz) fun h' tk t' n' q1 q2 q3 q4 => ?_⟩
  refine hQ h' tk t' n' (fun b o e => ?_) (by simpa using q2) (fun z => q3 (by rw [z]; rfl)) (fun z => ?_)
  · have lb' := Heap.lt_size e
    exact q1 b o (Nat.ne_of_lt lb') (Nat.ne_of_lt (Nat.lt_succ_of_lt lb')) (k2 b o e)
  · have := q4 (List.length_pos_iff.mpr z)
    rw [Heap.size_push, hS] at this
    omega
end
/-! by values -/
section
variable {X : Cx}
/-- each v is a list with these parts -/
def LsOf (H : Hp) : List V → List (List V) → Prop
  | [], [] => True
  | v :: vs, z :: zs => (∃ c, v = .ref c ∧ H c = some (.lst z)) ∧ LsOf H vs zs
  | _, _ => False
def rSumLs (K : PySem.W.Frag) : List V → Hp → VK → Prop := fun xs H Q => ∃ a b vs zs, xs = [.ref a, .ref b] ∧ SqL K H a vs ∧ H b = some (.lst []) ∧ LsOf H vs zs ∧ zs.flatten.length ≤ sizeLine ∧ (vs = [] → Q (.ref b) H) ∧ (vs ≠ [] → ∀ p, H p = none → Q (.ref p) (upd H p (.lst zs.flatten)))
theorem lsOf_at {pins : List (Addr × Obj)} {σ : L2.St} {H : Hp} {s : Shared} (I : L2.Inv X pins σ H s) : ∀ {vs : List V} {zs : List (List V)} {us : List Value}, LsOf H vs zs → Vals vs us →
    ∃ (bs : List Addr) (cs : List (List Value)), us = bs.map Value.ref ∧ cs.length = bs.length ∧ (∀ (j : Nat) (b : Addr) (c : List Value), bs[j]? = some b → cs[j]? = some c → ∃ m, s.heap.get? b = some (LO c m)) ∧ Vals zs.flatten cs.flatten
  | [], [], _, _, .nil => ⟨[], [], rfl, rfl, fun j b c h => by simp at h, .nil⟩
  | [], _ :: _, _, h, _ => h.elim
  | _ :: _, [], _, h, _ => h.elim
  | v :: vs, z :: zs, _, h, .cons r rr => by
    obtain ⟨⟨a, rfl, ha⟩, h⟩ := h
    obtain ⟨bs, cs, rfl, e2, e3, e4⟩ := lsOf_at I h rr
    obtain ⟨_, its, n, rv, _, e⟩ := I.lstM ha
    cases (show _ = Value.ref a from r)
    refine ⟨a :: bs, its :: cs, rfl, by simp [e2], fun j b c h1 h2 => ?_, ?_⟩
    · cases j with
      | zero => simp at h1 h2; subst h1; subst h2; exact ⟨n, e⟩
      | succ j => exact e3 j b c (by simpa using h1) (by simpa using h2)
    · rw [List.flatten_cons, List.flatten_cons]
      exact Vals.append rv e4
theorem cr_sumL (hc : X.calm = true) : CallR X (.builtin "sum") (rSumLs X.K) := by
  intro pins s σ H xs us Q I r h
  obtain ⟨a, b, vs, zs, rfl, hq, hb, hls, hz, q1, q2⟩ := h
  obtain ⟨u1, u2, rfl, r1, r2⟩ := Vals.two r
  cases (show u1 = Value.ref a from r1)
  cases (show u2 = Value.ref b from r2)
  obtain ⟨its, rv, pl, _⟩ := I.list hq
  obtain ⟨bs, cs, e1, e2, e3, e4⟩ := lsOf_at I hls rv
  obtain ⟨_, its0, n0, rv0, _, e0⟩ := I.lstM hb
  obtain rfl := Vals.zero rv0
  refine sumL_call (I.ok.hd hc) bs e1 e2 pl.isList e3 e0 (by rw [← e4.length]; exact hz) fun h' tk t' n' k ht g1 g2 => ?_
  by_cases hn : vs = []
  · subst hn
    have hi : its = [] := by cases rv; rfl
    rw [g1 hi]
    exact ⟨.ref b, H, I.kept (t' := tk) k, rfl, q1 rfl⟩
  · have hi : its ≠ [] := fun z => hn (by subst z; cases rv; rfl)
    have le := g2 hi
    refine ⟨.ref t', upd H t' (.lst zs.flatten), I.laid (t' := tk) k le ⟨hz, cs.flatten, n', e4, ht⟩, rfl, q2 hn t' (I.hok.fresh le)⟩
end
end Mi
end

section
set_option linter.all false
set_option maxRecDepth 100000
set_option autoImplicit false
/-! Mi: sum(lists, []). -/
namespace Mi
open PySem L2
variable [Cls]
theorem sumL_of : ∀ {ds acc l : List D}, sumL acc ds = some l → ∃ ess : List (List D), ds = ess.map D.lst ∧ l = acc ++ ess.flatten ∧ (ds ≠ [] → l.length ≤ big)
  | [], acc, l, h => by simp [sumL] at h; exact ⟨[], rfl, by simp [h], fun z => absurd rfl z⟩
  | d :: ds, acc, l, h => by
    cases d with
    | lst es =>
      simp only [sumL] at h
      split at h
      · rename_i hz
        obtain ⟨ess, e1, e2, e3⟩ := sumL_of h
        refine ⟨es :: ess, by rw [e1]; rfl, by rw [e2, List.flatten_cons, List.append_assoc], fun _ => ?_⟩
        cases ds with
        | nil =>
          simp [sumL] at h
          rw [← h]; exact hz
        | cons d ds => exact e3 (by simp)
      · cases h
    | _ => simp [sumL] at h
theorem lsOf_rps {H : Hp} {mt : Addr → Prop} {ms : List Addr} : ∀ {ess : List (List D)} {vs : List V}, Rps H mt ms (ess.map D.lst) vs → ∃ zs, LsOf H vs zs ∧ Rps H mt ms ess.flatten zs.flatten
  | [], vs, r => by simp only [List.map_nil, Rps] at r; subst r; exact ⟨[], trivial, Rps.nil⟩
  | es :: ess, vs, r => by
    rw [List.map_cons] at r
    obtain ⟨v, us, rfl, h1, r⟩ := r.uncons
    obtain ⟨zs, q1, q2⟩ := lsOf_rps r
    simp only [Rp] at h1
    obtain ⟨a, ws, rfl, _, e, _, rr⟩ := h1
    refine ⟨ws :: zs, ⟨⟨a, rfl, e⟩, q1⟩, ?_⟩
    rw [List.flatten_cons, List.flatten_cons]
    exact Rps.append rr q2
section
variable {X : Cx} {XR : XRel} {C : Nat → List D → Sto → Rs D} {E : WX}
theorem se_sumL {a b : Expr} {es : Es} {p pos : Pos} (hc : X.calm = true) (hg : Gl X "sum") (hm : X.mg "sum" = none) (ha : PA X [a, b] (tA XR C E es)) (hs : notStar a = true) (hs2 : notStar b = true) :
    PE X (.Call (.Name "sum" p) [a, b] [] pos) (tE XR C E (.blt .sumL es)) :=
  PE.imp (pe_callB (cr_sumL hc) hg hm PyProof.Rows.boot_sum ha (by decide) (by decide) (starEach_cons hs) (any_back (es := [b]) (by simp [hs2]))) fun σ H Q ⟨F, ρ, ms, st, sm, er, h⟩ => by
    refine ⟨F, ρ, ms, st, sm, er, Pst.bind h fun ds s1 vs H1 ms1 _ l1 sm1 r1 p1 => ?_⟩
    simp only [bltD] at p1
    have fm : (∃ es0, ds = [.lst es0, .lst []]) ∧ Pst XR F Rp (match ds with
        | [.lst es0, .lst []] => (match sumL [] es0 with | some l => .ok (.lst l) s1 | none => .stuck)
        | _ => .stuck) H1 ms1 s1 Q (wx E σ) := by
      split at p1
      all_goals first | (exfalso; rename Bf.sumL = _ => hh; cases hh; done) | skip
      · exact ⟨⟨_, rfl⟩, p1⟩
      · exact p1.elim
    obtain ⟨⟨es0, rfl⟩, p2⟩ := fm
    have p3 : Pst XR F Rp (match sumL [] es0 with | some l => Rs.ok (D.lst l) s1 | none => .stuck) H1 ms1 s1 Q (wx E σ) := p2
    · cases hl : sumL [] es0 with
      | none => rw [hl] at p3; exact p3.elim
      | some l =>
        rw [hl] at p3
        obtain ⟨v, us, rfl, rv, r1⟩ := r1.uncons
        obtain ⟨w, us, rfl, rw2, r1⟩ := r1.uncons
        simp only [Rps] at r1
        subst r1
        have rw3 := rw2
        simp only [Rp] at rv rw2
        obtain ⟨x, vs, rfl, _, ex, _, rr⟩ := rv
        obtain ⟨y, ws, rfl, _, ey, _, rw2⟩ := rw2
        simp only [Rps] at rw2
        subst rw2
        obtain ⟨ess, e1, e2, e3⟩ := sumL_of hl
        rw [e1] at rr
        obtain ⟨zs, q1, q2⟩ := lsOf_rps rr
        rw [List.nil_append] at e2
        have hlen : zs.flatten.length = l.length := by rw [← q2.length, e2]
        refine ⟨x, y, vs, zs, rfl, .inl (.inl ex), ey, q1, ?_, fun hn => ?_, fun hn q hq => ?_⟩
        · rw [hlen, ← big_eq]
          by_cases hd : es0 = []
          · rw [hd] at e1
            have : ess = [] := by cases ess with
              | nil => rfl
              | cons _ _ => simp at e1
            rw [e2, this]
            exact Nat.zero_le _
          · exact e3 hd
        · have hd : ess = [] := by
            subst hn
            have := rr.length
            simpa using this
          have el : l = [] := by rw [e2, hd]; rfl
          rw [el] at p3
          exact Pst.ok p3 sm1 rw3
        · have hd : es0 ≠ [] := fun z => hn (by
            have hl2 := rr.length
            rw [← e1, z] at hl2
            exact List.length_eq_zero_iff.mp hl2.symm)
          refine p3 (.ref q) _ ms1 (later_new sm1 hq) (sm1.new hq) (rp_newL sm1 hq (by rw [e2]; exact q2) (by rw [← big_eq]; exact e3 hd))
end
end Mi
end

section
set_option linter.all false
set_option maxRecDepth 100000
set_option autoImplicit false
/-! Mi: a list comprehension with two fors is what the run says. -/
namespace Mi
open PySem L2
variable [Cls]
def turnL (C : Nat → List D → Sto → Rs D) (tg : List Nat) (ifs : Es) (tg2 : List Nat) (src2 : Sr) (ifs2 : Es) (elt : E) (ρ : Env) : D → List D → Sto → Rs (List D) := fun x ys s => match tgt tg x (clr tg2 ρ) with
      | some ρ1 => (evTs C ifs ρ1 s).bind fun t s2 => if t then (evR C src2 ρ1 s2).bind fun zs s3 => if ys.length + zs.length ≤ big then (compL (turnF C tg2 ifs2 elt ρ1) zs s3).bind fun r s6 => .ok (ys ++ r) s6 else .stuck
        else .ok ys s2
      | none => .stuck
section
variable {X : Cx} {XR : XRel} {C : Nat → List D → Sto → Rs D} {E : WX}
theorem comp2_imp {K : PySem.W.Frag} {m : Bool} {elt : Mi.E} {tg tg2 o1 o2 : List Nat} {src src2 : Sr} {ifs ifs2 : Es} {σ : L2.St} {H : Hp} {Q : VK} (h : tE XR C E (.comp2 m elt tg src ifs tg2 src2 ifs2 o1 o2) σ H Q) :
    tLc2 (tR XR C E src) (gT K tg) (tTs XR C XN ifs) (tR XR C XN src2) (gT K tg2) (tTs XR C XN ifs2) (tE XR C XN elt) (tg ++ tg2) tg2 σ H Q := by
  obtain ⟨F, ρ, ms, st, sm, er, p⟩ := h
  refine ⟨F, ρ, ms, st, sm, er, Pst.bind (Rel2 := wRel) p fun xs s1 J H1 ms1 _ l1 sm1 wj p1 => ?_⟩
  replace er := er.later l1
  intro D hD
  have nF : ¬ F D := fun z => sm1.fr D z hD
  have p1 : Pst XR F Rp ((accM (turnL C tg ifs tg2 src2 ifs2 elt ρ) [] xs s1).bind fun p s2 => newList m p s2) H1 ms1 s1 Q (wx E σ) := p1
  refine ⟨fun i k H' => k = xs.length - i ∧ i ≤ xs.length ∧ ∃ ms' s' acc ys, Later F H1 ms1 s1 H' ms' s' ∧ Sm (FA F D) H' ms' s' ∧ H' D = some (.lst acc) ∧ Rps H' (Mt (FA F D) ms' s') ms' ys acc ∧
      Pst XR F Rp ((accM (turnL C tg ifs tg2 src2 ifs2 elt ρ) ys (xs.drop i) s').bind fun p s2 => newList m p s2) H1 ms1 s1 Q (wx E σ),
    ⟨xs.length, by simp, Nat.zero_le _, ms1, s1, [], [], later_new sm1 hD, fa_start sm1 hD _, upd_same, Rps.nil, by simpa using p1⟩, ?_⟩
  rintro i k H' ⟨rfl, hi, ms', s', acc, ys, l, smF, hDl, rr, pr⟩
  obtain ⟨ws, wg⟩ := wj _ H' ms' s' (fa_in sm1 hD l) smF
  by_cases hlt : i < xs.length
  · obtain ⟨go, yl⟩ := wg i _ (List.getElem?_eq_getElem hlt)
    refine .inr ⟨go, fun H'' => i + 1 ≤ xs.length ∧ ∃ ms' s' acc ys, Later F H1 ms1 s1 H'' ms' s' ∧ Sm (FA F D) H'' ms' s' ∧ H'' D = some (.lst acc) ∧ Rps H'' (Mt (FA F D) ms' s') ms' ys acc ∧
      Pst XR F Rp ((accM (turnL C tg ifs tg2 src2 ifs2 elt ρ) ys (xs.drop (i + 1)) s').bind fun p s2 => newList m p s2) H1 ms1 s1 Q (wx E σ), fun H'' q => ⟨xs.length - (i + 1), by omega, rfl, q⟩, fun v H2 y => ?_⟩
    obtain ⟨l2, sm2, rx⟩ := yl v H2 y
    rw [List.drop_eq_getElem_cons hlt] at pr
    simp only [accM, Rs.bind_assoc] at pr
    generalize hcont : (fun (p : List Mi.D) (s : Sto) => (accM (turnL C tg ifs tg2 src2 ifs2 elt ρ) p (xs.drop (i + 1)) s).bind fun p s2 => newList m p s2) = cont at pr
    cases htg : tgt tg xs[i] (clr tg2 ρ) with
    | none =>
      have e0 : turnL C tg ifs tg2 src2 ifs2 elt ρ xs[i] ys s' = .stuck := by unfold turnL; rw [htg]
      rw [e0] at pr
      exact pr.elim
    | some ρ1 =>
    have e0 : turnL C tg ifs tg2 src2 ifs2 elt ρ xs[i] ys s' = (evTs C ifs ρ1 s').bind fun t s2 => if t then (evR C src2 ρ1 s2).bind fun zs s3 => if ys.length + zs.length ≤ big then (compL (turnF C tg2 ifs2 elt ρ1) zs s3).bind fun r s6 => .ok (ys ++ r) s6 else .stuck
        else .ok ys s2 := by
      unfold turnL; rw [htg]
    rw [e0] at pr
    have l02 : Later F H1 ms1 s1 H2 ms' s' := fa_out0 sm1 hD l l2
    have er2 : EnvR H2 (Mt (FA F D) ms' s') ms' ρ σ := er.laterM (fa_in sm1 hD l02)
    refine tgt_ok2 htg er2 rx fun σ2 er3 hw => ⟨hw, FA F D, ρ1, ms', s', sm2, er3, ?_⟩
    cases hts : evTs C ifs ρ1 s' with
    | stuck => rw [hts] at pr; exact pr.elim
    | ex c es s => rw [hts] at pr; exact pr.elim
    | ok t s2 =>
    rw [hts] at pr
    intro b H3 ms3 l3 sm3 eb
    have eb : t = b := eb
    subst eb
    have l03 : Later (FA F D) H' ms' s' H3 ms3 s2 := l2.trans l3
    have hD3 : H3 D = some (.lst acc) := (l03.own D (.inr rfl)).trans hDl
    cases t with
    | false =>
      rw [if_neg (by decide)]
      refine ⟨hlt, ms3, s2, acc, ys, fa_out0 sm1 hD l l03, sm3, hD3, Rps.later l03 _ _ rr, ?_⟩
      simp only [Rs.bind, Bool.false_eq_true, if_false, noex] at pr
      rw [← hcont] at pr
      exact pr
    | true =>
    rw [if_pos rfl]
    simp only [Rs.bind, if_true] at pr
    refine ⟨FA F D, ρ1, ms3, s2, sm3, er3.later l3, ?_⟩
    cases hzs : evR C src2 ρ1 s2 with
    | stuck => rw [hzs] at pr; exact pr.elim
    | ex c es s => rw [hzs] at pr; exact pr.elim
    | ok zs s3 =>
    rw [hzs] at pr
    change Pst XR F Rp ((noex (if ys.length + zs.length ≤ big then (compL (turnF C tg2 ifs2 elt ρ1) zs s3).bind fun r s6 => .ok (ys ++ r) s6 else .stuck)).bind cont) H1 ms1 s1 Q (wx E σ) at pr
    by_cases hroom : ys.length + zs.length ≤ big
    case neg => rw [if_neg hroom] at pr; exact pr.elim
    rw [if_pos hroom] at pr
    intro J2 H4 ms4 l4 sm4 wj2
    have l04 : Later (FA F D) H' ms' s' H4 ms4 s3 := l03.trans l4
    have hD4 : H4 D = some (.lst acc) := (l04.own D (.inr rfl)).trans hDl
    have er4 := (er3.later l3).later l4
    refine ⟨fun j k G => k = zs.length - j ∧ j ≤ zs.length ∧ ∃ ms5 s5 acc5 r5, Later F H1 ms1 s1 G ms5 s5 ∧ Sm (FA F D) G ms5 s5 ∧ LaterM H4 (Mt (FA F D) ms4 s3) ms4 G (Mt (FA F D) ms5 s5) ms5 ∧ G D = some (.lst acc5) ∧ Rps G (Mt (FA F D) ms5 s5) ms5 (ys ++ r5) acc5 ∧ r5.length ≤ j ∧
        Pst XR F Rp ((noex ((compL (turnF C tg2 ifs2 elt ρ1) (zs.drop j) s5).bind fun r s6 => .ok (ys ++ (r5 ++ r)) s6)).bind cont) H1 ms1 s1 Q (wx E σ),
      ⟨zs.length, by simp, Nat.zero_le _, ms4, s3, acc, [], fa_out0 sm1 hD l l04, sm4, Later.m Later.refl, hD4, by rw [List.append_nil]; exact Rps.later l04 _ _ rr, Nat.le_refl _, by simpa using pr⟩, ?_⟩
    rintro j k G ⟨rfl, hj, ms5, s5, acc5, r5, l5, sm5, lm5, hD5, rr5, hn5, pr5⟩
    obtain ⟨ws2, wg2⟩ := wj2 _ G ms5 s5 lm5 sm5
    by_cases hjl : j < zs.length
    · obtain ⟨go2, yl2⟩ := wg2 j _ (List.getElem?_eq_getElem hjl)
      refine .inr ⟨go2, fun G' => j + 1 ≤ zs.length ∧ ∃ ms5 s5 acc5 r5, Later F H1 ms1 s1 G' ms5 s5 ∧ Sm (FA F D) G' ms5 s5 ∧ LaterM H4 (Mt (FA F D) ms4 s3) ms4 G' (Mt (FA F D) ms5 s5) ms5 ∧ G' D = some (.lst acc5) ∧ Rps G' (Mt (FA F D) ms5 s5) ms5 (ys ++ r5) acc5 ∧ r5.length ≤ j + 1 ∧
        Pst XR F Rp ((noex ((compL (turnF C tg2 ifs2 elt ρ1) (zs.drop (j + 1)) s5).bind fun r s6 => .ok (ys ++ (r5 ++ r)) s6)).bind cont) H1 ms1 s1 Q (wx E σ), fun G' q => ⟨zs.length - (j + 1), by omega, rfl, q⟩, fun v2 G2 y2 => ?_⟩
      obtain ⟨l6, sm6, rx2⟩ := yl2 v2 G2 y2
      rw [List.drop_eq_getElem_cons hjl] at pr5
      simp only [compL, Rs.bind_assoc] at pr5
      cases ht : turnF C tg2 ifs2 elt ρ1 zs[j] s5 with
      | stuck => rw [ht] at pr5; exact pr5.elim
      | ex c es s => rw [ht] at pr5; exact pr5.elim
      | ok o s6 =>
      rw [ht] at pr5
      have pr5 : Pst XR F Rp ((noex ((compL (turnF C tg2 ifs2 elt ρ1) (zs.drop (j + 1)) s6).bind fun r s7 => .ok (ys ++ (r5 ++ (o.toList ++ r))) s7)).bind cont) H1 ms1 s1 Q (wx E σ) := by cases o <;> exact pr5
      unfold turnF at ht
      cases htg2 : tgt tg2 zs[j] ρ1 with
      | none => rw [htg2] at ht; cases ht
      | some ρ2 =>
      rw [htg2] at ht
      simp only at ht
      have er6 : EnvR G2 (Mt (FA F D) ms5 s5) ms5 ρ1 σ2 := er4.laterM (lm5.trans l6.m)
      refine tgt_ok htg2 er6 rx2 fun σ3 er7 hw2 => ⟨hw2, FA F D, ρ2, ms5, s5, sm6, er7, ?_⟩
      cases hts2 : evTs C ifs2 ρ2 s5 with
      | stuck => rw [hts2] at ht; cases ht
      | ex c es s => rw [hts2] at ht; cases ht
      | ok t2 s7 =>
      rw [hts2] at ht
      simp only [Rs.bind] at ht
      intro b2 H7 ms7 l7 sm7 eb2
      have eb2 : t2 = b2 := eb2
      subst eb2
      have l57 : Later (FA F D) G ms5 s5 H7 ms7 s7 := l6.trans l7
      have hD7 : H7 D = some (.lst acc5) := (l57.own D (.inr rfl)).trans hD5
      cases t2 with
      | false =>
        simp only [Bool.false_eq_true, if_false, Rs.ok.injEq] at ht
        obtain ⟨rfl, rfl⟩ := ht
        rw [if_neg (by decide)]
        exact ⟨hjl, ms7, s7, acc5, r5, fa_out0 sm1 hD l5 l57, sm7, lm5.trans l57.m, hD7, Rps.later l57 _ _ rr5, by omega, pr5⟩
      | true =>
        simp only [if_true] at ht
        rw [if_pos rfl]
        refine ⟨FA F D, ρ2, ms7, s7, sm7, er7.later l7, ?_⟩
        cases he : evE C elt ρ2 s7 with
        | stuck => rw [he] at ht; cases ht
        | ex c ds s => rw [he] at ht; cases ht
        | ok y s8 =>
        rw [he] at ht
        simp only [Rs.bind, Rs.ok.injEq] at ht
        obtain ⟨rfl, rfl⟩ := ht
        intro w H8 ms8 l8 sm8 ry
        have l58 : Later (FA F D) G ms5 s5 H8 ms8 s8 := l57.trans l8
        have hD8 : H8 D = some (.lst acc5) := (l58.own D (.inr rfl)).trans hD5
        have st8 := fa_step (F := F) (ms := ms8) (st := s8) (HO.lst acc5) (HO.lst (acc5 ++ [w])) hD8 (fun _ z => nomatch z) (fun _ _ z => nomatch z)
        refine ⟨acc5, hD8, ?_, hjl, ms8, s8, acc5 ++ [w], r5 ++ [y], fa_out sm1 hD l5 l58 _, fa_sm sm8 _ _ hD8 (fun _ z => nomatch z) (fun _ _ z => nomatch z), (lm5.trans l58.m).trans st8, upd_same, ?_, by simp; omega, ?_⟩
        · rw [← big_eq, ← rr5.length, List.length_append]
          omega
        · have := Rps.laterM st8 _ _ (Rps.append (Rps.later l58 _ _ rr5) (Rps.cons ry Rps.nil))
          rwa [List.append_assoc] at this
        · simpa only [List.append_assoc, List.singleton_append, Option.toList] using pr5
    · have e : j = zs.length := by omega
      subst e
      refine .inl ⟨ws2, hlt, ms5, s5, acc5, ys ++ r5, l5, sm5, hD5, rr5, ?_⟩
      rw [List.drop_length] at pr5
      simp only [compL, noex, Rs.bind, List.append_nil] at pr5
      rw [← hcont] at pr5
      exact pr5
  · have e : i = xs.length := by omega
    subst e
    refine .inl ⟨ws, ?_⟩
    rw [List.drop_length] at pr
    simp only [accM, Rs.bind] at pr
    unfold newList at pr
    split at pr
    · rename_i hb
      have hb' : ys.length ≤ sizeLine := by rw [← big_eq]; exact hb
      cases m with
      | false =>
        simp only [Bool.false_eq_true, if_false] at pr
        refine pr _ H' ms' l (fa_free smF) ?_
        simp only [Rp]
        exact ⟨D, acc, rfl, fa_not smF nF, hDl, hb', Rps.laterM fa_weak _ _ rr⟩
      | true =>
        simp only [if_true] at pr
        refine pr _ H' (ms' ++ [D]) (fa_adopt_later sm1 hD l smF.len _) (fa_adopt smF nF ⟨acc, hDl, hb', rr⟩) ?_
        simp only [Rp]
        refine ⟨D, rfl, ?_⟩
        rw [← smF.len, List.getElem?_append_right (Nat.le_refl _), Nat.sub_self]
        rfl
    · exact pr.elim
end
end Mi
end

section
set_option linter.all false
set_option maxRecDepth 100000
set_option autoImplicit false
/-! Mi: a starred part of a display. -/
namespace Mi
open PySem L2
variable [Cls]
section
variable {X : Cx} {XR : XRel} {C : Nat → List D → Sto → Rs D} {E : WX}
theorem sa_star {a : Expr} {as : List Expr} {p : Pos} {e : Mi.E} {es : Es} (ha : PE X a (tE XR C E e)) (hr : PA X as (tA XR C E es)) : PA X (.Starred a p :: as) (tA XR C E (.star e es)) := PA.imp (StX.pa_star ha hr rfl) fun σ H Q ⟨F, ρ, ms, st, sm, er, p⟩ => by
  refine ⟨F, ρ, ms, st, sm, er, p.bind fun d s1 v H1 ms1 _ l1 sm1 r1 p1 => ?_⟩
  cases hq : seqOf s1 d with
  | none => rw [hq] at p1; exact p1.elim
  | some xs =>
    rw [hq] at p1
    obtain ⟨q, vs, rfl, hs, _, rr⟩ := seqOf_rp (K := X.K) sm1 r1 hq
    refine ⟨q, vs, rfl, hs.symm, F, ρ, ms1, s1, sm1, er.later l1, p1.bind fun ds s2 ws H2 ms2 _ l2 sm2 r2 p2 => ?_⟩
    exact p2.ok sm2 (Rps.append (Rps.later l2 _ _ rr) r2)
end
end Mi
end

section
set_option linter.all false
set_option maxRecDepth 100000
set_option maxHeartbeats 4000000
set_option autoImplicit false
/-! Mi: errors as values: an error's class is called, by place or by name. -/
namespace PySem.MiX
open PySem.W PySem.Calls PyProof.Rows
section
variable {prog : Program} {w : World} {A : Around} {R : Result → Shared → Prop} {E : Value → Shared → Prop} {hp : Heap} {gs : Array GenState} {dr : Drawn} {tk : Nat} {oS : OsState} {M : Model}
variable {cn cq : Str} {C Nn : Addr} {bss tl tlB : List Value} {hdc : Bool} {sns : List Str} {subs : List Value} {abst : Bool} {clo : Option Bool} {dct : Option Addr} {j0 j1 j2 j3 j5 : Option Value} {Bn nId iId : String}
theorem new_chk (F : ExcBaseFacts Bn nId iId tlB) (same : ∀ X : String, tl.contains (.type X) = tlB.contains (.type X)) {us : List Value} {kv : List (Str × Value)} {Q : Unit → Shared → Prop}
    (at_ : hp.get? C = some (excClassObj cn cq C Nn bss tl hdc sns subs abst clo dct j0 j1 j2 j3 j5 nId)) (q : Q () ⟨hp, gs, dr, tk, oS⟩) : wpAny M A (checkBuiltinCall nId ⟨.ref C :: us, kv⟩) Q E ⟨hp, gs, dr, tk, oS⟩ := by
  have isB : (Value.ref C :: tl).contains (.type Bn) = true := by
    rw [List.contains_cons, same Bn, F.hasB]
    exact Bool.or_true _
  have nst := F.noStar
  simp only [checkBuiltinCall, F.newKind, F.newSplit, F.newRow]
  repeat (first
    | refine wpAny_loadPart_at at_ ?_
    | (refine wpAny_isSubtype_exc at_ ?_
       rw [isB])
    | refine wpAny_staticBase_exc at_ ?_
    | refine wpAny_madeBy_exc at_ ?_
    | simp only [bne_self_eq_false, Bool.false_eq_true, if_false]
    | wp_step)
  exact q
theorem new_run (F : ExcBaseFacts Bn nId iId tlB) (same : ∀ X : String, tl.contains (.type X) = tlB.contains (.type X)) {us : List Value} {kv : List (Str × Value)}
    (at_ : hp.get? C = some (excClassObj cn cq C Nn bss tl hdc sns subs abst clo dct j0 j1 j2 j3 j5 nId)) (fits : us.length ≤ sizeLine)
    (q : R (.ok (.ret (.ref (hp.objs.size + 1)))) ⟨(hp.push (kdv_tup us)).push (PX.excO C hp.objs.size), gs, dr, tk, oS⟩) :
    codeAny (model prog w) A (.builtin nId ⟨.ref C :: us, kv⟩) R ⟨hp, gs, dr, tk, oS⟩ := by
  have fin := F.ends
  have c1 : (Value.ref C :: tl).contains (.type Bn) = true := by
    rw [List.contains_cons, same Bn, F.hasB]
    exact Bool.or_true _
  have c2 : (Value.ref C :: tl).contains (.type "AttributeError") = false := by
    rw [List.contains_cons, same "AttributeError", F.noAttr]
    rfl
  have c3 : (Value.ref C :: tl).contains (.type "NameError") = false := by
    rw [List.contains_cons, same "NameError", F.noName]
    rfl
  refine codeAny_builtinAt F.entry ?_
  unfold Builtin.«BaseException.__new__»
  refine wpAt_bind ?_
  show wpAt _ _ _ (stack >>= _) _ _ _
  refine wpAt_bind (wpAt_stack fun pp bb => wpAt_of_wpAny ?_)
  wp_walk
  refine wpAt_of_wpAny ?_
  rw [F.owner]
  repeat (first
    | with_reducible refine wpAny_madeHere_exc F.canon at_ ?_
    | with_reducible refine wpAny_loadPart_at at_ ?_
    | (with_reducible refine wpAny_isSubtype_exc at_ ?_
       first | rw [c1] | rw [c2] | rw [c3])
    | wp_step)
  show R _ _
  rw [Heap.size_push]
  exact q
theorem type_run (F : ExcBaseFacts Bn nId iId tlB) (same : ∀ X : String, tl.contains (.type X) = tlB.contains (.type X)) {us : List Value} {kv : List (Str × Value)} {fI : Addr} {Q : Fin → Shared → Prop}
    (at_ : hp.get? C = some (excClassObj cn cq C Nn bss tl hdc sns subs abst clo dct j0 j1 j2 j3 j5 nId))
    (li : Looks (model prog w) hp (typeLookup (.ref C) "__init__") (some (.ref fI))) (lb : ∀ z, Looks (model prog w) hp (bindSpecial (.ref fI) z) (.ref fI, [z])) (fits : us.length ≤ sizeLine)
    (q : codeAny (model prog w) A (.call (.ref fI) ⟨.ref (hp.objs.size + 1) :: us, kv⟩)
      (fun r s' => match r with | .ok (.ret v) => v = .none ∧ Q (.done (.ret (.ref (hp.objs.size + 1)))) s' | .ok _ => False | .error e => E e s')
      ⟨(hp.push (kdv_tup us)).push (PX.excO C hp.objs.size), gs, dr, tk, oS⟩) :
    wpAny (model prog w) A (Builtin.«type.__call__» ⟨.ref C :: us, kv⟩) Q E ⟨hp, gs, dr, tk, oS⟩ := by
  repeat (first
    | with_reducible refine wpAny_loadPart_at at_ ?_
    | with_reducible refine wpAny_madeBy_exc at_ ?_
    | wp_step)
  refine codeAny_call_builtin_code (Code.quiet_builtin _ F.quiet) (new_chk F same at_ ?_)
  refine new_run F same at_ fits ?_
  show wpAny _ _ _ _ _ _
  have kk : ∀ b o, hp.get? b = some o → ((hp.push (kdv_tup us)).push (PX.excO C hp.objs.size)).get? b = some o := fun b o z => Heap.get?_push_of_some _ (Heap.get?_push_of_some _ z)
  have at2 := kk _ _ at_
  have new_ : ((hp.push (kdv_tup us)).push (PX.excO C hp.objs.size)).get? (hp.objs.size + 1) = some (PX.excO C hp.objs.size) := by heap_get
  have own_ : (Value.ref C :: tl).contains (.ref C) = true := by simp
  have i2 := li.keeps kk
  have b2 := (lb (.ref (hp.objs.size + 1))).keeps kk
  unfold isInstance
  repeat (first
    | with_reducible refine wpAny_loadPart_at new_ ?_
    | (with_reducible refine wpAny_isSubtype_exc at2 ?_
       rw [own_])
    | wp_step)
  show wpAny _ _ (typeLookup (.ref C) _) _ _ _
  refine i2.at ?_
  refine wpAny_holding (wpAny_bind (b2.at ?_))
  refine wpAny_bind (wpAny_call (codeAny_mono q fun r s' z => ?_))
  cases r with
  | error e => exact z
  | ok fl =>
    cases fl with
    | ret v =>
      obtain ⟨rfl, z⟩ := z
      first
        | exact wpAny_pure (wpAny_pure z)
        | (wp_walk
           exact z)
    | _ => exact z.elim
theorem cls_run (F : ExcBaseFacts Bn nId iId tlB) (same : ∀ X : String, tl.contains (.type X) = tlB.contains (.type X)) {us : List Value} {kv : List (Str × Value)} {fI : Addr}
    (at_ : hp.get? C = some (excClassObj cn cq C Nn bss tl hdc sns subs abst clo dct j0 j1 j2 j3 j5 nId))
    (li : Looks (model prog w) hp (typeLookup (.ref C) "__init__") (some (.ref fI))) (lb : ∀ z, Looks (model prog w) hp (bindSpecial (.ref fI) z) (.ref fI, [z])) (fits : us.length ≤ sizeLine)
    (q : codeAny (model prog w) (A.under (.builtin "type.__call__" ⟨.ref C :: us, kv⟩)) (.call (.ref fI) ⟨.ref (hp.objs.size + 1) :: us, kv⟩) (InitBack (hp.objs.size + 1) R)
      ⟨(hp.push (kdv_tup us)).push (PX.excO C hp.objs.size), gs, dr, tk, oS⟩) :
    codeAny (model prog w) A (.call (.ref C) ⟨us, kv⟩) R ⟨hp, gs, dr, tk, oS⟩ := by
  have t1 := tc_lookup
  have t2 := tc_bind (.ref C)
  have isT : (⟨hp, gs, dr, tk, oS⟩ : Shared).TypeIs (.ref C) "type" := ⟨_, at_, rfl⟩
  refine codeAny_of_tree ?_
  show wpAny _ _ (callAny (.ref C) _) _ _ _
  repeat (any_goals (first
    | assumption
    | with_reducible refine wpAny_loadPart_at at_ ?_
    | wp_step))
  refine ⟨rfl, ?_⟩
  refine codeAny_call_builtin_at (Code.quiet_builtin _ (by decide +kernel)) entry_typeCall (wpAny_check_type_call_sub at_ (type_run F same at_ li lb fits ?_))
  refine codeAny_mono q fun r s' z => ?_
  cases r with
  | error e => exact z
  | ok fl => cases fl <;> exact z
end
end PySem.MiX
end

section
set_option linter.all false
set_option maxRecDepth 100000
set_option maxHeartbeats 4000000
set_option autoImplicit false
/-! Mi: errors as values: the first field stored. -/
namespace PySem.MiX
open PySem.W PySem.Calls PyProof.Rows
open Builtin Builtin.ObjectAttr
section
variable {prog : Program} {w : World} {A : Around} {R : Result → Shared → Prop} {hp : Heap} {gs : Array GenState} {dr : Drawn} {tk : Nat} {oS : OsState} {Bn : String} {tlB : List Value}
theorem osa_first {K : Frag} {name : Str} {tn : Tok} {v : Value} {x C : Addr} {fv : Array Value} (SF : StoreFacts Bn tlB "object.__setattr__" "object") (kin : K.In hp) (hx : hp.get? x = some { cls := .ref C, data := .fields fv })
    (ov : excOver K C tlB = true) (hd : hasDictIn K C = true) (ha : findIn K (.ref C) name = some none)
    (q : ∀ h2 t2 dx, (∀ b o, b ≠ x → hp.get? b = some o → h2.get? b = some o) → hp.objs.size ≤ dx → dx ≠ x → h2.get? x = some { cls := .ref C, dict := some dx, data := .fields fv } →
      h2.Ns1 dx (fun y => if y = name then some v else none) → R (.ok (.ret .none)) ⟨h2, gs, dr, t2, oS⟩) :
    codeAny (model prog w) A (.call (.builtin "object.__setattr__") ⟨[.ref x, .str name tn, v], []⟩) R ⟨hp, gs, dr, tk, oS⟩ := by
  have xs : x ≠ hp.objs.size := Nat.ne_of_lt (Heap.lt_size hx)
  refine osa_openX (s := ⟨hp, gs, dr, tk, oS⟩) (od := none) SF kin ⟨hx, rfl, rfl, trivial⟩ ov (by unfold takerIn; rw [ha]; rfl) fun b => ?_
  obtain ⟨cd, hc, hh⟩ := any_some hd
  have lc : Looks (model prog w) hp (classData C) cd := looks_clsIn kin hc
  show wpAny _ _ (storeInOwnDict (.ref x) (.ref C) (.str name tn) name v b) _ _ _
  obtain ⟨nm, bs, mro, ns, qn, hdd, sn, sb, ab, col, del⟩ := cd
  dsimp only at hh
  subst hh
  unfold storeInOwnDict ownDictForStores
  repeat (first
    | with_reducible refine PX.store_in_new ?_ ?_
    | with_reducible refine wpAny_loadPart_at hx ?_
    | with_reducible refine lc.at ?_
    | wp_step)
  · exact ⟨_, #[], _, (Heap.get?_update_ne _ _ _ _ xs.symm).trans (Heap.get?_push_at rfl rfl), rfl, fun e he => absurd he (by simp), fun _ => rfl⟩
  · intro h2 t2 hn same
    have hx2 : (hp.push { cls := .type "dict", data := .dict #[] }).get? x = some { cls := .ref C, data := .fields fv } := Heap.get?_push_of_some _ hx
    refine q h2 t2 hp.objs.size (fun b o hb ho => ?_) (Nat.le_refl _) xs.symm ?_ hn
    · refine (same.2 b (Nat.ne_of_lt (Heap.lt_size ho))).trans ?_
      exact (Heap.get?_update_ne _ _ _ _ hb).trans (Heap.get?_push_of_some _ ho)
    · refine (same.2 x xs).trans ?_
      exact Heap.get?_update_self _ hx2 rfl
end
end PySem.MiX
end

section
set_option linter.all false
set_option maxRecDepth 100000
set_option maxHeartbeats 4000000
set_option autoImplicit false
/-! Mi: errors as values: made, asked. -/
namespace L2
open PySem PySem.Spec PyProof.Rows
/-- what the written part says of an error's class over a built-in one -/
structure ErC (K : PySem.W.Frag) (C : Addr) (Bn nId iId : String) (tlB : List Value) : Prop where
  fb : ExcBaseFacts Bn nId iId tlB
  sf : StoreFacts Bn tlB "object.__setattr__" "object"
  kp : PySem.W.keepIn K (.ref C) = true
  sa : PySem.W.findIn K (.ref C) "__setattr__" = some (some (.builtin "object.__setattr__"))
  ov : PySem.W.excOver K C tlB = true
  xf : XfC K C
  cs : (PySem.W.clsIn K C).isSome = true
  cl : PySem.W.findIn K (.ref C) "__class__" = some (some (.builtin "object.__class__"))
  sg : PySem.W.specialIn K (.builtin "object.__class__") "__get__" = some (some (.builtin "getset_descriptor.__get__"))
  tg : PySem.W.takesIn K (.builtin "object.__class__") = some true
  mo : PySem.W.mroIn K C (.type "object") = some true
section
variable {X : Cx} {pins : List (Addr × Obj)} {σ : St} {H : Hp} {s : Shared} {a C dx : Addr} {f : Str} {y : V} {u : Value} {Bn nId iId : String} {tlB : List Value}
theorem er_put {Q : Unit → Shared → Prop} {E : Value → Shared → Prop} {A : Around} (T : ErC X.K C Bn nId iId tlB) (I : Inv X pins σ H s) (e : H a = some (exo a C none)) (hno : PySem.W.findIn X.K (.ref C) f = some none) (ry : RelV y u)
    (q : ∀ dx s', H dx = none → dx ≠ a → Inv X pins σ (upd (upd H dx (exd dx [(f, y)])) a (exo a C (some dx))) s' → Q () s') : wpAny (model X.prog X.w) A (setAttr (.ref a) f u) Q E s := by
  obtain ⟨t1, ho⟩ := exo_at I.hok e
  obtain ⟨hp, g, d, t, os⟩ := s
  refine PySem.W.set_plain I.kIn (ox := { cls := .ref C, dict := none, data := .fields #[.ref t1, .none, .none, .none, .bool false, .none] }) (od := none) ⟨ho, rfl, rfl, trivial⟩ T.sa ?_
  refine PySem.MiX.osa_first T.sf I.kIn ho T.ov T.xf.hdC hno fun h2 t2 dx k dn dne hx hn => ?_
  have hnd : H dx = none := I.hok.fresh dn
  have ndx : ∀ {b : Addr} {o : Obj}, hp.get? b = some o → b ≠ dx := fun {b o} z => Nat.ne_of_lt (Nat.lt_of_lt_of_le (Heap.lt_size z) dn)
  have nea : ∀ {b : Addr}, H b = none → b ≠ a := fun {b} n z => by
    subst z
    rw [e] at n
    cases n
  have all : Un X.fs [] H (upd (upd H dx (exd dx [(f, y)])) a (exo a C (some dx))) hp h2 := by
    refine ⟨fun b o z n _ _ => k b o (nea n) z, fun b o z n _ _ => ⟨o.slots, k b o (nea n) z⟩, fun b o z n _ => ?_, fun b o z _ => ?_, fun b xs z => ?_, fun b o v z => ?_, fun b ps z => ?_⟩
    · rw [upd_ne (nea n), upd_ne (ndx z)]
      exact n
    · by_cases hb : b = a
      · subst hb
        exact ⟨_, hx⟩
      · exact ⟨o, k b o hb z⟩
    · rw [upd_ne (at_ne e z exo_tup), upd_ne (ne_of_none z hnd)]
      exact z
    · rw [upd_ne (at_ne e z exo_frz), upd_ne (ne_of_none z hnd)]
      exact z
    · exact ⟨#[], by rw [upd_ne (at_ne e z exo_tbl), upd_ne (ne_of_none z hnd), z]; simp⟩
  refine q dx _ hnd dne (I.un (t' := t2) all fun b o z => ?_)
  by_cases hb : b = a
  · subst hb
    rw [upd_same] at z
    cases z
    exact exo_ok hx
  rw [upd_ne hb] at z
  by_cases hd : b = dx
  · subst hd
    rw [upd_same] at z
    cases z
    exact exd_ok hn (relO_put (fs := []) ry fun _ => True.intro)
  rw [upd_ne hd] at z
  refine (I.hok b o z).stay (fun c v hc p => k c v ?_ p) (fun c hc => ?_) (fun c xs hc => ?_)
  · rcases hc with hc | hc
    · subst hc
      exact hb
    · exact at_ne e hc exo_own
  · rw [upd_ne (at_ne e hc exo_own), upd_ne (ne_of_none hc hnd)]
    exact hc
  · rw [upd_ne (at_ne e hc exo_tup), upd_ne (ne_of_none hc hnd)]
    exact hc
/-- self.f = e, the first field -/
def tEr (K : PySem.W.Frag) (C : Addr) (f : Str) (to te : TE) : TS := fun D σ H => te σ H fun y H1 => to σ H1 fun x H2 => ∃ a, x = .ref a ∧ PySem.W.findIn K (.ref C) f = some none ∧ H2 a = some (exo a C none) ∧
  ∀ dx, H2 dx = none → dx ≠ a → D.nx σ (upd (upd H2 dx (exd dx [(f, y)])) a (exo a C (some dx)))
theorem ps_er {o e : Expr} {to te : TE} {p' pos : Pos} (T : ErC X.K C Bn nId iId tlB) (po : PE X o to) (pe : PE X e te) (hs : swapsWith e (some (.Attribute o f p')) pos.line X.env = pure false := by rfl) : PS X (.Assign [.Attribute o f p'] e pos) (tEr X.K C f to te) := by
  refine ⟨fun pins s σ H D I h => ?_⟩
  refine plainObj_wpAny_Assign_Attribute (thn (pe.run pins s σ H _ I h) fun v s1 h1 => ?_) hs
  obtain ⟨y, H1, I1, r1, q1⟩ := h1
  refine thn (po.run pins s1 σ H1 _ I1 q1) fun u s2 h2 => ?_
  obtain ⟨x, H2, I2, r2, a, rfl, hno, ea, q⟩ := h2
  obtain rfl : u = Value.ref a := r2
  exact er_put T I2 ea hno r1 fun dx s' n ne J => ⟨σ, _, J, q dx n ne⟩
end
/-- what the __init__ of such a class promises: its one argument lies in the field -/
def spEr (C : Addr) (f : Str) : Sp := fun vs H Q _ => ∃ a v, vs = [.ref a, v] ∧ H a = some (exo a C none) ∧ ∀ dx, H dx = none → dx ≠ a → Q .non (upd (upd H dx (exd dx [(f, v)])) a (exo a C (some dx)))
/-- such an __init__: def __init__(self, x): self.f = x -/
def initB (f : Str) (ps : List Str) : List Stmt → Bool
  | [.Assign [.Attribute (.Name a _) g _] (.Name b _) _] => decide (ps = [a, b]) && decide (g = f)
  | _ => false
section
variable {P : Program} {w : World} {K : PySem.W.Frag} {mg : Str → Option Value} {base : Heap}
theorem fn_er {C : Addr} {Bn nId iId : String} {tlB : List Value} {x qual f : Str} {params : Arguments} {body : List Stmt} {scope : Scope} {fI : Addr} {fd : FuncData} {ps : List Str} (T : ErC K C Bn nId iId tlB) (hno : PySem.W.findIn K (.ref C) f = some none)
    (Fd : FunD K x qual params body scope [] [] fI fd) (S : FnScope ps ps scope) (hb : initB f ps body = true) (hps : ∀ y ∈ ps, scope.names.lookup y = some .local ∧ (y == ("__debug__" : Str)) = false ∧ (y == ("__classdict__" : Str)) = false) : FnOk P w K mg base CX0 1 fI fd ps (spEr C f) := by
  unfold initB at hb
  split at hb
  case h_2 => cases hb
  rename_i a p1 g p2 b p3 p4
  rw [Bool.and_eq_true] at hb
  obtain ⟨h1, h2⟩ := hb
  have h1 := of_decide_eq_true h1
  have h2 := of_decide_eq_true h2
  subst h1; subst h2
  refine Fd.ok S (fun vs H Q E h => ?_) (fun cdv A outer s H vs Q E hr h => ?_)
  · obtain ⟨a, v, rfl, _⟩ := h
    rfl
  · obtain ⟨e, v, rfl, he, q⟩ := h
    obtain ⟨l0, d0, k0⟩ := hps a (by simp)
    obtain ⟨l1, d1, k1⟩ := hps b (by simp)
    refine ⟨_, pss_one (ps_er T (pe_var (i := 0) rfl (.inl l0) d0 k0) (pe_var (i := 1) rfl (.inl l1) d1 k1)), ?_⟩
    exact ⟨v, rfl, .ref e, rfl, e, rfl, hno, he, fun dx n ne => q dx n ne⟩
end
end L2
end

section
set_option linter.all false
set_option maxRecDepth 100000
set_option maxHeartbeats 4000000
set_option autoImplicit false
/-! Mi: errors as values: made. -/
namespace L2
open PySem PySem.Spec PyProof.Rows
section
variable {X : Cx} {pins : List (Addr × Obj)} {σ : St} {H : Hp} {s : Shared} {C fI : Addr} {f : Str} {y : V} {u : Value} {Bn nId iId : String} {tlB : List Value} {us : List Value} {kv : List (Str × Value)} {ps : List Str} {fd : FuncData} {Q : VK}
theorem upd_comm {H : Hp} {a b : Addr} {o p : HO} (h : a ≠ b) : upd (upd H a o) b p = upd (upd H b p) a o := by
  funext c
  unfold upd
  by_cases h1 : c = b
  · subst h1
    rw [if_pos rfl, if_neg (Ne.symm h), if_pos rfl]
  · rw [if_neg h1, if_neg h1]
theorem exo_val {P : Program} {w : World} {H : Hp} {h : Heap} {a C dx : Addr} {oa : Obj} (hk : HOk P w H h) (e : H a = some (.frz oa (exo a C (some dx)))) : oa.cls = .ref C ∧ oa.dict = some dx ∧ PySem.W.notCls oa = true := by
  obtain ⟨e1, e2⟩ := (show h.get? a = some oa ∧ ObjOk P w H h a (exo a C (some dx)) from hk a _ e)
  obtain ⟨⟨t, e3⟩, _⟩ := e2
  rw [e1] at e3
  cases e3
  exact ⟨rfl, rfl, rfl⟩
theorem mk_er (T : ErC X.K C Bn nId iId tlB) (ci : PySem.W.excInitIn X.K C tlB nId = true) (hi : PySem.W.findIn X.K (.ref C) "__init__" = some (some (.ref fI))) (ti : PySem.W.isFn X.K (.ref fI) = true)
    (F1 : FnOk X.prog X.w X.K X.mg X.base CX0 1 fI fd ps (spEr C f)) (hr : Room 2 X.A) (hb : ∀ (s : Shared) (a : Addr), X.K.In s.heap → BindsTo s fd ⟨.ref a :: us, kv⟩ (ps.zip [.ref a, u])) (I : Inv X pins σ H s) (ry : RelV y u) (fits : us.length ≤ sizeLine)
    (q : ∀ a dx oa od uu, H a = none → H dx = none → dx ≠ a → oa.cls = .ref C → oa.dict = some dx → PySem.W.notCls oa = true → Q (.ref a) (upd (upd H dx (.frz od (exd dx [(f, y)]))) a (.frz oa uu))) :
    wpAny (model X.prog X.w) X.A (call (.ref C) us kv) (EP X pins σ Q) X.xe s := by
  obtain ⟨nm, N', qn, bs, bm, hdct, sn, sub, ab, col, dd, k0, k1, k2, k3, k5, hC, hT⟩ := PySem.W.excInit_of I.kIn ci
  obtain ⟨oI, hoI, hcI⟩ : ∃ oI, s.heap.get? fI = some oI ∧ oI.cls = .type "function" := by
    obtain ⟨o, ho, hc⟩ := Option.map_eq_some_iff.mp (show (X.K.lookup fI).map (·.cls) = some (.type "function") from beq_iff_eq.mp ti)
    exact ⟨o, I.kIn _ _ ho, hc⟩
  have li := PySem.W.looks_findIn (M := model X.prog X.w) I.kIn hi
  obtain ⟨hp, g, dr, tk, os⟩ := s
  have le1 : hp.objs.size ≤ hp.objs.size + 1 := Nat.le_succ _
  have hn : H (hp.objs.size + 1) = none := I.hok.fresh le1
  have kk : ∀ b o, hp.get? b = some o → ((hp.push (PySem.W.kdv_tup us)).push (PySem.PX.excO C hp.objs.size)).get? b = some o := fun b o z => Heap.get?_push_of_some _ (Heap.get?_push_of_some _ z)
  have new_ : ((hp.push (PySem.W.kdv_tup us)).push (PySem.PX.excO C hp.objs.size)).get? (hp.objs.size + 1) = some (PySem.PX.excO C hp.objs.size) := by heap_get
  have I2 : Inv X pins σ (upd H (hp.objs.size + 1) (exo (hp.objs.size + 1) C none)) ⟨(hp.push (PySem.W.kdv_tup us)).push (PySem.PX.excO C hp.objs.size), g, dr, tk, os⟩ :=
    I.laid (t' := tk) (h' := (hp.push (PySem.W.kdv_tup us)).push (PySem.PX.excO C hp.objs.size)) kk le1 (exo_ok new_)
  have r2 : Vals [V.ref (hp.objs.size + 1), y] [Value.ref (hp.objs.size + 1), u] := .cons rfl (.cons ry .nil)
  have sp1 : spEr C f [V.ref (hp.objs.size + 1), y] (upd H (hp.objs.size + 1) (exo (hp.objs.size + 1) C none)) (fun v H' => v = .non ∧ ∃ dx, H dx = none ∧ dx ≠ hp.objs.size + 1 ∧
      H' = upd (upd (upd H (hp.objs.size + 1) (exo (hp.objs.size + 1) C none)) dx (exd dx [(f, y)])) (hp.objs.size + 1) (exo (hp.objs.size + 1) C (some dx))) (fun _ _ _ => False) :=
    ⟨_, _, rfl, upd_same, fun dx n ne => ⟨rfl, dx, by rw [upd_ne ne] at n; exact n, ne, rfl⟩⟩
  refine wpAny_call (PySem.MiX.cls_run T.fb hT hC li (fun z => PySem.W.exc_bind hoI hcI z) fits (codeAny_mono (F1.run _ X.stack _ _ ⟨.ref (hp.objs.size + 1) :: us, kv⟩ [Value.ref (hp.objs.size + 1), u] _ _ _ (hr.make C us kv) (I2.env0.make C us kv) (hb _ _ I2.kIn) r2 sp1) fun r s' z => ?_))
  cases r with
  | error er => exact z.elim
  | ok fl =>
    cases fl with
    | ret v =>
      obtain ⟨v', H', I3, rv, rfl, dx, n1, ne, rfl⟩ := I2.after z
      refine ⟨rv, ?_⟩
      obtain ⟨od, I4⟩ := I3.lock (d := dx) (u := exd dx [(f, y)]) (by rw [upd_ne ne, upd_same]) True.intro
      obtain ⟨oa, I5⟩ := I4.lock (d := hp.objs.size + 1) (u := exo (hp.objs.size + 1) C (some dx)) (by rw [upd_ne (Ne.symm ne), upd_same]) True.intro
      have hv := exo_val I5.hok upd_same
      have eH : upd (upd (upd (upd (upd H (hp.objs.size + 1) (exo (hp.objs.size + 1) C none)) dx (exd dx [(f, y)])) (hp.objs.size + 1) (exo (hp.objs.size + 1) C (some dx))) dx (.frz od (exd dx [(f, y)]))) (hp.objs.size + 1) (.frz oa (exo (hp.objs.size + 1) C (some dx)))
          = upd (upd H dx (.frz od (exd dx [(f, y)]))) (hp.objs.size + 1) (.frz oa (exo (hp.objs.size + 1) C (some dx))) := by
        funext c
        unfold upd
        by_cases h1 : c = hp.objs.size + 1
        · rw [if_pos h1, if_pos h1]
        · by_cases h2 : c = dx
          · simp only [h1, h2, if_true, if_false]
          · simp only [h1, h2, if_true, if_false]
      rw [eH] at I5
      exact ⟨.ref (hp.objs.size + 1), _, I5, rfl, q _ dx oa od _ hn n1 ne hv.1 hv.2.1 hv.2.2⟩
    | _ => exact z.elim
end
end L2
end

section
set_option linter.all false
set_option maxRecDepth 100000
set_option maxHeartbeats 4000000
set_option autoImplicit false
/-! Mi: errors as values: rules. -/
namespace L2
open PySem PySem.Spec PyProof.Rows
/-- all of a class whose __init__ stores one field -/
structure Er1 (X : Cx) (x : Str) (C : Addr) (f : Str) : Prop where
  ex : ∃ (Bn nId iId : String) (tlB : List Value) (fI : Addr) (fd : FuncData) (ps : List Str), ErC X.K C Bn nId iId tlB ∧ PySem.W.excInitIn X.K C tlB nId = true ∧ PySem.W.findIn X.K (.ref C) "__init__" = some (some (.ref fI)) ∧ PySem.W.isFn X.K (.ref fI) = true ∧
    FnOk X.prog X.w X.K X.mg X.base CX0 1 fI fd ps (spEr C f) ∧ (∀ (s : Shared) (u v : Value), BindsTo s fd ⟨[u, v], []⟩ (ps.zip [u, v])) ∧ ∀ (s : Shared) (u v : Value), BindsTo s fd ⟨[u], [(f, v)]⟩ (ps.zip [u, v])
  mg : X.mg x = some (.ref C)
  kp : PySem.W.keepIn X.K (.ref C) = true
section
variable {X : Cx} {C : Addr} {x f : Str} {e : Expr} {te : TE} {p pos : Pos}
/-- the new error -/
def qEr (C : Addr) (f : Str) (y : V) (H : Hp) (Q : VK) : Prop := ∀ a dx oa od uu, H a = none → H dx = none → dx ≠ a → oa.cls = .ref C → oa.dict = some dx → PySem.W.notCls oa = true → Q (.ref a) (upd (upd H dx (.frz od (exd dx [(f, y)]))) a (.frz oa uu))
theorem pe_er1 (T : Er1 X x C f) (hg : Gl X x) (he : PE X e te) (hdb : (x == ("__debug__" : Str)) = false) (hs : starEach [e] X.env = (false, eval e X.env) :: starEach [] X.env) :
    PE X (.Call (.Name x p) [e] [] pos) (fun σ H Q => te σ H fun y H1 => Room 2 X.A ∧ qEr C f y H1 Q) := by
  obtain ⟨Bn, nId, iId, tlB, fI, fd, ps, E0, ci, hi, ti, F1, hb, _⟩ := T.ex
  refine ⟨fun pins s σ H Q I h => ?_⟩
  refine wpAny_Call_Name_kw (ld_glob I hg T.mg ?_ hdb)
  refine PySem.W.callWith_K (h₀ := X.base) I.ok.mod.kin T.kp ?_ hs (by rfl)
  rw [hs]
  show wpAny _ _ (spliced ((false, eval e X.env) :: backTo pos (starEach [] X.env))) _ _ s
  refine Calls.spliced_cons (thn (he.run pins s σ H _ I h) fun u s1 ⟨v, H1, I1, r1, q1⟩ => ?_)
  refine Calls.spliced_nil ⟨I1.kIn, ?_⟩
  show wpAny _ _ (call (.ref C) [u]) _ _ _
  exact mk_er E0 ci hi ti F1 q1.1 (fun s a _ => hb s _ u) I1 r1 (by show 1 ≤ sizeLine; rw [sizeLine_eq]; omega) q1.2
theorem pe_erk {pk : Pos} (T : Er1 X x C f) (hg : Gl X x) (he : PE X e te) (hdb : (x == ("__debug__" : Str)) = false) :
    PE X (.Call (.Name x p) [] [⟨some f, e, pk⟩] pos) (fun σ H Q => te σ H fun y H1 => Room 2 X.A ∧ qEr C f y H1 Q) := by
  obtain ⟨Bn, nId, iId, tlB, fI, fd, ps, E0, ci, hi, ti, F1, _, hb⟩ := T.ex
  refine ⟨fun pins s σ H Q I h => ?_⟩
  refine wpAny_Call_Name_kw (ld_glob I hg T.mg ?_ hdb)
  refine PySem.W.callWith_KW0 (h₀ := X.base) I.ok.mod.kin T.kp rfl ?_ rfl
  have pk1 : PK X [⟨some f, e, pk⟩] (fun σ H Q => te σ H fun y H1 => Q [y] H1) := ⟨fun pos pins s σ H Q I z => (pk_cons he pk_nil).run pos pins s σ H Q I z⟩
  refine thn (pk1.run pos pins s σ H (fun zs H1 => match zs with
    | [y] => Room 2 X.A ∧ qEr C f y H1 Q
    | _ => False) I h) fun ws s2 z => ?_
  obtain ⟨zs, H2, I2, rz, q⟩ := z
  match zs, rz, q with
  | [y], rz, q =>
    cases rz with
    | cons ry rr =>
      cases rr with
      | nil =>
        refine ⟨I2.kIn, ?_⟩
        exact mk_er E0 ci hi ti F1 q.1 (fun s a _ => hb s _ _) I2 ry (by show 0 ≤ sizeLine; omega) q.2
/-- such a class without an __init__ of its own, called with nothing -/
structure Er0 (X : Cx) (x : Str) (C : Addr) : Prop where
  ex : ∃ (Bn nId iId : String) (tlB : List Value), ExcBaseFacts Bn nId iId tlB ∧ PySem.W.excIn X.K C tlB nId = true
  mg : X.mg x = some (.ref C)
  kp : PySem.W.keepIn X.K (.ref C) = true
def qEr0 (C : Addr) (H : Hp) (Q : VK) : Prop := ∀ a oa uu, H a = none → oa.cls = .ref C → oa.dict = none → PySem.W.notCls oa = true → Q (.ref a) (upd H a (.frz oa uu))
theorem pe_er0 (T : Er0 X x C) (hg : Gl X x) (hdb : (x == ("__debug__" : Str)) = false) : PE X (.Call (.Name x p) [] [] pos) (fun σ H Q => qEr0 C H Q) := by
  obtain ⟨Bn, nId, iId, tlB, F, ci⟩ := T.ex
  refine ⟨fun pins s σ H Q I h => ?_⟩
  refine wpAny_Call_Name_kw (ld_glob I hg T.mg ?_ hdb)
  refine PySem.W.callWith_K0 I.kIn T.kp ?_
  show wpAny _ _ (call (.ref C) []) _ _ _
  obtain ⟨bm, N, nm, qn, bs, hdct, sn, sub, ab, col, dd, k0, k1, k2, k3, k5, mN, hC, hN, hni, TT⟩ := exc_obj I.kIn ci
  refine wpAny_call_exc_subT F TT hC hN hni (fun h' a hm => ?_) (by show 0 ≤ sizeLine; omega)
  have hn : H a = none := I.hok.gone hm.new
  obtain ⟨t, ht, _, _⟩ := hm.there
  have I1 := I.laidN (t' := s.toks) hm.keeps hm.new hn (exO_ok (cls := .ref C) ht ⟨rfl, rfl⟩ rfl rfl rfl (show 4 < 6 by decide))
  obtain ⟨oa, I2⟩ := I1.lock (d := a) (u := ExO (.ref C) a) upd_same True.intro
  rw [upd_upd] at I2
  obtain ⟨e1, e2⟩ := (show h'.get? a = some oa ∧ _ from I2.hok a _ upd_same)
  rw [ht] at e1
  cases e1
  exact ⟨.ref a, _, I2, rfl, h a _ _ hn rfl rfl rfl⟩
/-- e.f of such an error -/
theorem pe_erf {g : Str} (hb : attributeBase e g X.env (eval e X.env) = eval e X.env) (he : PE X e te) :
    PE X (.Attribute e g pos) (fun σ H Q => te σ H fun x H1 => ∃ a C dx oa od uu fs y, x = .ref a ∧ H1 a = some (.frz oa uu) ∧ oa.cls = .ref C ∧ oa.dict = some dx ∧ PySem.W.notCls oa = true ∧ H1 dx = some (.frz od (exd dx fs)) ∧ XfC X.K C ∧ PySem.W.findIn X.K (.ref C) g = some none ∧ fs.lookup g = some y ∧ Q y H1) := by
  refine ⟨fun pins s σ H Q I h => ?_⟩
  refine attr_of hb (thn (he.run pins s σ H _ I h) fun u s1 hh => ?_)
  obtain ⟨x, H1, I1, rx, a, C, dx, oa, od, uu, fs, y, rfl, ea, hc, hd, hnc, ed, F, hno, lk, q⟩ := hh
  obtain rfl : u = Value.ref a := rx
  obtain ⟨e1, _⟩ := (show s1.heap.get? a = some oa ∧ _ from I1.hok a _ ea)
  obtain ⟨e2, e3⟩ := (show s1.heap.get? dx = some od ∧ ObjOk X.prog X.w H1 s1.heap dx (exd dx fs) from I1.hok dx _ ed)
  obtain ⟨⟨mA, hns, hr⟩, _⟩ := e3
  obtain ⟨od', ho, hl⟩ := lookIn_ns hns
  rw [e2] at ho
  cases ho
  obtain ⟨u, hu, ru⟩ := RelO.some_of (v := y) (o := mA g) (by rw [← lk]; exact hr g)
  have J : PySem.W.InstAt s1.heap a oa C (some od) := ⟨e1, hc, hnc, by rw [hd]; exact e2⟩
  exact HandSPX.exc_get I1.kIn J F.ga F.gg F.exC (PySem.W.findObj_own F.hdC hno rfl (by rw [hl, hu])) (handed_of ru) ⟨y, H1, I1.tok _, ru, q⟩
/-- isinstance of such an error -/
def rEr (K : PySem.W.Frag) : List V → Hp → VK → Prop := fun xs H Q => ∃ (a C : Addr) (c : V) (cv : Value) (b : Bool) (oa : Obj) (uu : HO) (Bn nId iId : String) (tlB : List Value), xs = [.ref a, c] ∧ ClsV c cv ∧ H a = some (.frz oa uu) ∧ oa.cls = .ref C ∧ PySem.W.notCls oa = true ∧
  (∀ dx, oa.dict = some dx → ∃ od u2, H dx = some (.frz od u2)) ∧ ErC K C Bn nId iId tlB ∧ PySem.W.kitOne K (.ref C) cv = some b ∧ Q (.bl b) H
theorem call_er : CallR X (.builtin "isinstance") (rEr X.K) := by
  intro pins s σ H xs us Q I r h
  obtain ⟨a, C, c, cv, b, oa, uu, Bn, nId, iId, tlB, rfl, kc, ea, hc, hnc, hd, T, hk, q⟩ := h
  obtain ⟨u1, u2, rfl, r1, r2⟩ := vals2 r
  obtain rfl := kc.eq r2
  obtain rfl : u1 = Value.ref a := r1
  obtain ⟨e1, _⟩ := (show s.heap.get? a = some oa ∧ _ from I.hok a _ ea)
  obtain ⟨od, J⟩ : ∃ od, PySem.W.InstAt s.heap a oa C od := by
    cases e : oa.dict with
    | none => exact ⟨none, e1, hc, hnc, by rw [e]; trivial⟩
    | some dx =>
      obtain ⟨od, u3, e2⟩ := hd dx e
      exact ⟨some od, e1, hc, hnc, by rw [e]; exact (show s.heap.get? dx = some od ∧ _ from I.hok dx _ e2).1⟩
  exact PySem.W.kia_one (PySem.W.kitx_exc T.cs T.xf.ga T.xf.gg T.xf.exC T.cl T.sg T.tg T.mo) I.kIn J hk (fun z => nomatch z) fun tk => ⟨.bl b, H, I.tok tk, rfl, q⟩
end
end L2
end

section
set_option linter.all false
set_option maxRecDepth 100000
set_option maxHeartbeats 4000000
set_option autoImplicit false
/-! Mi: errors that fly: made to be raised. -/
namespace L2
open PySem PySem.Spec PyProof.Rows
section
variable {X : Cx} {pins : List (Addr × Obj)} {σ : St} {H : Hp} {s : Shared} {C fI : Addr} {f : Str} {y : V} {u : Value} {Bn nId iId : String} {tlB : List Value} {us : List Value} {kv : List (Str × Value)} {ps : List Str} {fd : FuncData} {Q : XK}
theorem mk_erX (T : ErC X.K C Bn nId iId tlB) (rs : Raises X (.ref C)) (ci : PySem.W.excInitIn X.K C tlB nId = true) (hi : PySem.W.findIn X.K (.ref C) "__init__" = some (some (.ref fI))) (ti : PySem.W.isFn X.K (.ref fI) = true)
    (F1 : FnOk X.prog X.w X.K X.mg X.base CX0 1 fI fd ps (spEr C f)) (hr : Room 2 X.A) (hb : ∀ (s : Shared) (a : Addr), X.K.In s.heap → BindsTo s fd ⟨.ref a :: us, kv⟩ (ps.zip [.ref a, u])) (I : Inv X pins σ H s) (ry : RelV y u) (fits : us.length ≤ sizeLine)
    (q : ∀ dx, H dx = none → Q (.ref C) (some dx) (upd H dx (.xd [(f, y)]))) :
    wpAny (model X.prog X.w) X.A (call (.ref C) us kv) (MkP X pins σ Q) X.xe s := by
  obtain ⟨nm, N', qn, bs, bm, hdct, sn, sub, ab, col, dd, k0, k1, k2, k3, k5, hC, hT⟩ := PySem.W.excInit_of I.kIn ci
  obtain ⟨oI, hoI, hcI⟩ : ∃ oI, s.heap.get? fI = some oI ∧ oI.cls = .type "function" := by
    obtain ⟨o, ho, hc⟩ := Option.map_eq_some_iff.mp (show (X.K.lookup fI).map (·.cls) = some (.type "function") from beq_iff_eq.mp ti)
    exact ⟨o, I.kIn _ _ ho, hc⟩
  have li := PySem.W.looks_findIn (M := model X.prog X.w) I.kIn hi
  obtain ⟨hp, g, dr, tk, os⟩ := s
  have le1 : hp.objs.size ≤ hp.objs.size + 1 := Nat.le_succ _
  have hn : H (hp.objs.size + 1) = none := I.hok.fresh le1
  have kk : ∀ b o, hp.get? b = some o → ((hp.push (PySem.W.kdv_tup us)).push (PySem.PX.excO C hp.objs.size)).get? b = some o := fun b o z => Heap.get?_push_of_some _ (Heap.get?_push_of_some _ z)
  have new_ : ((hp.push (PySem.W.kdv_tup us)).push (PySem.PX.excO C hp.objs.size)).get? (hp.objs.size + 1) = some (PySem.PX.excO C hp.objs.size) := by heap_get
  have I2 : Inv X pins σ (upd H (hp.objs.size + 1) (exo (hp.objs.size + 1) C none)) ⟨(hp.push (PySem.W.kdv_tup us)).push (PySem.PX.excO C hp.objs.size), g, dr, tk, os⟩ :=
    I.laid (t' := tk) (h' := (hp.push (PySem.W.kdv_tup us)).push (PySem.PX.excO C hp.objs.size)) kk le1 (exo_ok new_)
  have r2 : Vals [V.ref (hp.objs.size + 1), y] [Value.ref (hp.objs.size + 1), u] := .cons rfl (.cons ry .nil)
  have sp1 : spEr C f [V.ref (hp.objs.size + 1), y] (upd H (hp.objs.size + 1) (exo (hp.objs.size + 1) C none)) (fun v H' => v = .non ∧ ∃ dx, H dx = none ∧ dx ≠ hp.objs.size + 1 ∧
      H' = upd (upd (upd H (hp.objs.size + 1) (exo (hp.objs.size + 1) C none)) dx (exd dx [(f, y)])) (hp.objs.size + 1) (exo (hp.objs.size + 1) C (some dx))) (fun _ _ _ => False) :=
    ⟨_, _, rfl, upd_same, fun dx n ne => ⟨rfl, dx, by rw [upd_ne ne] at n; exact n, ne, rfl⟩⟩
  refine wpAny_call (PySem.MiX.cls_run T.fb hT hC li (fun z => PySem.W.exc_bind hoI hcI z) fits (codeAny_mono (F1.run _ X.stack _ _ ⟨.ref (hp.objs.size + 1) :: us, kv⟩ [Value.ref (hp.objs.size + 1), u] _ _ _ (hr.make C us kv) (I2.env0.make C us kv) (hb _ _ I2.kIn) r2 sp1) fun r s' z => ?_))
  cases r with
  | error er => exact z.elim
  | ok fl =>
    cases fl with
    | ret v =>
      obtain ⟨v', H', os2, bare2, un2, hok2, rv, ev, dx, n1, ne, rfl⟩ := z
      subst ev
      obtain ⟨h2, g2, d2, t2, os'⟩ := s'
      refine ⟨rv, mk_end (d := dx) (fs := [(f, y)]) rs I le1 kk un2 hok2 os2 bare2 upd_same (by rw [upd_ne ne, upd_same]) n1 ?_⟩
      have eH : upd (del (upd (upd (upd H (hp.objs.size + 1) (exo (hp.objs.size + 1) C none)) dx (exd dx [(f, y)])) (hp.objs.size + 1) (exo (hp.objs.size + 1) C (some dx))) (hp.objs.size + 1)) dx (.xd [(f, y)]) = upd H dx (.xd [(f, y)]) := by
        funext c
        unfold upd
        by_cases h2 : c = dx
        · rw [if_pos h2, if_pos h2]
        · rw [if_neg h2, if_neg h2]
          by_cases h1 : c = hp.objs.size + 1
          · subst h1
            rw [del_same, hn]
          · rw [del_ne h1]
            simp only [h1, h2, if_false]
      rw [eH]
      exact q dx n1
    | _ => exact z.elim
end
section
variable {X : Cx} {C : Addr} {x f : Str} {e : Expr} {te : TE} {p pos : Pos}
theorem pmk_er1 (T : Er1 X x C f) (rs : Raises X (.ref C)) (hg : Gl X x) (he : PE X e te) (hdb : (x == ("__debug__" : Str)) = false) (hs : starEach [e] X.env = (false, eval e X.env) :: starEach [] X.env) :
    PMk X (.Call (.Name x p) [e] [] pos) (fun σ H Q => te σ H fun y H1 => Room 2 X.A ∧ ∀ dx, H1 dx = none → Q (.ref C) (some dx) (upd H1 dx (.xd [(f, y)]))) := by
  obtain ⟨Bn, nId, iId, tlB, fI, fd, ps, E0, ci, hi, ti, F1, hb, _⟩ := T.ex
  intro pins s σ H Q I h
  refine wpAny_Call_Name_kw (ld_glob I hg T.mg ?_ hdb)
  refine PySem.W.callWith_K (h₀ := X.base) I.ok.mod.kin T.kp ?_ hs (by rfl)
  rw [hs]
  show wpAny _ _ (spliced ((false, eval e X.env) :: backTo pos (starEach [] X.env))) _ _ s
  refine Calls.spliced_cons (thn (he.run pins s σ H _ I h) fun u s1 ⟨v, H1, I1, r1, q1⟩ => ?_)
  refine Calls.spliced_nil ⟨I1.kIn, ?_⟩
  show wpAny _ _ (call (.ref C) [u]) _ _ _
  refine wpAny_mono (mk_erX E0 rs ci hi ti F1 q1.1 (fun s a _ => hb s _ u) I1 r1 (by show 1 ≤ sizeLine; rw [sizeLine_eq]; omega) q1.2) (fun _ _ z => z) fun _ _ z => z
theorem pmk_er0 (T : Er0 X x C) (rs : Raises X (.ref C)) (hg : Gl X x) (hdb : (x == ("__debug__" : Str)) = false) : PMk X (.Call (.Name x p) [] [] pos) (fun _ H Q => Q (.ref C) none H) := by
  obtain ⟨Bn, nId, iId, tlB, F, ci⟩ := T.ex
  intro pins s σ H Q I h
  refine wpAny_Call_Name_kw (ld_glob I hg T.mg ?_ hdb)
  refine PySem.W.callWith_K0 I.kIn T.kp ?_
  show wpAny _ _ (call (.ref C) []) _ _ _
  obtain ⟨bm, N, nm, qn, bs, hdct, sn, sub, ab, col, dd, k0, k1, k2, k3, k5, mN, hC, hN, hni, TT⟩ := exc_obj I.kIn ci
  refine wpAny_call_exc_subT F TT hC hN hni (fun h' a hm => ?_) (by show 0 ≤ sizeLine; omega)
  exact mk_of I hm rs h (I.hok.gone hm.new)
end
end L2
end

section
set_option linter.all false
set_option maxRecDepth 100000
set_option maxHeartbeats 4000000
set_option autoImplicit false
/-! Mi: try with except clauses, the caught error being a value. -/
namespace L2
open PySem PySem.Spec PyProof.Rows
section
variable {X : Cx} {pins : List (Addr × Obj)} {σ : St} {H : Hp} {s : Shared}
/-- an object that is there, pinned by nobody and older than nothing of ours, becomes a value -/
theorem Inv.adopt {a : Addr} {oa : Obj} {vs : Array Value} (I : Inv X pins σ H s) (ha : s.heap.get? a = some oa) (hd : oa.data = .fields vs) (na : H a = none) (nL : a ≠ X.env.locals) (n0 : X.s_0.heap.get? a = none) (np : ∀ p ∈ X.pn ++ pins, p.1 ≠ a) :
    Inv X pins σ (upd H a (.frz oa (.ext fun _ => True))) s := by
  have ne : ∀ {b : Addr} {o : Obj}, X.s_0.heap.get? b = some o → b ≠ a := fun {b o} z e => by rw [e, n0] at z; cases z
  have ne2 : ∀ {b : Addr} {u : HO}, H b = some u → b ≠ a := fun {b u} z e => by rw [e, na] at z; cases z
  refine ⟨I.ok, I.os, I.bare, ⟨I.base.keep, I.base.slot, fun b o z n hx => ?_, I.base.there, fun b xs z => ?_, fun b o xs z => ?_, fun b ps z => ?_⟩, I.loc, I.cell, ?_, fun x c z => ?_, fun p hp => ?_, fun b u z => ?_, I.len⟩
  · rw [upd_ne (ne z)]; exact I.base.free b o z n hx
  · have q := I.base.tups b xs z
    rw [upd_ne (ne2 q)]; exact q
  · have q := I.base.frzs b o xs z
    rw [upd_ne (ne2 q)]; exact q
  · obtain ⟨m, q⟩ := I.base.tbls b ps z
    exact ⟨m, by rw [upd_ne (ne2 q)]; exact q⟩
  · rw [upd_ne (Ne.symm nL)]; exact I.free
  · have e : c ≠ a := fun e => by
      obtain ⟨v, o, ho, hcd⟩ := I.cell x c z
      rw [e, ha] at ho; cases ho
      rw [hd] at hcd; cases hcd
    rw [upd_ne e]; exact I.freeC x c z
  · obtain ⟨q1, q2, q3, q4, q5⟩ := I.pin p hp
    exact ⟨q1, by rw [upd_ne (np p hp)]; exact q2, q3, q4, q5⟩
  · by_cases hb : b = a
    · subst hb
      rw [upd_same] at z
      cases z
      exact ⟨ha, True.intro, ⟨oa, ha⟩, fun _ _ _ _ => True.intro⟩
    · rw [upd_ne hb] at z
      refine (I.hok b u z).stay (fun c v _ q => q) (fun c hc => ?_) (fun c xs hc => ?_)
      · rw [upd_ne (ne2 hc)]; exact hc
      · rw [upd_ne (ne2 hc)]; exact hc
/-- an error's dict becomes a value -/
theorem Inv.frzD {dx : Addr} {fs : List (Str × V)} (I : Inv X pins σ H s) (e : H dx = some (.xd fs)) : ∃ od, Inv X pins σ (upd H dx (.frz od (exd dx fs))) s := by
  obtain ⟨mA, hns, hr⟩ := (show ∃ mA, s.heap.Ns1 dx mA ∧ ∀ f, RelO (fs.lookup f) (mA f) from I.hok dx _ e)
  obtain ⟨od, hod⟩ : ∃ o, s.heap.get? dx = some o := by
    obtain ⟨o, _, _, e', _⟩ := hns
    exact ⟨o, e'⟩
  have ne2 : ∀ {b : Addr} {u : HO}, H b = some u → u ≠ .xd fs → b ≠ dx := fun {b u} z n q => by
    rw [q, e] at z
    cases z
    exact n rfl
  have ne0 : ∀ {b : Addr}, H b = none → b ≠ dx := fun {b} z q => by rw [q, e] at z; cases z
  refine ⟨od, ⟨I.ok, I.os, I.bare, ⟨I.base.keep, I.base.slot, fun b o z n hx => ?_, I.base.there, fun b xs z => ?_, fun b o xs z => ?_, fun b ps z => ?_⟩, I.loc, I.cell, ?_, fun x c z => ?_, fun p hp => ?_, fun b u z => ?_, I.len⟩⟩
  · have q := I.base.free b o z n hx
    rw [upd_ne (ne0 q)]; exact q
  · have q := I.base.tups b xs z
    rw [upd_ne (ne2 q nofun)]; exact q
  · have q := I.base.frzs b o xs z
    rw [upd_ne (ne2 q nofun)]; exact q
  · obtain ⟨m, q⟩ := I.base.tbls b ps z
    exact ⟨m, by rw [upd_ne (ne2 q nofun)]; exact q⟩
  · rw [upd_ne (ne0 I.free)]; exact I.free
  · have q := I.freeC x c z
    rw [upd_ne (ne0 q)]; exact q
  · obtain ⟨q1, q2, q3, q4, q5⟩ := I.pin p hp
    exact ⟨q1, by rw [upd_ne (ne0 q2)]; exact q2, q3, q4, q5⟩
  · by_cases hb : b = dx
    · subst hb
      rw [upd_same] at z
      cases z
      exact ⟨hod, exd_ok hns hr⟩
    · rw [upd_ne hb] at z
      refine (I.hok b u z).stay (fun c v _ q => q) (fun c hc => ?_) (fun c xs hc => ?_)
      · rw [upd_ne (ne2 hc nofun)]; exact hc
      · rw [upd_ne (ne2 hc nofun)]; exact hc
/-- a clause: the class, the slot of its name, what its suite asks -/
structure Cl where
  c : Value
  i : Option Nat
  t : TS
def Cl.st (l : Cl) (a : Addr) (σ : St) : St := match l.i with
  | some i => σ.set i (some (.ref a))
  | none => σ
def Cl.un (l : Cl) (σ : St) : St := match l.i with
  | some i => σ.set i none
  | none => σ
def Cl.en (l : Cl) (D : Ends) : Ends := { nx := fun σ H => D.nx (l.un σ) H, rt := D.rt, bk := fun σ H => D.bk (l.un σ) H, ct := fun σ H => D.ct (l.un σ) H }
def wEnt (D : Ends) (l : Cl) (d : Option Addr) (σ : St) (H : Hp) (a : Addr) (oa : Obj) : Prop := match d with
  | none => l.t (l.en D) (l.st a σ) (upd H a (.frz oa (.ext fun _ => True)))
  | some dx => ∃ fs, H dx = some (.xd fs) ∧ ∀ od, l.t (l.en D) (l.st a σ) (upd (upd H dx (.frz od (exd dx fs))) a (.frz oa (.ext fun _ => True)))
def wCl (K : PySem.W.Frag) (Wout : WX) (D : Ends) : List Cl → WX
  | [] => Wout
  | l :: r => fun cls d σ H => ∃ b, PySem.W.exmOne K cls l.c = some b ∧ (b = true → ∀ a oa, H a = none → oa.cls = cls → oa.dict = d → PySem.W.notCls oa = true → wEnt D l d σ H a oa) ∧ (b = false → wCl K Wout D r cls d σ H)
/-- the context of such a suite -/
abbrev Cx.suit (X : Cx) (a : Addr) (pn : List (Addr × Obj)) : Cx := X.suite a pn
inductive ClOk (X : Cx) : List ExceptHandler → List Cl → Prop
  | nil : ClOk X [] []
  | cons {x : Str} {c : Value} {t : TS} {b₀ : Stmt} {suite : List Stmt} {np pos' : Pos} {hds : List ExceptHandler} {l : List Cl} (hc : Names X x c)
      (hsu : ∀ (a : Addr) (pn : List (Addr × Obj)), PSs (X.suite a pn) (b₀ :: suite) t) (r : ClOk X hds l) :
      ClOk X (.ExceptHandler (some (.Name x np)) none (b₀ :: suite) pos' :: hds) (⟨c, none, t⟩ :: l)
  | as_ {x n : Str} {i : Nat} {c : Value} {t : TS} {b₀ : Stmt} {suite : List Stmt} {np pos' : Pos} {hds : List ExceptHandler} {l : List Cl} (hN : X.N.Nodup) (hi : X.N[i]? = some n) (hln : X.env.kindOf n = some .local) (hc : Names X x c)
      (hsu : ∀ (a : Addr) (pn : List (Addr × Obj)), PSs (X.suite a pn) (b₀ :: suite) t) (r : ClOk X hds l) :
      ClOk X (.ExceptHandler (some (.Name x np)) (some n) (b₀ :: suite) pos' :: hds) (⟨c, some i, t⟩ :: l)
theorem Inv.suit {a : Addr} (I : Inv X pins σ H s) : Inv (X.suite a (X.pn ++ pins)) [] σ H s :=
  ⟨I.ok.suite _ _, I.os, I.bare, I.base, I.loc, I.cell, I.free, I.freeC, fun p hp => I.pin p (by rw [List.append_nil] at hp; exact hp), I.hok, I.len⟩
theorem Inv.unsuit {a : Addr} {pn' : List (Addr × Obj)} (I : Inv (X.suite a (X.pn ++ pins)) pn' σ H s) (ok : X.Ok) : Inv X pins σ H s :=
  ⟨ok, I.os, I.bare, I.base, I.loc, I.cell, I.free, I.freeC, fun p hp => I.pin p (List.mem_append_left _ hp), I.hok, I.len⟩
end
section
variable {X : Cx} {body : List Stmt} {h₀ : ExceptHandler} {hds : List ExceptHandler} {l : List Cl} {pos : Pos} {tb : WX → TS} {Wout : WX}
theorem ps_try_cl (hs : X.stack = X.env :: X.outer) (hf : X.env.frame = some X.env.locals) (hex : X.ex = []) (tk : Takes X Wout)
    (hb : ∀ (W : WX) (pn : List (Addr × Obj)) (xe : Value → Shared → Prop), Takes (X.tr pn xe) W → PassesOwn (model X.prog X.w) X.A X.env xe → PSs (X.tr pn xe) body (tb W))
    (hh : ClOk X (h₀ :: hds) l) : PS X (.Try body (h₀ :: hds) [] [] pos) (fun D σ H => tb (wCl X.K Wout D l) D σ H) := by
  refine ⟨fun pins s σ H D I h => ?_⟩
  have ok := I.ok
  have hfr : X.A.frames = some (X.env :: X.outer) := by rw [ok.frames, hs]
  refine wpAny_Try_except ?_
  refine wpAny_mono ((hb (wCl X.K Wout D l) (X.pn ++ pins) (fun e s₁ => wpAny (model X.prog X.w) X.A (noteFrame e X.env) (fun _ s₂ => wpAny (model X.prog X.w) X.A (setFlight e none) (fun _ s₃ =>
    wpAny (model X.prog X.w) X.A (handleBy e X.env (h₀ :: hds)) (SP X pins D) X.xe s₃) X.xe s₂) X.xe s₁) (fun u s' xx => ?_) PassesOwn.looking).run [] s σ H D (I.toTry _) h) (fun f s1 hsp => ?_) (fun e s1 he => he)
  · -- the catch
    obtain ⟨a, B, sI, pins', σ', H', cls, d, rfl, J', nb, up, sky, na, os, ag, w⟩ := xx
    have J : Inv X pins σ' H' sI := J'.ofTry ok
    have sky' : Sky B (X.env :: X.outer) a (Zc cls d) X.env.locals s'.heap := by rw [← hs]; exact sky
    show wpAny (model X.prog X.w) X.A (noteFrame (.ref a) X.env) _ _ _
    refine Sky.land Zc.steady hfr hf sky' fun h3 fl3 up3 => ?_
    have J3 : Inv X pins σ' H' { s' with heap := h3 } := J.landed nb fl3.1 (up.trans up3) os ag
    obtain ⟨oe3, vs3, he3, hz3, hd3⟩ := fl3.there
    have notFr : ∀ {h : Heap} {o : Obj} {vs : Array Value}, h.FunFrames B (X.env :: X.outer) → h.get? a = some o → o.data = .fields vs → a ∉ frs (X.env :: X.outer) := fun {h o vs} ff e dd hm => by
      obtain ⟨_, o', e', hnf⟩ := ff.mem hm
      rw [e] at e'; cases e'
      exact hnf _ dd
    have nfr := notFr fl3.2.2.1 he3 hd3
    have nL : a ≠ X.env.locals := fun z => nfr (List.mem_filterMap.mpr ⟨X.env, List.mem_cons_self, by rw [hf, z]⟩)
    have nF : a ∉ X.fs := fun hm => by
      obtain ⟨e, he, q⟩ := List.mem_filterMap.mp hm
      exact nfr (List.mem_filterMap.mpr ⟨e, List.mem_cons_of_mem _ he, q⟩)
    -- the error is younger than all
    have noI : ∀ o, sI.heap.get? a = some o → False := fun o e => by
      have z := nb a o e (by rw [hs]; exact nfr)
      rw [fl3.2.1] at z
      cases z
    have n0 : X.s_0.heap.get? a = none := by
      cases e : X.s_0.heap.get? a with
      | none => rfl
      | some o =>
        obtain ⟨o', e'⟩ := J.base.there a o e (by rw [hex]; exact List.not_mem_nil)
        exact (noI o' e').elim
    have np : ∀ p ∈ X.pn ++ pins, p.1 ≠ a := fun p hp e => by
      have z := (J.pin p hp).1
      rw [e] at z
      exact noI _ z
    have S3 := J3.suite he3 hd3 na nL nF
    have test : ∀ {x : Str} {c : Value} {np : Pos} (_ : Names X x c) {Q : Value → Shared → Prop} {E : Value → Shared → Prop}, Q c { s' with heap := h3 } → wpAny (model X.prog X.w) (X.A.mark (some (.ref a))) (eval (.Name x np) X.env) Q E { s' with heap := h3 } := fun {x c np} hc {Q E} q => by
      obtain ⟨hg, hdbg, hm | ⟨hm, hv, hnn⟩⟩ := hc
      · exact ld_glob (X := X.suite a ((a, oe3) :: (X.pn ++ pins))) S3 hg hm q hdbg
      · exact ld_blt (X := X.suite a ((a, oe3) :: (X.pn ++ pins))) S3 hg hm hv q hnn hdbg
    have LT : PySem.W.Looks (model X.prog X.w) h3 (typeOf (.ref a)) cls := fun A Q E s k q => wpAny_typeOf_ref (k _ _ he3) (by rw [hz3.1]; exact q)
    -- a suite is entered
    have enter : ∀ (lc : Cl), (∀ a' oa, H' a' = none → oa.cls = cls → oa.dict = d → PySem.W.notCls oa = true → wEnt D lc d σ' H' a' oa) →
        ∀ h4, HandSPX.FlyingZ B (X.env :: X.outer) a (Zc cls d) h4 → s'.heap.UpToSlots h4 → ∃ H4, Inv (X.suite a (X.pn ++ pins)) [] σ' H4 { s' with heap := h4 } ∧ lc.t (lc.en D) (lc.st a σ') H4 := fun lc hw h4 fl4 up4 => by
      have J4 : Inv X pins σ' H' { s' with heap := h4 } := J.landed nb fl4.1 (up.trans up4) os ag
      obtain ⟨oe4, vs4, he4, hz4, hd4⟩ := fl4.there
      have hn4 : PySem.W.notCls oe4 = true := by
        unfold PySem.W.notCls
        rw [hd4]
      have q := hw a oe4 na hz4.1 hz4.2 hn4
      cases d with
      | none => exact ⟨_, (J4.adopt he4 hd4 na nL n0 np).suit, q⟩
      | some dx =>
        obtain ⟨fs, ex, q⟩ := q
        obtain ⟨od, J5⟩ := J4.frzD ex
        have na5 : upd H' dx (.frz od (exd dx fs)) a = none := by
          rw [upd_ne fun e => by rw [e, ex] at na; cases na]
          exact na
        exact ⟨_, (J5.adopt he4 hd4 na5 nL n0 np).suit, q od⟩
    have go : ∀ {hds' : List ExceptHandler} {l' : List Cl}, ClOk X hds' l' → wCl X.K Wout D l' cls d σ' H' →
        wpAny (model X.prog X.w) X.A (handleBy (.ref a) X.env hds') (SP X pins D) X.xe { s' with heap := h3 } := by
      intro hds' l' hk
      induction hk with
      | nil =>
        intro w
        refine wpAny_handleBy_nil ?_
        obtain ⟨k1, k2, k3, oe, vs, T, oT, ts', he, hz, hd, h1, hr⟩ := id fl3
        unfold PySem.passOn
        refine wpAny_bind (wpAny_field he hd h1 ?_)
        rw [if_neg (show ¬ ((Value.ref T == Value.none) = true) from by simp)]
        have fin : wpAny (model X.prog X.w) X.A (setFlight (.ref a) X.env.frame) (fun _ s4 => wpAny (model X.prog X.w) X.A (throw (.ref a) : Sem Flow) (SP X pins D) X.xe s4) X.xe { s' with heap := h3 } := by
          rw [hf]
          refine HandSPX.setFlight_upZ fl3 fun h4 hh4 up4 => wpAny_throw (tk _ _ ?_)
          exact ⟨a, B, sI, pins, σ', H', cls, d, rfl, J, nb, (up.trans up3).trans up4, .inr (.inr (by rw [hs]; exact hh4)), na, os, ag, w⟩
        first
          | exact wpAny_bind (wpAny_pure (wpAny_bind fin))
          | exact wpAny_bind fin
      | @cons x c t b₀ suite np1 pos' hds2 l2 hc hsu r ih =>
        intro w
        obtain ⟨b, hb1, hyes, hno⟩ := w
        refine wpAny_handleBy_cons (codeAny_handlers_test ?_) (by intro q; cases q)
        have LM := PySem.W.exm_one (M := model X.prog X.w) (J3.kIn) LT hb1
        refine test hc (LM.here ?_)
        cases b with
        | true =>
          refine codeAny_handlers_suite ?_
          refine HandSPX.lands_againZ fl3 fun h4 fl4 up4 => ?_
          obtain ⟨H4, S4, q4⟩ := enter ⟨c, none, t⟩ (hyes rfl) h4 fl4 (up3.trans up4)
          refine wpAny_mono ((hsu a (X.pn ++ pins)).run [] _ _ H4 _ S4 q4) (fun f s6 hsp => ?_) (fun _ _ z => False.elim z)
          cases f with
          | next =>
            obtain ⟨σ6, H6, S6, q6⟩ := hsp
            exact ⟨_, _, S6.unsuit ok, q6⟩
          | brk =>
            obtain ⟨σ6, H6, S6, q6⟩ := hsp
            exact ⟨_, _, S6.unsuit ok, q6⟩
          | cont =>
            obtain ⟨σ6, H6, S6, q6⟩ := hsp
            exact ⟨_, _, S6.unsuit ok, q6⟩
          | ret u =>
            obtain ⟨v6, σ6, H6, S6, r6, q6⟩ := hsp
            exact ⟨_, _, _, S6.unsuit ok, r6, q6⟩
        | false =>
          show wpAny _ X.A (handleBy (.ref a) X.env hds2) _ _ _
          exact ih (hno rfl)
      | @as_ x n i c t b₀ suite np1 pos' hds2 l2 hN hi hln hc hsu r ih =>
        intro w
        obtain ⟨b, hb1, hyes, hno⟩ := w
        refine wpAny_handleBy_cons (codeAny_handlers_test ?_) (by intro q; cases q)
        have LM := PySem.W.exm_one (M := model X.prog X.w) (J3.kIn) LT hb1
        refine test hc (LM.here ?_)
        cases b with
        | true =>
          refine codeAny_handlers_suite_as ?_
          refine HandSPX.lands_againZ fl3 fun h4 fl4 up4 => ?_
          obtain ⟨H4, S4, q4⟩ := enter ⟨c, some i, t⟩ (hyes rfl) h4 fl4 (up3.trans up4)
          refine store_ok (X := X.suite a (X.pn ++ pins)) (v := .ref a) S4 hN hi (.inl hln) rfl (fun s5 S5 => ?_) (.inr hln)
          refine wpAny_mono ((hsu a (X.pn ++ pins)).run [] s5 _ H4 _ S5 q4) (fun f s6 hsp => ?_) (fun _ _ z => False.elim z)
          have end_ : ∀ {σ6 : St} {H6 : Hp} {Q : Shared → Prop}, Inv (X.suite a (X.pn ++ pins)) [] σ6 H6 s6 → (∀ s7, Inv X pins (σ6.set i none) H6 s7 → Q s7) →
              wpAny (model X.prog X.w) X.A (do bindName X.env n .none; unbindBehindTheSuite X.env n pos') (fun _ s7 => Q s7) X.xe s6 := fun {σ6 H6 Q} S6 hq => gone_ok (S6.unsuit ok) hN hi hln hq
          cases f with
          | next =>
            obtain ⟨σ6, H6, S6, q6⟩ := hsp
            exact end_ S6 fun s7 J7 => ⟨_, _, J7, q6⟩
          | brk =>
            obtain ⟨σ6, H6, S6, q6⟩ := hsp
            exact end_ S6 fun s7 J7 => ⟨_, _, J7, q6⟩
          | cont =>
            obtain ⟨σ6, H6, S6, q6⟩ := hsp
            exact end_ S6 fun s7 J7 => ⟨_, _, J7, q6⟩
          | ret u =>
            obtain ⟨v6, σ6, H6, S6, r6, q6⟩ := hsp
            exact end_ S6 fun s7 J7 => ⟨_, _, _, J7, r6, q6⟩
        | false =>
          show wpAny _ X.A (handleBy (.ref a) X.env hds2) _ _ _
          exact ih (hno rfl)
    exact go hh w
  · cases f with
    | next =>
      obtain ⟨σ', H', J', q⟩ := hsp
      exact wpAny_execs_nil ⟨σ', H', J'.ofTry ok, q⟩
    | brk =>
      obtain ⟨σ', H', J', q⟩ := hsp
      exact ⟨σ', H', J'.ofTry ok, q⟩
    | cont =>
      obtain ⟨σ', H', J', q⟩ := hsp
      exact ⟨σ', H', J'.ofTry ok, q⟩
    | ret u =>
      obtain ⟨v, σ', H', J', r, q⟩ := hsp
      exact ⟨v, σ', H', J'.ofTry ok, r, q⟩
end
end L2
end

section
set_option linter.all false
set_option maxRecDepth 100000
set_option autoImplicit false
/-! Mi: errors as values. -/
namespace Mi
open PySem L2
variable [Cls]
/-- all errors' bases -/
def ErB (K : PySem.W.Frag) (C : Addr) : Prop := ∃ (Bn nId iId : String) (tlB : List Value), ErC K C Bn nId iId tlB
/-- an error's class by its name: the def of the text of Mi, the class, its field -/
structure ErX (P : List Fn) (X : Cx) (x : PySem.Str) (i c : Nat) (fo : Option PySem.Str) : Prop where
  fns : ∃ j, P[i]? = some (mkC j (if fo.isSome then 1 else 0)) ∧ P[j]? = some (mkE c (if fo.isSome then 1 else 0))
  cls : match fo with
    | some f => Er1 X x (Cls.ca c) f ∧ Cls.fl c = [f] ∧ PySem.W.findIn X.K (.ref (Cls.ca c)) f = some none
    | none => Er0 X x (Cls.ca c) ∧ Cls.fl c = []
  xf : ErB X.K (Cls.ca c)
  rs : PySem.W.subIn X.K (.ref (Cls.ca c)) (.type "BaseException") = some true ∧ PySem.W.typeIn X.K (.ref (Cls.ca c)) = some (.type "type")
theorem mk1 {P : List Fn} {i j c : Nat} {d : D} {s : Sto} (h1 : P[i]? = some (mkC j 1)) (h2 : P[j]? = some (mkE c 1)) : ∀ k, callN P k i [d] s = .stuck ∨ (2 ≤ k ∧ callN P k i [d] s = .ok (.exc c [d]) s)
  | 0 => .inl rfl
  | 1 => .inl (by simp [callN, h1, mkC, evSs, evS, evE, evEs, Rs.bind, Rs.stm])
  | k + 2 => .inr ⟨by omega, by simp [callN, h1, h2, mkC, mkE, evSs, evS, evE, evEs, Rs.bind, Rs.stm, leave]⟩
theorem mk0 {P : List Fn} {i j c : Nat} {s : Sto} (h1 : P[i]? = some (mkC j 0)) (h2 : P[j]? = some (mkE c 0)) : ∀ k, callN P k i [] s = .stuck ∨ (2 ≤ k ∧ callN P k i [] s = .ok (.exc c []) s)
  | 0 => .inl rfl
  | 1 => .inl (by simp [callN, h1, mkC, evSs, evS, evE, evEs, Rs.bind, Rs.stm])
  | k + 2 => .inr ⟨by omega, by simp [callN, h1, h2, mkC, mkE, evSs, evS, evE, evEs, Rs.bind, Rs.stm, leave]⟩
section
variable {X : Cx} {P : List Fn} {k : Nat} {x : PySem.Str} {F : Addr → Prop} {H : Hp} {ms : List Addr} {st : Sto} {Q : VK} {E : XK} {W : WX}
theorem er_end {c : Nat} {d : D} {v : V} {f : PySem.Str} (hf : Cls.fl c = [f]) (sm : Sm F H ms st) (r : Rp H (Mt F ms st) ms d v) (p : Pst X0 F Rp (.ok (.exc c [d]) st) H ms st Q E) : qEr (Cls.ca c) f v H Q := fun a dx oa od uu ha hd ne hc hdt hn => by
  have l1 := later_new (o := .frz od (exd dx [(f, v)])) sm hd
  have s1 := sm.new (o := .frz od (exd dx [(f, v)])) hd
  have ha2 : upd H dx (.frz od (exd dx [(f, v)])) a = none := by rw [upd_ne (Ne.symm ne)]; exact ha
  have l2 := later_new (o := .frz oa uu) s1 ha2
  have s2 := s1.new (o := .frz oa uu) ha2
  refine p (.ref a) _ ms (l1.trans l2) s2 ?_
  simp only [Rp]
  refine ⟨a, oa, uu, [v], rfl, upd_same, hc, hn, ?_, by rw [hf]; rfl, Rps.cons (Rp.later (l1.trans l2) _ _ r) Rps.nil⟩
  rw [hdt]
  exact ⟨od, by rw [upd_ne ne, upd_same, hf]; rfl⟩
theorem er_end0 {c : Nat} (hf : Cls.fl c = []) (sm : Sm F H ms st) (p : Pst X0 F Rp (.ok (.exc c []) st) H ms st Q E) : qEr0 (Cls.ca c) H Q := fun a oa uu ha hc hdt hn => by
  have l1 := later_new (o := .frz oa uu) sm ha
  have s1 := sm.new (o := .frz oa uu) ha
  refine p (.ref a) _ ms l1 s1 ?_
  simp only [Rp]
  refine ⟨a, oa, uu, [], rfl, upd_same, hc, hn, ?_, by rw [hf]; rfl, Rps.nil⟩
  rw [hdt]
  exact hf
theorem er_run {i c : Nat} {f : PySem.Str} {fo : Option PySem.Str} (h1 : fo = some f) (T : ErX P X x i c fo) (hr : Room k X.A) {d : D} {v : V} (sm : Sm F H ms st) (r : Rp H (Mt F ms st) ms d v) (p : Pst X0 F Rp (callN P k i [d] st) H ms st Q E) : Room 2 X.A ∧ qEr (Cls.ca c) f v H Q := by
  subst h1
  obtain ⟨j, h1, h2⟩ := T.fns
  obtain ⟨_, hf, _⟩ := T.cls
  rcases mk1 (d := d) (s := st) h1 h2 k with z | ⟨hk, z⟩
  · rw [z] at p; exact p.elim
  · rw [z] at p; exact ⟨hr.mono hk, er_end hf sm r p⟩
theorem se_er1 {i c : Nat} {f : PySem.Str} {a : Expr} {e : Mi.E} {p pos : Pos} (T : ErX P X x i c (some f)) (hr : Room k X.A) (hg : Gl X x) (hd : (x == ("__debug__" : PySem.Str)) = false) (he : PE X a (tE X0 (callN P k) W e)) (hs : notStar a = true) :
    PE X (.Call (.Name x p) [a] [] pos) (tE X0 (callN P k) W (.call i (.cons e .nil))) := by
  refine PE.imp (pe_er1 T.cls.1 hg he hd (starEach_cons hs)) fun σ H Q h => ?_
  obtain ⟨F, ρ, ms, st, sm, er, q⟩ := h
  simp only [evE, evEs, Rs.bind_assoc] at q
  refine ⟨F, ρ, ms, st, sm, er, Pst.bind q fun d s1 v H1 ms1 _ l1 sm1 r1 p1 => ?_⟩
  simp only [Rs.bind] at p1
  exact er_run rfl T hr sm1 r1 p1
theorem se_erk {i c : Nat} {f : PySem.Str} {a : Expr} {e : Mi.E} {p pk pos : Pos} (T : ErX P X x i c (some f)) (hr : Room k X.A) (hg : Gl X x) (hd : (x == ("__debug__" : PySem.Str)) = false) (he : PE X a (tE X0 (callN P k) W e)) :
    PE X (.Call (.Name x p) [] [⟨some f, a, pk⟩] pos) (tE X0 (callN P k) W (.callk i [0] (.cons e .nil))) := by
  refine PE.imp (pe_erk T.cls.1 hg he hd) fun σ H Q h => ?_
  obtain ⟨F, ρ, ms, st, sm, er, q⟩ := h
  simp only [evE, evEs, Rs.bind_assoc] at q
  refine ⟨F, ρ, ms, st, sm, er, Pst.bind q fun d s1 v H1 ms1 _ l1 sm1 r1 p1 => ?_⟩
  simp [Rs.bind, pick] at p1
  exact er_run rfl T hr sm1 r1 p1
theorem se_er0 {i c : Nat} {p pos : Pos} (T : ErX P X x i c none) (hg : Gl X x) (hd : (x == ("__debug__" : PySem.Str)) = false) :
    PE X (.Call (.Name x p) [] [] pos) (tE X0 (callN P k) W (.call i .nil)) := by
  refine PE.imp (pe_er0 T.cls.1 hg hd) fun σ H Q h => ?_
  obtain ⟨F, ρ, ms, st, sm, er, q⟩ := h
  simp only [evE, evEs, Rs.bind] at q
  obtain ⟨j, h1, h2⟩ := T.fns
  rcases mk0 (s := st) h1 h2 k with z | ⟨hk, z⟩
  · rw [z] at q; exact q.elim
  · rw [z] at q; exact er_end0 T.cls.2 sm q
/-- e.f -/
theorem se_fld {cs : List Nat} {f : PySem.Str} {a : Expr} {e : Mi.E} {pos : Pos} (TT : ∀ c ∈ cs, ∃ x i, ErX P X x i c (some f)) (hb : attributeBase a f X.env (eval a X.env) = eval a X.env) (he : PE X a (tE X0 (callN P k) W e)) : PE X (.Attribute a f pos) (tE X0 (callN P k) W (.fld cs e)) := by
  refine PE.imp (pe_erf hb he) fun σ H Q h => ?_
  obtain ⟨F, ρ, ms, st, sm, er, q⟩ := h
  simp only [evE] at q
  refine ⟨F, ρ, ms, st, sm, er, Pst.bind q fun d s1 v H1 ms1 _ l1 sm1 r1 p1 => ?_⟩
  split at p1
  · rename_i c' d
    split at p1
    · rename_i hc
      obtain ⟨x, i, T⟩ := TT _ (List.contains_iff_mem.mp hc)
      obtain ⟨_, hf, hno⟩ := T.cls
      simp only [Rp] at r1
      obtain ⟨a, oa, u, vs, rfl, ea, hcl, hn, hd, hz, r1⟩ := r1
      obtain ⟨y, vs', rfl, ry, rn⟩ := r1.uncons
      simp only [Rps] at rn
      subst rn
      rw [hf] at hd
      cases hdi : oa.dict with
      | none => rw [hdi] at hd; cases hd
      | some dx =>
        rw [hdi] at hd
        obtain ⟨od, ed⟩ := hd
        obtain ⟨Bn, nId, iId, tlB, E0⟩ := T.xf
        exact ⟨a, _, dx, oa, od, u, _, y, rfl, ea, hcl, hdi, hn, ed, E0.xf, hno, by simp [List.lookup], p1.ok sm1 ry⟩
    · exact p1.elim
  · exact p1.elim
/-- isinstance against a class that a name stands for -/
structure IsX (X : Cx) (x : PySem.Str) (no yes : List Nat) : Prop where
  ex : ∃ (v : V) (cv : Value), (∀ pos, PE X (.Name x pos) (tC v)) ∧ ClsV v cv ∧ (∀ c ∈ yes, ErB X.K (Cls.ca c) ∧ PySem.W.kitOne X.K (.ref (Cls.ca c)) cv = some true) ∧ ∀ c ∈ no, ErB X.K (Cls.ca c) ∧ PySem.W.kitOne X.K (.ref (Cls.ca c)) cv = some false
theorem se_isE {no yes : List Nat} {a : Expr} {e : Mi.E} {p p2 pos : Pos} (T : IsX X x no yes) (hg : Gl X "isinstance") (hm : X.mg "isinstance" = none) (he : PE X a (tE X0 (callN P k) W e)) (hs : notStar a = true) :
    PE X (.Call (.Name "isinstance" p) [a, .Name x p2] [] pos) (tE X0 (callN P k) W (.isE no yes e)) := by
  obtain ⟨v, cv, pv, kc, hy, hn⟩ := T.ex
  refine PE.imp (pe_callB call_er hg hm PyProof.Rows.boot_isinstance (pa_cons he (pa_cons (pv p2) pa_nil (starEach_cons rfl)) (starEach_cons hs)) (by decide) (by decide) (starEach_cons hs) rfl) fun σ H Q h => ?_
  obtain ⟨F, ρ, ms, st, sm, er, q⟩ := h
  simp only [evE] at q
  refine ⟨F, ρ, ms, st, sm, er, Pst.bind q fun d s1 w H1 ms1 _ l1 sm1 r1 p1 => ?_⟩
  split at p1
  · rename_i c ds _
    simp only [Rp] at r1
    obtain ⟨a, oa, u, vs, rfl, ea, hcl, hnc, hd, hz, r1⟩ := r1
    have go : ∀ b, ErB X.K (Cls.ca c) → PySem.W.kitOne X.K (.ref (Cls.ca c)) cv = some b → Q (V.bl b) H1 → rEr X.K [.ref a, v] H1 Q := fun b ⟨Bn, nId, iId, tlB, E0⟩ hk q => by
      refine ⟨a, _, v, cv, b, oa, u, Bn, nId, iId, tlB, rfl, kc, ea, hcl, hnc, fun dx e => ?_, E0, hk, q⟩
      rw [e] at hd
      obtain ⟨od, ed⟩ := hd
      exact ⟨od, _, ed⟩
    split at p1
    · rename_i hc
      have hc := List.contains_iff_mem.mp hc
      exact go true (hy c hc).1 (hy c hc).2 (p1.ok sm1 (by simp only [Rp]))
    · split at p1
      · rename_i hc
        have hc := List.contains_iff_mem.mp hc
        exact go false (hn c hc).1 (hn c hc).2 (p1.ok sm1 (by simp only [Rp]))
      · exact p1.elim
  · exact p1.elim
end
end Mi
end

section
set_option linter.all false
set_option maxRecDepth 100000
set_option maxHeartbeats 4000000
set_option autoImplicit false
/-! Mi: sets of whole numbers and texts, made of a list or a tuple. -/
namespace L2
open PySem PySem.Spec PyProof.Rows
section
variable {P : Program} {w : World} {A : Around} {E : Value → Shared → Prop} {s : Shared} {h h' : Heap} {a : Addr}
/-- an entry for a key -/
def EntK (w : World) (k : Key) (e : Int × Value) : Prop := keyIs k e.2 = true ∧ e.1 = keyH w k
theorem entK_scan {k : Key} {v : Value} (h : keyIs k v = true) : v.scannable = true := by
  rcases keyIs_shape h with ⟨i, t, rfl, rfl⟩ | ⟨x, t, rfl, rfl⟩ <;> rfl
/-- the set at a holds just these keys, each once, in some order -/
def KSet (w : World) (h : Heap) (a : Addr) (ks : List Key) : Prop :=
  ∃ o es ep t, h.get? a = some o ∧ o.ExactSet ∧ o.data = .set es ep t ∧ Paired (EntK w) ks es.toList ∧ ks.Nodup ∧ es.size < scanBound ∧ t.fits es.size = true ∧ Ris t.place.toList ∧ (w.params.followText "set-order" = true ∨ t.led = true)
theorem KSet.stay {ks : List Key} (R : KSet w h a ks) (k : ∀ o, h.get? a = some o → h'.get? a = some o) : KSet w h' a ks := by
  obtain ⟨o, es, ep, t, ho, r⟩ := R
  exact ⟨o, es, ep, t, k o ho, r⟩
theorem paired_mem {α β : Type} {F : α → β → Prop} : ∀ {l : List α} {m : List β}, Paired F l m → ∀ y ∈ m, ∃ x ∈ l, F x y
  | _, _, .nil, y, hy => by cases hy
  | _, _, .cons r t, y, hy => by
    rcases List.mem_cons.mp hy with rfl | hy
    · exact ⟨_, List.mem_cons_self, r⟩
    · obtain ⟨x, hx, q⟩ := paired_mem t y hy
      exact ⟨x, List.mem_cons_of_mem _ hx, q⟩
theorem paired_mem2 {α β : Type} {F : α → β → Prop} : ∀ {l : List α} {m : List β}, Paired F l m → ∀ x ∈ l, ∃ y ∈ m, F x y
  | _, _, .nil, x, hx => by cases hx
  | _, _, .cons r t, x, hx => by
    rcases List.mem_cons.mp hx with rfl | hx
    · exact ⟨_, List.mem_cons_self, r⟩
    · obtain ⟨y, hy, q⟩ := paired_mem2 t x hx
      exact ⟨y, List.mem_cons_of_mem _ hy, q⟩
theorem paired_perm {α β : Type} {F : α → β → Prop} : ∀ {m m' : List β}, m.Perm m' → ∀ {l : List α}, Paired F l m → ∃ l', l.Perm l' ∧ Paired F l' m' := by
  intro m m' p
  induction p with
  | nil => intro l h; exact ⟨l, .refl _, h⟩
  | cons x _ ih =>
    intro l h
    cases h with
    | cons r t =>
      obtain ⟨l', p', h'⟩ := ih t
      exact ⟨_ :: l', p'.cons _, .cons r h'⟩
  | swap x y l0 =>
    intro l h
    cases h with
    | cons r t =>
      cases t with
      | cons r2 t => exact ⟨_, .swap _ _ _, .cons r2 (.cons r t)⟩
  | trans _ _ h1 h2 =>
    intro l h
    obtain ⟨l1, p1, q1⟩ := h1 h
    obtain ⟨l2, p2, q2⟩ := h2 q1
    exact ⟨l2, p1.trans p2, q2⟩
theorem key_once {k j : Key} {v : Value} (h1 : keyIs k v = true) (h2 : keyIs j v = true) : k = j := by
  rcases keyIs_shape h1 with ⟨i, t, rfl, rfl⟩ | ⟨x, t, rfl, rfl⟩
  · rcases keyIs_shape h2 with ⟨i2, t2, rfl, e⟩ | ⟨y, t2, rfl, e⟩
    · cases e; rfl
    · cases e
  · rcases keyIs_shape h2 with ⟨i2, t2, rfl, e⟩ | ⟨y, t2, rfl, e⟩
    · cases e
    · cases e; rfl
theorem entK_elems {ks : List Key} {l : List (Int × Value)} (p : Paired (EntK w) ks l) : ElemsOf (mixKind P w) l := fun e he => by
  obtain ⟨k, _, q1, q2⟩ := paired_mem p e he
  exact ⟨⟨k, q1, q2⟩, entK_scan q1⟩
theorem KSet.setOf {ks : List Key} (R : KSet w h a ks) : h.SetOf (mixKind P w) a (fun k => ks.any fun j => decide (j = k)) ks.length := by
  obtain ⟨o, es, ep, t, ho, hx, hd, p, nd, hb, hf, _⟩ := R
  refine ⟨o, es, ep, t, ho, hx, hd, entK_elems p, fun k => ?_, hb, hf, ?_⟩
  · rw [List.any_eq_true]
    constructor
    · rintro ⟨j, hk, e⟩
      rw [decide_eq_true_eq] at e
      subst e
      obtain ⟨e, he, q⟩ := paired_mem2 p j hk
      exact ⟨e, he, q.1⟩
    · rintro ⟨e, he, q⟩
      obtain ⟨j, hj, q2⟩ := paired_mem p e he
      exact ⟨j, hj, decide_eq_true (key_once q2.1 q)⟩
  · rw [← Array.length_toList, ← p.length]
/-- what storing the grown table leaves -/
theorem grown_tail {g : Bool → Sem Unit} (hg : ∀ (b : Bool) (s₁ : Shared) (Q' : Unit → Shared → Prop), Q' () s₁ → wpAny (model P w) A (g b) Q' E s₁)
    {o : Obj} {es : Array (Int × Value)} {ep : Nat} {t : SetTable} (ho : s.heap.get? a = some o) (hex : o.ExactSet) (hd : o.data = .set es ep t)
    {es1 : Array (Int × Value)} {t2 : SetTable} {ks : List Key} (p1 : Paired (EntK w) ks es1.toList) (nd : ks.Nodup)
    (few : es1.size < scanBound) (fit : t2.fits es1.size = true) (ris : Ris t2.place.toList) (led : w.params.followText "set-order" = true ∨ t2.led = true) {was : Bool} {R : Option Bool → Shared → Prop}
    (hR : ∀ h' ks', Heap.SameBut a s.heap h' → ks.Perm ks' → KSet w h' a ks' → R (some true) { s with heap := h' }) :
    wpAny (model P w) A (do
        storeSet a es1 t2
        if (!was && t2.tooFull) = true then do
            g (relayAll t2 es1 (SetTable.grown es1.size)).2.2
            storeSet a (relayAll t2 es1 (SetTable.grown es1.size)).1 (relayAll t2 es1 (SetTable.grown es1.size)).2.1
            pure (some true)
          else pure (some true)) R E s := by
  refine wpAny_bind (wpAny_storeSet_of ho hd ?_ (fits_of_scanBound few))
  have at1 := store_at (es' := es1) (t' := t2) ho hd
  have same1 := Heap.SameBut.update s.heap a (Obj.putSet es1 t2)
  by_cases full : (!was && t2.tooFull) = true
  · rw [if_pos full]
    have pm := relayAll_perm t2 es1 (SetTable.grown es1.size)
    have f3 := relayAll_fits t2 es1 (SetTable.grown es1.size)
    have r3 := relayAll_ris t2 es1 (SetTable.grown es1.size)
    have l3 := relayAll_led t2 es1 (SetTable.grown es1.size)
    generalize relayAll t2 es1 (SetTable.grown es1.size) = T3 at pm f3 r3 l3 ⊢
    obtain ⟨es2, t3, gave⟩ := T3
    dsimp only at pm f3 r3 l3 ⊢
    have size2 : es2.size = es1.size := by rw [← Array.length_toList, pm.length_eq, Array.length_toList]
    have few2 : es2.size < scanBound := by rw [size2]; exact few
    obtain ⟨ks', pk, p2⟩ := paired_perm pm.symm p1
    refine wpAny_bind (hg _ _ _ (wpAny_bind (wpAny_storeSet_of at1 rfl ?_ (fits_of_scanBound few2))))
    have at2 := store_at (es' := es2) (t' := t3) at1 rfl
    exact wpAny_pure (hR _ ks' (same1.trans (Heap.SameBut.update _ a _)) pk ⟨_, es2, _, t3, at2, hex, rfl, p2, pk.nodup_iff.mp nd, few2, f3, r3, led.imp id fun z => by rw [l3]; exact z⟩)
  · rw [if_neg full]
    exact wpAny_pure (hR _ ks same1 (.refl _) ⟨_, es1, _, t2, at1, hex, rfl, p1, nd, few, fit, ris, led⟩)
/-- a key is added -/
theorem add_key {ks : List Key} {k : Key} {v : Value} {Q : Bool → Shared → Prop} (R : KSet w s.heap a ks) (kv : keyIs k v = true) (room : ks.length + 1 < scanBound)
    (hQ : ∀ h' ks', Heap.SameBut a s.heap h' → ((k ∈ ks ∧ ks.Perm ks') ∨ (k ∉ ks ∧ (k :: ks).Perm ks')) → KSet w h' a ks' → ∀ b, Q b { s with heap := h' }) :
    wpAny (model P w) A (setAddHashed a v ((mixKind P w).hash k)) Q E s := by
  have R0 := R
  obtain ⟨o, es, ep, t, ho, hex, hd, pr, nd, few, fit, ris, led⟩ := R
  have hkey : (mixKind P w).is k v = true := kv
  have sc := entK_scan kv
  have el : ElemsOf (mixKind P w) es.toList := entK_elems pr
  have size0 : es.size = ks.length := by rw [← Array.length_toList, ← pr.length]
  unfold setAddHashed setAddHashedIn
  refine wpAny_holding (wpAny_bind (wpAny_setState_of ho hd fit ?_))
  dsimp only
  rw [byScan_of sc few el]
  simp only [↓reduceIte]
  unfold setAddByScan
  refine wpAny_bind (wpAny_bind (wpAny_rule (wpAny_bind (wpAny_setScan_of hkey ho hd fit el ?_))))
  cases at_ : List.findIdx? (fun e => (mixKind P w).is k e.2) es.toList with
  | some j =>
    dsimp only
    obtain ⟨hj, pj, _⟩ := List.findIdx?_eq_some_iff_getElem.mp at_
    obtain ⟨i, hi, q⟩ := paired_mem pr es.toList[j] (List.getElem_mem hj)
    have hk : k ∈ ks := by rw [key_once pj q.1]; exact hi
    refine wpAny_pure (wpAny_pure ?_)
    exact hQ s.heap ks (Heap.SameBut.refl a s.heap) (.inl ⟨hk, .refl _⟩) R0 _
  | none =>
    dsimp only
    have hk : k ∉ ks := fun z => by
      obtain ⟨e, he, q⟩ := paired_mem2 pr k z
      have c := List.findIdx?_eq_none_iff.mp at_ e he
      have q : (mixKind P w).is k e.2 = true := q.1
      rw [q] at c
      cases c
    have gw : ∀ (b : Bool) {s₁ : Shared} {Q' : Unit → Shared → Prop}, Q' () s₁ → wpAny (model P w) A (match b with | true => rule "set.scan.the-table-gave-way" | false => pure ()) Q' E s₁ :=
      fun b s₁ Q' q => by cases b <;> first | exact wpAny_pure q | exact wpAny_rule q
    have pm := layNew_perm t es ((mixKind P w).hash k) v
    have f1 := layNew_fits t es ((mixKind P w).hash k) v
    have r1 := layNew_ris t es ((mixKind P w).hash k) v ris
    have l1 := layNew_led t es ((mixKind P w).hash k) v
    generalize layNew t es ((mixKind P w).hash k) v = Y at pm f1 r1 l1 ⊢
    obtain ⟨es1, t1, was, gave⟩ := Y
    dsimp only at pm f1 r1 l1 ⊢
    rw [Array.toList_push] at pm
    have pc : es1.toList.Perm (((mixKind P w).hash k, v) :: es.toList) := pm.trans (List.perm_append_singleton _ _)
    obtain ⟨ks1, pk, p1⟩ := paired_perm pc.symm (Paired.cons (F := EntK w) (show EntK w k ((mixKind P w).hash k, v) from ⟨kv, rfl⟩) pr)
    have nd1 : ks1.Nodup := pk.nodup_iff.mp (List.nodup_cons.mpr ⟨hk, nd⟩)
    have size1 : es1.size = ks.length + 1 := by rw [← Array.length_toList, pc.length_eq, List.length_cons, Array.length_toList, size0]
    have few1 : es1.size < scanBound := by rw [size1]; exact room
    have led1 : w.params.followText "set-order" = true ∨ t1.led = true := led.imp id fun z => by rw [l1]; exact z
    have fin : ∀ h' ks', Heap.SameBut a s.heap h' → ks1.Perm ks' → KSet w h' a ks' → ∀ b, Q b { s with heap := h' } := fun h' ks' sb pp r => hQ h' ks' sb (.inr ⟨hk, pk.trans pp⟩) r
    refine wpAny_bind (gw _ ?_)
    split
    · refine wpAny_bind ?_
      rw [hashByValue_scannable 8 sc]
      refine wpAny_pure (grown_tail ?_ ho hex hd p1 nd1 few1 ?_ ?_ ?_ ?_)
      · intro b s₁ Q' q; cases b <;> first | exact wpAny_pure q | exact wpAny_rule q
      · first | (split <;> first | exact f1 | exact SetTable.fits_plain_off f1) | exact f1
      · first | (split <;> exact r1) | exact r1
      · first | (split <;> exact led1) | exact led1
      · intro h' ks' sb pp r; dsimp only; exact wpAny_pure (fin h' ks' sb pp r _)
    · refine wpAny_bind (wpAny_pure ?_)
      simp only [↓reduceIte]
      refine grown_tail ?_ ho hex hd p1 nd1 few1 f1 r1 led1 ?_
      · intro b s₁ Q' q; cases b <;> first | exact wpAny_pure q | exact wpAny_rule q
      · intro h' ks' sb pp r; dsimp only; exact wpAny_pure (fin h' ks' sb pp r _)
end
/-- just these keys -/
def Mems (ks all : List Key) : Prop := ∀ k, k ∈ ks ↔ k ∈ all
section
variable {P : Program} {w : World} {A : Around} {E : Value → Shared → Prop} {s : Shared}
theorem update_keys {I : Addr} {fp wr : List Addr} {G : Array GenState → Array GenState → Prop} {n : Nat} {Pv : Nat → Value → Prop} {St : Nat → Shared → Prop} {R : Result → Shared → Prop}
    (W : WalksS P w A.in1 I fp wr G n Pv St) (S : Addr) (nS : S ∉ fp) (all : List Key) (hn : n = all.length) (room : all.length + 1 < scanBound) (hval : ∀ i v, Pv i v → ∃ k, all[i]? = some k ∧ keyIs k v = true) :
    ∀ (m i : Nat) (s : Shared), n - i = m → i ≤ n → St i s → (∃ ks, ks.length ≤ i ∧ Mems ks (all.take i) ∧ KSet w s.heap S ks) →
      (∀ s' ks, Moved (S :: wr) G s s' → Mems ks all → KSet w s'.heap S ks → R (.ok (.ret .none)) s') →
      codeAny (model P w) A (.builtin "set.update.loop" ⟨[.ref S, .ref I], []⟩) R s := by
  have nSw : S ∉ wr := fun h => nS (W.sub _ h)
  have hsub : ∀ b ∈ wr, b ∈ S :: wr := fun b hb => List.mem_cons_of_mem _ hb
  intro m
  induction m with
  | zero =>
    intro i s hm0 hi hst ⟨ks, hl, me, hS⟩ hR
    obtain rfl : i = n := by omega
    refine codeAny_builtin F.entry_set_update_loop ?_
    rw [Around.under_plainId F.plain_set_update_loop _]
    show wpAny _ A.in1 (pyNext (.ref I) >>= _) _ _ s
    refine wpAny_bind (W.done s _ _ hst fun s' hm => ?_)
    show wpAny _ A.in1 (ret Value.none) _ _ s'
    rw [List.take_of_length_le (by omega)] at me
    exact wpAny_pure (hR s' ks (hm.mono hsub) me (hS.stay fun o e => hm.heap S o nSw e))
  | succ m ih =>
    intro i s hm1 hi hst ⟨ks, hl, me, hS⟩ hR
    have hlt : i < n := by omega
    refine codeAny_builtin F.entry_set_update_loop ?_
    rw [Around.under_plainId F.plain_set_update_loop _]
    show wpAny _ A.in1 (pyNext (.ref I) >>= _) _ _ s
    refine wpAny_bind (W.item i s _ _ hlt hst fun v s' hP hst' hm => ?_)
    obtain ⟨k, hk, kv⟩ := hval i v hP
    have hS' : KSet w s'.heap S ks := hS.stay fun o e => hm.heap S o nSw e
    show wpAny _ A.in1 (holding [v] (setAdd S v) >>= _) _ _ s'
    refine wpAny_bind (wpAny_holding ?_)
    unfold setAdd
    refine wpAny_holding (wpAny_bind ((mixKind P w).pyHash (k := k) kv ?_))
    refine add_key (s := { s' with toks := s'.toks + 1 }) hS' kv (by omega) fun h' ks' hsb pk hS2 b => ?_
    have me2 : Mems ks' (all.take (i + 1)) := fun j => by
      rw [List.take_add_one, hk, List.mem_append]
      rcases pk with ⟨z, pk⟩ | ⟨z, pk⟩
      · rw [← pk.mem_iff, me j]
        constructor
        · exact .inl
        · rintro (q | q)
          · exact q
          · simp at q; subst q; exact (me j).mp z
      · rw [← pk.mem_iff, List.mem_cons, me j]
        simp only [Option.toList_some, List.mem_singleton]
        exact Or.comm
    have hl2 : ks'.length ≤ i + 1 := by
      rcases pk with ⟨z, pk⟩ | ⟨z, pk⟩
      · rw [← pk.length_eq]; omega
      · rw [← pk.length_eq, List.length_cons]; omega
    refine wpAny_pure ⟨plainId_quiet F.plain_set_update_loop _, ih (i + 1) _ (by omega) hlt (W.frame _ s' _ _ hst' (Nat.le_succ _) fun c hc o e => ?_) ⟨ks', hl2, me2, hS2⟩ fun s'' ks'' hm'' me'' hS'' => ?_⟩
    · rw [hsb.2 c (fun q : c = S => nS (by rw [← q]; exact hc))]; exact e
    · refine hR s'' ks'' (Moved.trans W.gtrans ((hm.mono hsub).then_heap (Nat.le_succ _) fun c o hc e => ?_) hm'') me'' hS''
      rw [hsb.2 c (fun q : c = S => hc (by rw [q]; exact List.mem_cons_self))]; exact e
abbrev newSet (w : World) : Obj := { cls := .type "set", dict := none, data := .set #[] 0 (.fresh 0 0 (!w.params.followText "set-order")) }
theorem kset_new {h : Heap} {a : Addr} (ho : h.get? a = some (newSet w)) : KSet w h a [] :=
  ⟨_, #[], 0, _, ho, ⟨rfl, rfl, rfl⟩, rfl, .nil, List.nodup_nil, (by decide), (by rfl), List.Pairwise.nil, by
    show _ ∨ (!w.params.followText "set-order") = true
    cases w.params.followText "set-order"
    · exact .inr rfl
    · exact .inl rfl⟩
/-- what set(..) of a walked thing leaves -/
def SetMade (w : World) (all : List Key) (s : Shared) (r : Value) (s2 : Shared) : Prop := r = .none ∧ ∃ h' tk ks, s2 = { s with heap := h', toks := tk } ∧ Mems ks all ∧ KSet w h' s.heap.objs.size ks ∧ ∀ b o, s.heap.get? b = some o → h'.get? b = some o
set_option maxHeartbeats 6400000 in
theorem set_of_seq {l : Addr} {items : Array Value} {tn : String} (all : List Key) {Q : Value → Shared → Prop} (hh : A.handled = none) (ht : (tn = "list" ∧ s.heap.IsList l items) ∨ (tn = "tuple" ∧ s.heap.IsTuple l items))
    (hlen : items.size = all.length) (hit : ∀ (i : Nat) (v : Value), items[i]? = some v → ∃ k, all[i]? = some k ∧ keyIs k v = true) (room : all.length + 1 < scanBound)
    (hq : ∀ (h' : Heap) (tk : Nat) (ks : List Key), Mems ks all → KSet w h' s.heap.objs.size ks → (∀ b o, s.heap.get? b = some o → h'.get? b = some o) → Q (.ref s.heap.objs.size) { s with heap := h', toks := tk }) :
    wpAny (model P w) A (call (.type "set") [.ref l]) Q E s := by
  obtain ⟨c, tl, hmro⟩ := F.called_set.mro
  have hmade := F.called_set.made
  have hsub := F.called_set.sub
  refine wpAny_call (codeAny_of_tree ?_)
  show wpAny _ _ (callAny (.type "set") _) _ _ _
  refine wpAny_pure ⟨Code.quiet_builtin _ (by decide +kernel), codeAny_builtin F.entry_type_call ?_⟩
  rw [Around.under_plain (weight_type_call_type "set" [.ref l] []) rfl]
  have h1 := F.called_set.notType
  have h2 := F.called_set.canCreate
  have hct := F.typeCall_set_1 (.ref l)
  repeat (any_goals (first | assumption | wp_step))
  refine codeAny_mono (code_set_led1 (.ref l) (E := E) (Q₁ := fun obj s₁ => obj = .ref s.heap.objs.size ∧ s₁ = { s with heap := s.heap.push (newSet w) }) ⟨rfl, rfl⟩) fun r s₁ hr => ?_
  cases r with
  | error e => exact hr
  | ok fl =>
  cases fl with
  | next => exact hr.elim
  | brk => exact hr.elim
  | cont => exact hr.elim
  | ret obj =>
  obtain ⟨rfl, rfl⟩ := hr
  have at0 : (s.heap.push (newSet w)).get? s.heap.objs.size = some (newSet w) := Heap.get?_push_size _ rfl
  have hT : Shared.TypeIs { s with heap := s.heap.push (newSet w) } (.ref s.heap.objs.size) "set" := ⟨_, at0, rfl⟩
  have hli := F.called_set.init.lookup
  have hbi := F.called_set.init.bind (.ref s.heap.objs.size)
  repeat (any_goals (first | assumption | wp_step))
  refine codeAny_mono (codeAny_call_builtin (R := wants (SetMade w all s) E) F.called_set.init.plain F.entry_set_init (check_set_init_1 hT ?_)) fun r₂ s₂ hr₂ => ?_
  · -- the walk
    have size1 : (s.heap.push (newSet w)).objs.size = s.heap.objs.size + 1 := Heap.size_push ..
    have hh3 : A.in1.in1.in1.handled = none := by simp [hh]
    have fin : ∀ (wr : List Addr) (G : Array GenState → Array GenState → Prop) (h1 : Heap), (∀ b o, s.heap.get? b = some o → b ∉ s.heap.objs.size :: wr) → (∀ b o, s.heap.get? b = some o → h1.get? b = some o) → (∀ g g', G g g' → g' = g) →
        ∀ s' ks, Moved (s.heap.objs.size :: wr) G { s with heap := h1 } s' → Mems ks all → KSet w s'.heap s.heap.objs.size ks → SetMade w all s .none s' := fun wr G h1 hw hk hG s' ks hm me hS => by
      obtain ⟨h', g2, d', tk', os'⟩ := s'
      have eg : g2 = s.gens := hG _ _ hm.gens
      have ed : d' = s.drawn := hm.drawn
      have eo : os' = s.os := hm.os
      subst eg; subst ed; subst eo
      exact ⟨rfl, h', tk', ks, rfl, me, hS, fun b o e => hm.heap b o (hw b o e) (hk b o e)⟩
    rcases ht with ⟨rfl, hl⟩ | ⟨rfl, hl⟩
    · obtain ⟨ol, hol, hcl, nl, hdl⟩ := hl
      obtain ⟨ocls, odict, odata, oslots⟩ := ol
      simp only at hcl hdl
      subst hcl; subst hdl
      have hol' : (s.heap.push (newSet w)).get? l = some { cls := .type "list", dict := odict, data := .seq items nl, slots := oslots } := Heap.get?_push_of_some _ hol
      have q1 := F.sub_list_set
      have q2 := F.sub_list_frozenset
      have q3 : (Value.type "list" == Value.type "dict") = false := by decide
      have hl1 : (s.heap.push (newSet w)).IsList l items := ⟨_, hol', rfl, nl, rfl⟩
      have hlS : l < s.heap.objs.size := Heap.lt_size hol
      unfold Builtin.«set.__init__» noKeywords Builtin.Frozenset.updateFrom
      generalize hPI : pyIter = PI
      wp_walk
      subst hPI
      refine wpAny_pyIter_list hl1 (wpAny_bind (wpAny_runValue ?_))
      have neI : l ≠ (s.heap.push (newSet w)).objs.size := by rw [size1]; exact Nat.ne_of_lt (Nat.lt_succ_of_lt hlS)
      have nS : s.heap.objs.size ∉ [(s.heap.push (newSet w)).objs.size, l] := by
        rw [size1]; simp only [List.mem_cons, List.not_mem_nil, or_false, not_or]
        exact ⟨Nat.ne_of_lt (Nat.lt_succ_self _), Nat.ne_of_gt hlS⟩
      refine update_keys ((Walks.list hh3 _ l neI items).toS) s.heap.objs.size nS all hlen room hit (items.size - 0) 0 _ (by omega) (Nat.zero_le _) ⟨⟨_, Heap.get?_push_size _ rfl, rfl, rfl⟩, (hl1.push _)⟩
        ⟨[], Nat.le_refl 0, fun k => by simp, kset_new (Heap.get?_push_of_some _ at0)⟩ fun s' ks hm me hS => ?_
      show wpAny _ _ _ _ _ _
      refine wpAny_pure ?_
      show wpAny _ _ (ret Value.none) _ _ _
      refine wpAny_pure (fin _ _ _ (fun b o e => ?_) (fun b o e => Heap.get?_push_of_some _ (Heap.get?_push_of_some _ e)) (fun _ _ z => z) s' ks hm me hS)
      have hb := Heap.lt_size e
      simp only [List.mem_cons, List.not_mem_nil, or_false, not_or]
      rw [size1]
      exact ⟨Nat.ne_of_lt hb, Nat.ne_of_lt (Nat.lt_succ_of_lt hb)⟩
    · obtain ⟨ol, hol, hcl, nl, hdl⟩ := hl
      obtain ⟨ocls, odict, odata, oslots⟩ := ol
      simp only at hcl hdl
      subst hcl; subst hdl
      have hol' : (s.heap.push (newSet w)).get? l = some { cls := .type "tuple", dict := odict, data := .seq items nl, slots := oslots } := Heap.get?_push_of_some _ hol
      have q1 := F.sub_tuple_set
      have q2 := F.sub_tuple_frozenset
      have q3 : (Value.type "tuple" == Value.type "dict") = false := by decide
      have hl1 : (s.heap.push (newSet w)).IsTuple l items := ⟨_, hol', rfl, nl, rfl⟩
      have hlS : l < s.heap.objs.size := Heap.lt_size hol
      unfold Builtin.«set.__init__» noKeywords Builtin.Frozenset.updateFrom
      generalize hPI : pyIter = PI
      wp_walk
      subst hPI
      refine wpAny_pyIter_tuple hl1 (wpAny_bind (wpAny_runValue ?_))
      have neI : l ≠ (s.heap.push (newSet w)).objs.size := by rw [size1]; exact Nat.ne_of_lt (Nat.lt_succ_of_lt hlS)
      have nS : s.heap.objs.size ∉ [(s.heap.push (newSet w)).objs.size, l] := by
        rw [size1]; simp only [List.mem_cons, List.not_mem_nil, or_false, not_or]
        exact ⟨Nat.ne_of_lt (Nat.lt_succ_self _), Nat.ne_of_gt hlS⟩
      refine update_keys ((Walks.tuple hh3 _ l neI items).toS) s.heap.objs.size nS all hlen room hit (items.size - 0) 0 _ (by omega) (Nat.zero_le _) ⟨⟨_, Heap.get?_push_size _ rfl, rfl, rfl⟩, (hl1.push _)⟩
        ⟨[], Nat.le_refl 0, fun k => by simp, kset_new (Heap.get?_push_of_some _ at0)⟩ fun s' ks hm me hS => ?_
      show wpAny _ _ _ _ _ _
      refine wpAny_pure ?_
      show wpAny _ _ (ret Value.none) _ _ _
      refine wpAny_pure (fin _ _ _ (fun b o e => ?_) (fun b o e => Heap.get?_push_of_some _ (Heap.get?_push_of_some _ e)) (fun _ _ z => z) s' ks hm me hS)
      have hb := Heap.lt_size e
      simp only [List.mem_cons, List.not_mem_nil, or_false, not_or]
      rw [size1]
      exact ⟨Nat.ne_of_lt hb, Nat.ne_of_lt (Nat.lt_succ_of_lt hb)⟩
  · cases r₂ with
    | error e => exact hr₂
    | ok fl₂ =>
      cases fl₂ with
      | ret r =>
        obtain ⟨rfl, h', tk, ks, rfl, me, hS', hk'⟩ := hr₂
        repeat (any_goals (first | assumption | wp_step))
        exact hq _ _ _ me hS' hk'
      | _ => exact hr₂.elim
end
end L2
end

section
set_option linter.all false
set_option maxRecDepth 100000
set_option maxHeartbeats 4000000
set_option autoImplicit false
/-! Mi: len(set(..)), sorted(set(..)) of whole numbers, of texts. -/
namespace Mi
open PySem L2 PySem.W PyProof.Rows
variable [Cls]
theorem keys_back : ∀ {ks : List Key} {all : List K2}, (∀ k ∈ ks, k ∈ all.map kOf) → ∃ js : List K2, ks = js.map kOf ∧ ∀ j ∈ js, j ∈ all
  | [], _, _ => ⟨[], rfl, fun _ h => by cases h⟩
  | k :: ks, all, h => by
    obtain ⟨js, e, hj⟩ := keys_back (ks := ks) (all := all) fun k hk => h k (List.mem_cons_of_mem _ hk)
    obtain ⟨j, hj1, e1⟩ := List.mem_map.mp (h k List.mem_cons_self)
    refine ⟨j :: js, by rw [List.map_cons, e1, e], fun i hi => ?_⟩
    rcases List.mem_cons.mp hi with rfl | hi
    · exact hj1
    · exact hj i hi
/-- the same keys, each once -/
def Just (js all : List K2) : Prop := js.Nodup ∧ ∀ k, k ∈ js ↔ k ∈ all
theorem just_of {ks : List Key} {all : List K2} (nd : ks.Nodup) (m : Mems ks (all.map kOf)) : ∃ js, ks = js.map kOf ∧ Just js all := by
  obtain ⟨js, rfl, h⟩ := keys_back fun k hk => (m k).mp hk
  refine ⟨js, rfl, List.Pairwise.of_map kOf (fun a b h e => h (congrArg kOf e)) nd, fun k => ⟨h k, fun hk => ?_⟩⟩
  have := (m (kOf k)).mpr (List.mem_map_of_mem hk)
  obtain ⟨j, hj, e⟩ := List.mem_map.mp this
  rw [← kOf_inj.mp e]
  exact hj
/-- all of one kind -/
def oneKind (all : List K2) : Bool := oneKd all
theorem kV_d : ∀ k : K2, toP (K2.d k) = match k with | .ki i => .int i | .ks c => .str (tx c) := fun k => by cases k <;> rfl
section
variable {X : Cx} {pins : List (Addr × Obj)} {σ : L2.St} {H : Hp} {s : Shared} {Q : VK}
theorem keyIs_vals {k : K2} {u : Value} (h : keyIs (kOf k) u = true) : RelV (kV (kOf k)) u := by
  cases k with
  | ki i =>
    obtain ⟨t, e⟩ := Value.isInt_shape (k := i) (v := u) h
    exact ⟨t, e⟩
  | ks c =>
    obtain ⟨t, e⟩ := Value.isStrOf_shape (x := tx c) (v := u) h
    exact ⟨t, e⟩
theorem vals_keys : ∀ {js : List K2} {us : List Value}, Paired (fun (k : K2) u => keyIs (kOf k) u = true) js us → Vals (js.map fun k => kV (kOf k)) us
  | _, _, .nil => .nil
  | _, _, .cons r t => .cons (keyIs_vals r) (vals_keys t)
theorem relV_key {k : K2} {u : Value} (h : RelV (kV (kOf k)) u) : keyIs (kOf k) u = true := by
  cases k with
  | ki i => obtain ⟨t, rfl⟩ := h; exact keyIs_int i t
  | ks c => obtain ⟨t, rfl⟩ := h; exact keyIs_str (tx c) t
theorem paired_map {α β γ : Type} {F : γ → β → Prop} {g : α → γ} : ∀ {l : List α} {m : List β}, Paired F (l.map g) m → Paired (fun a b => F (g a) b) l m
  | [], _, .nil => .nil
  | _ :: _, _, .cons r t => .cons r (paired_map t)
theorem paired_mapr {α β γ : Type} {F : α → γ → Prop} {G : α → β → Prop} {f : γ → β} (h : ∀ a c, F a c → G a (f c)) : ∀ {l : List α} {m : List γ}, Paired F l m → Paired G l (m.map f)
  | _, _, .nil => .nil
  | _, _, .cons r t => .cons (h _ _ r) (paired_mapr h t)
theorem each_of_paired {α β : Type} {F : α → β → Prop} {G : β → α → Prop} (h : ∀ a b, F a b → G b a) : ∀ {l : List α} {m : List β}, Paired F l m → EachIs G m l
  | _, _, .nil => .nil
  | _, _, .cons r t => .cons (h _ _ r) (each_of_paired h t)
theorem paired_of_each {α β : Type} {F : α → β → Prop} {G : β → α → Prop} (h : ∀ a b, G b a → F a b) {l : List α} {m : List β} (e : EachIs G m l) : Paired F l m := by
  induction e with
  | nil => exact .nil
  | cons r _ ih => exact .cons (h _ _ r) ih
/-- sorted of such a set -/
theorem sorted_kset {a : Addr} {js all : List K2} (hc : X.calm = true) (hu : X.A.units + 100 < cLine) (I : Inv X pins σ H s) (R : KSet X.w s.heap a (js.map kOf)) (hj : Just js all) (ok : oneKind all = true)
    (q : ∀ (p : Addr) (js' : List K2), H p = none → js'.Perm js → js'.Pairwise (fun x y => leD (K2.d x) (K2.d y) = true) → Q (.ref p) (upd H p (.lst (js'.map fun k => kV (kOf k))))) :
    wpAny (model X.prog X.w) X.A (call (.builtin "sorted") [.ref a]) (EP X pins σ Q) X.xe s := by
  obtain ⟨o, es, ep, t, ho, hex, hd, pr, nd, few, fit, ris, led⟩ := R
  have size0 : es.toList.length = js.length := by rw [← pr.length, List.length_map]
  have lenb : js.length ≤ sizeLine := by
    rw [← size0, Array.length_toList]
    exact fits_of_scanBound few
  refine Calls.call_function_entry kind_sorted plain_sorted entry_sorted (args_sorted1 _) ?_
  unfold Builtin.«sorted»
  refine wpAny_bind (m := checkCount "sorted" 1 1 _) (wpAny_pure ?_)
  refine wpAny_bind (collect_set (A := X.A.in1) (I.ok.hd hc) ⟨o, ho, hex.1, hd⟩ fit few ris led fun s1 vs k1 hz g1 o1 pm => ?_)
  -- the values, in whatever order
  have pv : Paired (fun (k : K2) (u : Value) => keyIs (kOf k) u = true) js (es.toList.map (·.2)) := paired_mapr (F := fun (k : K2) (e : Int × Value) => EntK X.w (kOf k) e) (fun _ _ h => h.1) (paired_map pr)
  obtain ⟨j2, pj, p2⟩ := paired_perm pm.symm pv
  have len2 : vs.length = js.length := by rw [pm.length_eq, List.length_map, size0]
  have okind : ∀ k ∈ j2, k ∈ all := fun k hk => (hj.2 k).mp (pj.mem_iff.mpr hk)
  refine wpAny_bind (wpAny_newList ?_ (by rw [len2]; exact lenb))
  have hoL : (s1.heap.push (seqObj "list" vs.toArray 0)).get? s1.heap.objs.size = some (seqObj "list" vs.toArray 0) := Heap.get?_push_size _ rfl
  have rd : ∀ h : Heap, EachIs (fun u (k : K2) => ∃ as, Reads h u (toP (K2.d k)) as) vs j2 := fun h => each_of_paired (fun k u hk => by
    have := keyIs_vals hk
    cases k with
    | ki i => obtain ⟨t, rfl⟩ := this; exact ⟨_, Reads.int i t⟩
    | ks c => obtain ⟨t, rfl⟩ := this; exact ⟨_, Reads.str (tx c) t⟩) p2
  have kinds : (∀ k ∈ all, ∃ i, k = .ki i) ∨ ∀ k ∈ all, ∃ c, k = .ks c := by
    unfold oneKind oneKd at ok
    rw [Bool.or_eq_true, List.all_eq_true, List.all_eq_true] at ok
    rcases ok with ok | ok
    · refine .inl fun k hk => ?_
      have := ok k hk
      cases k with
      | ki i => exact ⟨i, rfl⟩
      | ks c => cases this
    · refine .inr fun k hk => ?_
      have := ok k hk
      cases k with
      | ki i => cases this
      | ks c => exact ⟨c, rfl⟩
  have al : AllAlike (j2.map fun k => toP (K2.d k)) := fun d hd e he => by
    obtain ⟨x, hx, rfl⟩ := List.mem_map.mp hd
    obtain ⟨y, hy, rfl⟩ := List.mem_map.mp he
    rcases kinds with z | z
    · obtain ⟨i, rfl⟩ := z x (okind x hx)
      obtain ⟨j, rfl⟩ := z y (okind y hy)
      rfl
    · obtain ⟨i, rfl⟩ := z x (okind x hx)
      obtain ⟨j, rfl⟩ := z y (okind y hy)
      rfl
  have sb : PySem.W.Sortable (j2.map fun k => toP (K2.d k)) := .inr fun d hd => by
    obtain ⟨x, hx, rfl⟩ := List.mem_map.mp hd
    cases x <;> exact ⟨nofun, fun _ => nofun⟩
  have ub : ∀ d ∈ j2.map (fun k => toP (K2.d k)), (X.A.in1.in1).units + d.depth < cLine := fun d hd => by
    obtain ⟨x, hx, rfl⟩ := List.mem_map.mp hd
    have h0 : (X.A.in1.in1).units = X.A.units + 2 := rfl
    have h1 : (toP (K2.d x)).depth ≤ 1 := by cases x <;> simp [K2.d, toP, PyData.depth]
    omega
  refine wpAny_bind (wpAny_holding (wpAny_call_entry slot_list_sort ⟨_, hoL, rfl⟩ entry_list_sort ?body (args_list_sort _)))
  case body =>
    refine list_sort_vals (κ := dataKind _ (j2.map fun k => toP (K2.d k))) (s := { s1 with heap := s1.heap.push (seqObj "list" vs.toArray 0) }) hoL
      (SortsAt.data (s := { s1 with heap := sortingHeap (s1.heap.push (seqObj "list" vs.toArray 0)) s1.heap.objs.size vs }) (each_map (R := fun v d => ∃ as, Reads (sortingHeap (s1.heap.push (seqObj "list" vs.toArray 0)) s1.heap.objs.size vs) v d as) (fun k => toP (K2.d k)) (rd _)) al sb ub) (by rw [len2]; exact lenb) ⟨_, rfl, ?_⟩
    have ee := sortVals_data false (R := fun u (k : K2) => keyIs (kOf k) u = true) (enc := fun k : K2 => toP (K2.d k)) (each_of_paired (fun _ _ h => h) p2) (rd (sortingHeap (s1.heap.push (seqObj "list" vs.toArray 0)) s1.heap.objs.size vs)) al
    generalize hout : sortVals (dataKind (sortingHeap (s1.heap.push (seqObj "list" vs.toArray 0)) s1.heap.objs.size vs) (j2.map fun k => toP (K2.d k))) false vs vs = out at ee ⊢
    have p3 := paired_of_each (F := fun (k : K2) u => keyIs (kOf k) u = true) (fun _ _ h => h) ee
    have rv := vals_keys p3
    obtain ⟨c, hcs⟩ := sortedHeap_at (vs := vs) (out := out.toArray) hoL
    have old : ∀ b u, s.heap.get? b = some u → (sortedHeap (s1.heap.push (seqObj "list" vs.toArray 0)) s1.heap.objs.size vs out.toArray).get? b = some u := fun b u e => by
      have q := k1 b u e
      have hlt := Heap.lt_size q
      rw [sortedHeap_old (Nat.ne_of_lt hlt) (by rw [size_push']; exact Nat.lt_succ_of_lt hlt)]
      exact Heap.get?_push_of_some _ q
    have hn : H s1.heap.objs.size = none := I.hok.fresh hz
    have J : Inv X pins σ (upd H s1.heap.objs.size (.lst ((j2.mergeSort (dataLe false fun k => toP (K2.d k))).map fun k => kV (kOf k)))) { s with heap := sortedHeap (s1.heap.push (seqObj "list" vs.toArray 0)) s1.heap.objs.size vs out.toArray, gens := s1.gens, drawn := s1.drawn, toks := s1.toks } :=
      I.call (ch := []) (Un.laid old hz hn) (I.hok.laid old hz ⟨by rw [List.length_map, List.length_mergeSort, ← pj.length_eq]; exact lenb, out, c, rv, hcs⟩) (by rw [g1]; exact I.bare) (fun _ z => nomatch z)
    have e : ({ s1 with heap := sortedHeap (s1.heap.push (seqObj "list" vs.toArray 0)) s1.heap.objs.size vs out.toArray } : Shared) = { s with heap := sortedHeap (s1.heap.push (seqObj "list" vs.toArray 0)) s1.heap.objs.size vs out.toArray, gens := s1.gens, drawn := s1.drawn, toks := s1.toks } := by
      cases s1
      cases s
      cases o1
      rfl
    refine wpAny_pure ⟨_, rfl, ?_⟩
    show EP X pins σ Q (.ref s1.heap.objs.size) ({ s1 with heap := sortedHeap (s1.heap.push (seqObj "list" vs.toArray 0)) s1.heap.objs.size vs out.toArray } : Shared)
    rw [e]
    refine ⟨.ref s1.heap.objs.size, _, J, rfl, q _ _ hn ((List.mergeSort_perm _ _).trans pj.symm) ?_⟩
    have tot := sortLe_total (PyProof.Rows.listOrd PyProof.Rows.itemOrd) false (fun k : K2 => keyToks (toP (K2.d k)))
    exact (List.pairwise_mergeSort (le := dataLe false fun k : K2 => toP (K2.d k)) (fun a b c h1 h2 => tot.trans a b c h1 h2) (fun a b => by rcases tot.total a b with h | h <;> simp [dataLe, h]) j2)
end
end Mi
end

section
set_option linter.all false
set_option maxRecDepth 100000
set_option maxHeartbeats 4000000
set_option autoImplicit false
/-! Mi: the rules for sorted(set(..)), len(set(..)). -/
namespace Mi
open PySem L2 PySem.W PyProof.Rows
variable [Cls]
theorem mem_dedK {k : K2} : ∀ {l : List K2}, k ∈ dedK l ↔ k ∈ l
  | [] => Iff.rfl
  | j :: r => by
    unfold dedK
    split
    · rename_i h
      rw [List.any_eq_true] at h
      obtain ⟨i, hi, e⟩ := h
      rw [decide_eq_true_eq] at e
      subst e
      rw [mem_dedK (l := r), List.mem_cons]
      exact ⟨.inr, fun h => h.elim (fun e => e ▸ hi) id⟩
    · rw [List.mem_cons, List.mem_cons, mem_dedK (l := r)]
theorem dedK_nodup : ∀ l : List K2, (dedK l).Nodup
  | [] => List.nodup_nil
  | j :: r => by
    unfold dedK
    split
    · exact dedK_nodup r
    · rename_i h
      refine List.nodup_cons.mpr ⟨fun hj => h ?_, dedK_nodup r⟩
      rw [List.any_eq_true]
      exact ⟨j, mem_dedK.mp hj, decide_eq_true rfl⟩
theorem Just.perm {js all : List K2} (h : Just js all) : js.Perm (dedK all) := (List.perm_ext_iff_of_nodup h.1 (dedK_nodup all)).mpr fun k => (h.2 k).trans mem_dedK.symm
theorem K2.of_d {d : D} {k : K2} (h : K2.of d = some k) : d = K2.d k := by
  cases d <;> simp [K2.of] at h <;> subst h <;> rfl
theorem keysD_rps {H : Hp} {mt : Addr → Prop} {ms : List Addr} : ∀ {ds : List D} {vs : List V} {ks : List K2}, Rps H mt ms ds vs → keysD ds = some ks → vs = ks.map (fun k => kV (kOf k)) ∧ ds = ks.map K2.d
  | [], vs, ks, r, e => by
    simp only [Rps] at r
    simp only [keysD, Option.some.injEq] at e
    subst r; subst e
    exact ⟨rfl, rfl⟩
  | d :: ds, vs, ks, r, e => by
    obtain ⟨v, us, rfl, h1, r⟩ := r.uncons
    rw [keysD] at e
    split at e
    · rename_i k ks' e1 e2
      cases e
      obtain ⟨q1, q2⟩ := keysD_rps r e2
      rw [K2.of_v e1 h1, q1, List.map_cons, List.map_cons, ← q2, K2.of_d e1]
      exact ⟨rfl, rfl⟩
    · cases e
theorem oneKd_kinds {all : List K2} (ok : oneKd all = true) : (∀ k ∈ all, ∃ i, k = .ki i) ∨ ∀ k ∈ all, ∃ c : Cs, k = .ks c ∧ (c.all fun x => Nat.blt x 1114112) = true := by
  unfold oneKd at ok
  rw [Bool.or_eq_true, List.all_eq_true, List.all_eq_true] at ok
  rcases ok with ok | ok
  · refine .inl fun k hk => ?_
    have := ok k hk
    cases k with
    | ki i => exact ⟨i, rfl⟩
    | ks c => cases this
  · refine .inr fun k hk => ?_
    have := ok k hk
    cases k with
    | ki i => cases this
    | ks c => exact ⟨c, rfl, this⟩
theorem code_anti {a b : Cs} (h1 : codeLt b a = false) (h2 : codeLt a b = false) : a = b := by
  rw [codeLt_eq, decide_eq_false_iff_not] at h1 h2
  exact List.le_antisymm h1 h2
theorem one_sortable {all js : List K2} (ok : oneKd all = true) (hj : ∀ k ∈ js, k ∈ all) : sortable (js.map K2.d) = true := by
  unfold sortable
  simp only [Bool.and_eq_true, Bool.or_eq_true, List.all_eq_true]
  rcases oneKd_kinds ok with z | z
  · refine ⟨⟨fun d hd => ?_, fun d hd e he => ?_⟩, .inr fun d hd => ?_⟩
    · obtain ⟨x, hx, rfl⟩ := List.mem_map.mp hd
      obtain ⟨i, rfl⟩ := z x (hj x hx)
      rfl
    · obtain ⟨x, hx, rfl⟩ := List.mem_map.mp hd
      obtain ⟨y, hy, rfl⟩ := List.mem_map.mp he
      obtain ⟨i, rfl⟩ := z x (hj x hx)
      obtain ⟨j, rfl⟩ := z y (hj y hy)
      simp [K2.d, D.alike]
    · obtain ⟨x, hx, rfl⟩ := List.mem_map.mp hd
      obtain ⟨i, rfl⟩ := z x (hj x hx)
      rfl
  · refine ⟨⟨fun d hd => ?_, fun d hd e he => ?_⟩, .inr fun d hd => ?_⟩
    · obtain ⟨x, hx, rfl⟩ := List.mem_map.mp hd
      obtain ⟨i, rfl, hi⟩ := z x (hj x hx)
      exact hi
    · obtain ⟨x, hx, rfl⟩ := List.mem_map.mp hd
      obtain ⟨y, hy, rfl⟩ := List.mem_map.mp he
      obtain ⟨i, rfl, _⟩ := z x (hj x hx)
      obtain ⟨j, rfl, _⟩ := z y (hj y hy)
      simp [K2.d, D.alike]
    · obtain ⟨x, hx, rfl⟩ := List.mem_map.mp hd
      obtain ⟨i, rfl, _⟩ := z x (hj x hx)
      rfl
theorem one_anti {all : List K2} (ok : oneKd all = true) {a b : K2} (ha : a ∈ all) (hb : b ∈ all) (h1 : leD (K2.d a) (K2.d b) = true) (h2 : leD (K2.d b) (K2.d a) = true) : a = b := by
  have so := one_sortable (js := all) ok fun _ h => h
  obtain ⟨p1, p2, _⟩ := sortable_all so
  have ma := List.mem_map_of_mem (f := K2.d) ha
  have mb := List.mem_map_of_mem (f := K2.d) hb
  rw [leD_eq (p1 _ ma) (p1 _ mb) (p2 _ mb _ ma), Bool.not_eq_true'] at h1
  rw [leD_eq (p1 _ mb) (p1 _ ma) (p2 _ ma _ mb), Bool.not_eq_true'] at h2
  rcases oneKd_kinds ok with z | z
  · obtain ⟨i, rfl⟩ := z a ha
    obtain ⟨j, rfl⟩ := z b hb
    simp only [K2.d, D.lt, decide_eq_false_iff_not] at h1 h2
    have : i = j := by omega
    rw [this]
  · obtain ⟨i, rfl, _⟩ := z a ha
    obtain ⟨j, rfl, _⟩ := z b hb
    simp only [K2.d, D.lt] at h1 h2
    rw [code_anti h1 h2]
/-- such a list is the sorted one -/
theorem one_sorted {all js : List K2} (ok : oneKd all = true) (p : js.Perm (dedK all)) (h : js.Pairwise fun x y => leD (K2.d x) (K2.d y) = true) : sortD ((dedK all).map K2.d) = js.map K2.d := by
  have md : ∀ k ∈ dedK all, k ∈ all := fun k => mem_dedK.mp
  rw [sortD_merge (one_sortable ok md)]
  have e1 : ((dedK all).map K2.d).mergeSort leD = ((dedK all).mergeSort fun x y => leD (K2.d x) (K2.d y)).map K2.d := by
    refine (List.map_mergeSort (r := fun x y => leD (K2.d x) (K2.d y)) (s := leD) fun a _ b _ => rfl).symm
  rw [e1]
  congr 1
  have tot := leD_total
  refine List.Perm.eq_of_pairwise (le := fun x y => leD (K2.d x) (K2.d y) = true) (fun a b ha hb h1 h2 => one_anti ok ?_ ?_ h1 h2) (List.pairwise_mergeSort (le := fun x y => leD (K2.d x) (K2.d y)) (fun a b c h1 h2 => tot.trans _ _ _ h1 h2) (fun a b => by rcases tot.total (K2.d a) (K2.d b) with h | h <;> simp [h]) _) h ((List.mergeSort_perm _ _).trans p.symm)
  · exact md _ ((List.mergeSort_perm _ _).mem_iff.mp ha)
  · exact md _ (p.mem_iff.mp hb)
section
variable {X : Cx} {XR : XRel} {C : Nat → List D → Sto → Rs D} {E : WX}
def tSortSet (K : PySem.W.Frag) (t : TE) : TE := fun σ H Q => t σ H fun x H1 => ∃ (l : Addr) (all : List K2), x = .ref l ∧ (SqL K H1 l (all.map fun k => kV (kOf k)) ∨ SqT K H1 l (all.map fun k => kV (kOf k))) ∧ all.length + 1 < scanBound ∧ oneKd all = true ∧
  ∀ (p : Addr) (js : List K2), H1 p = none → js.Perm (dedK all) → (js.Pairwise fun x y => leD (K2.d x) (K2.d y) = true) → Q (.ref p) (upd H1 p (.lst (js.map fun k => kV (kOf k))))
def tLenSet2 (K : PySem.W.Frag) (t : TE) : TE := fun σ H Q => t σ H fun x H1 => ∃ (l : Addr) (all : List K2), x = .ref l ∧ (SqL K H1 l (all.map fun k => kV (kOf k)) ∨ SqT K H1 l (all.map fun k => kV (kOf k))) ∧ all.length + 1 < scanBound ∧ Q (.int (dedK all).length) H1
/-- set(a), a list or tuple of such keys -/
theorem set_made {pins : List (Addr × Obj)} {σ : L2.St} {H1 : Hp} {s1 : Shared} {l : Addr} {all : List K2} {Q : Value → Shared → Prop} (hc : X.calm = true) (I1 : Inv X pins σ H1 s1) (hq : SqL X.K H1 l (all.map fun k => kV (kOf k)) ∨ SqT X.K H1 l (all.map fun k => kV (kOf k))) (room : all.length + 1 < scanBound)
    (h : ∀ (h' : Heap) (tk : Nat) (js : List K2), Just js all → KSet X.w h' s1.heap.objs.size (js.map kOf) → Inv X pins σ H1 { s1 with heap := h', toks := tk } → Q (.ref s1.heap.objs.size) { s1 with heap := h', toks := tk }) :
    wpAny (model X.prog X.w) X.A (call (.type "set") [.ref l]) Q X.xe s1 := by
  have main : ∀ (its : List Value), Vals (all.map fun k => kV (kOf k)) its → (s1.heap.IsList l its.toArray ∨ s1.heap.IsTuple l its.toArray) → wpAny (model X.prog X.w) X.A (call (.type "set") [.ref l]) Q X.xe s1 := fun its r pl => by
    have hl : its.length = all.length := by rw [← r.length, List.length_map]
    have go : ∀ tn, ((tn = "list" ∧ s1.heap.IsList l its.toArray) ∨ (tn = "tuple" ∧ s1.heap.IsTuple l its.toArray)) → wpAny (model X.prog X.w) X.A (call (.type "set") [.ref l]) Q X.xe s1 := fun tn ht => by
      refine set_of_seq (tn := tn) (all.map kOf) (I1.ok.hd hc) ht (by rw [List.size_toArray, List.length_map, hl]) (fun i v hv => ?_) (by rw [List.length_map]; exact room) fun h' tk ks me R hk => ?_
      · rw [List.getElem?_toArray] at hv
        have hi : i < all.length := by rw [← hl]; exact (List.getElem?_eq_some_iff.mp hv).1
        obtain ⟨u, hu, rv⟩ := r.get (i := i) (x := kV (kOf all[i])) (by simp [hi])
        rw [hv] at hu
        cases hu
        exact ⟨kOf all[i], by simp [hi], relV_key rv⟩
      · have nd : ks.Nodup := by
          obtain ⟨_, _, _, _, _, _, _, _, nd, _⟩ := R
          exact nd
        obtain ⟨js, rfl, hj⟩ := just_of nd me
        exact h h' tk js hj R (I1.kept fun b o e => hk b o e)
    rcases pl with pl | pl
    · exact go "list" (.inl ⟨rfl, pl⟩)
    · exact go "tuple" (.inr ⟨rfl, pl⟩)
  rcases hq with hq | hq
  · obtain ⟨its, r, pl, _⟩ := I1.list hq
    exact main its r (.inl pl.isList)
  · obtain ⟨its, r, pl, _⟩ := I1.tuple hq
    exact main its r (.inr pl)
theorem pe_sortset {a : Expr} {ta : TE} {p p2 q pos : Pos} (hc : X.calm = true) (hu : X.A.units + 100 < cLine) (hg : Gl X "sorted") (hm : X.mg "sorted" = none) (hg2 : Gl X "set") (hm2 : X.mg "set" = none) (ha : PE X a ta) (na : notStar a = true) :
    PE X (.Call (.Name "sorted" p) [.Call (.Name "set" p2) [a] [] q] [] pos) (tSortSet X.K ta) := by
  refine ⟨fun pins s σ H Q I h => ?_⟩
  refine Call_ (ld_blt I hg hm PyProof.Rows.boot_sorted ?_)
  refine PyProof.Rows.callWith_builtin1 (PyProof.Rows.args_cons ?_ rfl) rfl rfl
  refine Call_ (ld_blt I hg2 hm2 PyProof.Rows.boot_set ?_)
  refine PyProof.Rows.callWith_type1 (PyProof.Rows.args_cons (thn (ha.run pins s σ H _ I h) fun v s1 ⟨x, H1, I1, r1, q1⟩ => PyProof.Rows.args_nil ?_) (starEach_cons na)) (starEach_cons na) rfl
  obtain ⟨l, all, rfl, hq, hz, ok, q1⟩ := q1
  cases r1
  refine set_made hc I1 hq hz fun h' tk js hj R I2 => ?_
  refine PyProof.Rows.args_nil ?_
  exact sorted_kset hc hu I2 R hj ok fun p js' hp hpm hpw => q1 p js' hp (hpm.trans hj.perm) hpw
theorem pe_lenset {a : Expr} {ta : TE} {p p2 q pos : Pos} (hc : X.calm = true) (hg : Gl X "len") (hm : X.mg "len" = none) (hg2 : Gl X "set") (hm2 : X.mg "set" = none) (ha : PE X a ta) (na : notStar a = true) :
    PE X (.Call (.Name "len" p) [.Call (.Name "set" p2) [a] [] q] [] pos) (tLenSet2 X.K ta) := by
  refine ⟨fun pins s σ H Q I h => ?_⟩
  refine Call_ (ld_blt I hg hm boot_len ?_)
  refine PyProof.Rows.callWith_builtin1 (PyProof.Rows.args_cons ?_ rfl) rfl rfl
  refine Call_ (ld_blt I hg2 hm2 PyProof.Rows.boot_set ?_)
  refine PyProof.Rows.callWith_type1 (PyProof.Rows.args_cons (thn (ha.run pins s σ H _ I h) fun v s1 ⟨x, H1, I1, r1, q1⟩ => PyProof.Rows.args_nil ?_) (starEach_cons na)) (starEach_cons na) rfl
  obtain ⟨l, all, rfl, hq, hz, q1⟩ := q1
  cases r1
  refine set_made hc I1 hq hz fun h' tk js hj R I2 => ?_
  refine PyProof.Rows.args_nil ?_
  obtain ⟨o, es, ep, t, ho, hex, hd, pr, nd, few, fit, ris, led⟩ := R
  have size0 : es.size = (dedK all).length := by
    have h1 := pr.length
    have h2 : es.toList.length = es.size := Array.length_toList
    have h3 : (js.map kOf).length = js.length := List.length_map ..
    have h4 := hj.perm.length_eq
    omega
  refine call_len_set ho hex hd fit (by have : es.size < 4096 := few; omega) ⟨.int (dedK all).length, H1, I2.tok _, ⟨_, by rw [size0]⟩, q1⟩
theorem se_sortset {x : Mi.E} {a : Expr} {p p2 q pos : Pos} (hc : X.calm = true) (hu : X.A.units + 100 < cLine) (hg : Gl X "sorted") (hm : X.mg "sorted" = none) (hg2 : Gl X "set") (hm2 : X.mg "set" = none) (ha : PE X a (tE XR C E x)) (na : notStar a = true) :
    PE X (.Call (.Name "sorted" p) [.Call (.Name "set" p2) [a] [] q] [] pos) (tE XR C E (.blt .sortset (.cons x .nil))) :=
  PE.imp (pe_sortset hc hu hg hm hg2 hm2 ha na) fun σ H Q ⟨F, ρ, ms, st, sm, er, h⟩ => by
    simp only [evE, evEs, Rs.bind_assoc] at h
    refine ⟨F, ρ, ms, st, sm, er, Pst.bind h fun d s1 v H1 ms1 _ l1 sm1 r1 p1 => ?_⟩
    simp only [Rs.bind, bltD] at p1
    cases hs : seqOf s1 d with
    | none => rw [hs] at p1; exact p1.elim
    | some ds =>
      rw [hs] at p1
      simp only [Option.bind_some] at p1
      cases hk : keysD ds with
      | none => rw [hk] at p1; exact p1.elim
      | some all =>
        rw [hk] at p1
        obtain ⟨l, us, rfl, hq, z, rr⟩ := seqOf_rp (K := X.K) sm1 r1 hs
        obtain ⟨e1, e2⟩ := keysD_rps rr hk
        subst e1
        dsimp only at p1
        split at p1
        · rename_i ok
          rw [Bool.and_eq_true, decide_eq_true_eq] at ok
          refine ⟨l, all, rfl, hq, by show _ < 4096; omega, ok.1, fun p js hp hpm hpw => ?_⟩
          have hlen : js.length ≤ sizeLine := by
            rw [hpm.length_eq]
            have : (dedK all).length ≤ all.length := by
              have key : ∀ l : List K2, (dedK l).length ≤ l.length := fun l => by
                induction l with
                | nil => exact Nat.le_refl _
                | cons j r ih => unfold dedK; split <;> simp <;> omega
              exact key all
            rw [e2, List.length_map] at z
            omega
          have rk : ∀ k ∈ all, Rp H1 (Mt F ms1 s1) ms1 (K2.d k) (kV (kOf k)) := by
            rw [e2] at rr
            have key : ∀ l : List K2, Rps H1 (Mt F ms1 s1) ms1 (l.map K2.d) (l.map fun k => kV (kOf k)) → ∀ k ∈ l, Rp H1 (Mt F ms1 s1) ms1 (K2.d k) (kV (kOf k)) := fun l => by
              induction l with
              | nil => intro _ k hk; cases hk
              | cons j r ih =>
                intro h k hk
                rw [List.map_cons, List.map_cons] at h
                obtain ⟨v, us, e, h1, h⟩ := h.uncons
                cases e
                rcases List.mem_cons.mp hk with rfl | hk
                · exact h1
                · exact ih h k hk
            exact key all rr
          have rj : Rps H1 (Mt F ms1 s1) ms1 (js.map K2.d) (js.map fun k => kV (kOf k)) := by
            have key : ∀ l : List K2, (∀ k ∈ l, k ∈ all) → Rps H1 (Mt F ms1 s1) ms1 (l.map K2.d) (l.map fun k => kV (kOf k)) := fun l => by
              induction l with
              | nil => intro _; exact Rps.nil
              | cons j r ih =>
                intro h
                rw [List.map_cons, List.map_cons]
                exact Rps.cons (rk j (h j List.mem_cons_self)) (ih fun k hk => h k (List.mem_cons_of_mem _ hk))
            exact key js fun k hk => mem_dedK.mp (hpm.mem_iff.mp hk)
          rw [one_sorted ok.1 hpm hpw] at p1
          exact p1 (.ref p) _ ms1 (later_new sm1 hp) (sm1.new hp) (rp_newL sm1 hp rj (by rw [List.length_map]; exact hlen))
        · exact p1.elim
theorem se_lenset {x : Mi.E} {a : Expr} {p p2 q pos : Pos} (hc : X.calm = true) (hg : Gl X "len") (hm : X.mg "len" = none) (hg2 : Gl X "set") (hm2 : X.mg "set" = none) (ha : PE X a (tE XR C E x)) (na : notStar a = true) :
    PE X (.Call (.Name "len" p) [.Call (.Name "set" p2) [a] [] q] [] pos) (tE XR C E (.blt .lenset (.cons x .nil))) :=
  PE.imp (pe_lenset hc hg hm hg2 hm2 ha na) fun σ H Q ⟨F, ρ, ms, st, sm, er, h⟩ => by
    simp only [evE, evEs, Rs.bind_assoc] at h
    refine ⟨F, ρ, ms, st, sm, er, Pst.bind h fun d s1 v H1 ms1 _ l1 sm1 r1 p1 => ?_⟩
    simp only [Rs.bind, bltD] at p1
    cases hs : seqOf s1 d with
    | none => rw [hs] at p1; exact p1.elim
    | some ds =>
      rw [hs] at p1
      simp only [Option.bind_some] at p1
      cases hk : keysD ds with
      | none => rw [hk] at p1; exact p1.elim
      | some all =>
        rw [hk] at p1
        obtain ⟨l, us, rfl, hq, z, rr⟩ := seqOf_rp (K := X.K) sm1 r1 hs
        obtain ⟨e1, e2⟩ := keysD_rps rr hk
        subst e1
        dsimp only at p1
        split at p1
        · rename_i ok
          exact ⟨l, all, rfl, hq, by show _ < 4096; omega, Pst.ok p1 sm1 (by simp only [Rp])⟩
        · exact p1.elim
end
end Mi
end

section
set_option linter.all false
set_option maxRecDepth 100000
set_option maxHeartbeats 4000000
set_option autoImplicit false
/-! Mi: list(d.values()). -/
namespace Mi
open PySem L2 PySem.W PyProof.Rows
variable [Cls]
def tVals (t : TE) : TE := fun σ H Q => t σ H fun x H1 => ∃ (d : Addr) (kvs : List (Key × V)), x = .ref d ∧ Rd H1 d (.dK kvs) ∧ (kvs.length ≤ sizeLine → ∀ p : Addr, H1 p = none → Q (.ref p) (upd H1 p (.lst (kvs.map (·.2)))))
section
variable {X : Cx} {XR : XRel} {C : Nat → List D → Sto → Rs D} {E : WX}
theorem vals_items {kvs : List (Key × V)} {vs : List (Key × Value)} (rel : KV kvs vs) : ∀ its : List Value, its.length = vs.length → (∀ (j : Nat) (v : Value), its[j]? = some v → ∃ k, vs[j]? = some (k, v)) → Vals (kvs.map (·.2)) its := by
  induction rel with
  | nil =>
    intro its hl _
    have : its = [] := List.length_eq_zero_iff.mp hl
    subst this
    exact .nil
  | cons r _ ih =>
    intro its hl h
    cases its with
    | nil => cases hl
    | cons u its =>
      obtain ⟨k, hk⟩ := h 0 u rfl
      simp only [List.getElem?_cons_zero, Option.some.injEq] at hk
      refine .cons ?_ (ih its (by simpa using hl) fun j v hj => ?_)
      · have := r.2
        rw [hk] at this
        exact this
      · obtain ⟨k, hk⟩ := h (j + 1) v (by simpa using hj)
        exact ⟨k, by simpa using hk⟩
theorem pe_vals {e : Expr} {td : TE} {p apos cpos pos : Pos} (hc : X.calm = true) (hg : Gl X "list") (hm : X.mg "list" = none) (he : PE X e td) (hbase : attributeBase e "values" X.env (eval e X.env) = eval e X.env) (hline : (apos.endLine == cpos.line) = true) :
    PE X (.Call (.Name "list" p) [.Call (.Attribute e "values" apos) [] [] cpos] [] pos) (tVals td) := by
  refine ⟨fun pins s σ H Q I h => ?_⟩
  refine Call_ (ld_blt I hg hm PyProof.Rows.boot_list ?_)
  refine PyProof.Rows.callWith_type1 (PyProof.Rows.args_cons ?_ rfl) rfl rfl
  refine wpAny_Call_method (T := "dict") (id := "dict.values") hbase rfl hline F.plainAttrs_dict F.slot_dict_values F.type_dict_values (thn (he.run pins s σ H _ I h) fun u s1 ⟨x, H1, I1, rx, d, kvs, ex, hd, q⟩ => ?_)
  subst ex
  obtain rfl : u = Value.ref d := rx
  obtain ⟨hz, hs, vs, rel, dd⟩ := dk_rd I1.hok hd
  obtain ⟨ep, hm2⟩ := dd.dictAt
  refine ⟨dd.typeIs, dd.mapOf.noDict, ?_⟩
  show wpAny _ _ (callWith cpos (.builtin "dict.values") [.ref d] [] []) _ X.xe s1
  refine method_meetsIn F.slot_dict_values F.entry_dict_values rfl (PySem.evalArgs_none ⟨rfl, dd.typeIs, F.args_dict_values_1 _, _, meets_dict_values (mixKind X.prog X.w) d hs, ⟨vs, dd⟩, PyProof.Rows.args_nil ?_⟩)
  have hl : kvs.length = vs.length := Paired.length rel
  refine kdl_call (kdl_values (knd := mixKind X.prog X.w) (d := d) (r := s1.heap.objs.size) (kvs := vs) (ep := ep)) (I1.ok.hd hc) ⟨⟨_, Heap.get?_push_size _ rfl, rfl, rfl⟩, hm2.push _⟩ (by rw [← hl]; exact hz) fun h' tk acc' c' keep hL hacc => ?_
  have keep' : ∀ b o, s1.heap.get? b = some o → h'.get? b = some o := fun b o eb => keep b o (Heap.get?_push_of_some _ eb)
  have hle : s1.heap.objs.size ≤ (s1.heap.push { cls := .type "dict_values", data := .fields #[.ref d] }).objs.size := by rw [Heap.size_push]; exact Nat.le_succ _
  have rv : Vals (kvs.map (·.2)) acc'.toList := vals_items rel acc'.toList (by rw [Array.length_toList]; exact hacc.1) fun j v hj => hacc.2 j v (by rw [← Array.getElem?_toList]; exact hj)
  refine ⟨.ref _, upd H1 _ (.lst (kvs.map (·.2))), I1.laid (t' := tk) keep' hle ⟨by rw [List.length_map]; exact hz, acc'.toList, c', rv, by simpa using hL⟩, rfl, q hz _ (I1.hok.fresh hle)⟩
theorem zip_snd {α β : Type} : ∀ {l : List α} {m : List β}, l.length = m.length → (l.zip m).map (·.2) = m
  | [], [], _ => rfl
  | a :: l, b :: m, h => by
    rw [List.zip_cons_cons, List.map_cons, zip_snd (by simpa using h)]
  | [], _ :: _, h => by cases h
  | _ :: _, [], h => by cases h
theorem se_vals {e : Expr} {x : Mi.E} {p apos cpos pos : Pos} (hc : X.calm = true) (hg : Gl X "list") (hm : X.mg "list" = none) (he : PE X e (tE XR C E x)) (hn : notCall e = true) (hline : (apos.endLine == cpos.line) = true) :
    PE X (.Call (.Name "list" p) [.Call (.Attribute e "values" apos) [] [] cpos] [] pos) (tE XR C E (.blt .vals (.cons x .nil))) :=
  PE.imp (pe_vals hc hg hm he (attr_plain hn) hline) fun σ H Q ⟨F, ρ, ms, st, sm, er, h⟩ => by
    simp only [evE, evEs, Rs.bind_assoc] at h
    refine ⟨F, ρ, ms, st, sm, er, Pst.bind h fun d s1 v H1 ms1 _ l1 sm1 r1 p1 => ?_⟩
    simp only [Rs.bind, bltD] at p1
    cases hd : dctOf s1 d with
    | none => rw [hd] at p1; exact p1.elim
    | some kd =>
      obtain ⟨ks, ds⟩ := kd
      rw [hd] at p1
      obtain ⟨a, vs, rfl, ha, hl, rr⟩ := dctOf_rp sm1 r1 hd
      have hlv : (ks.map kOf).length = vs.length := by rw [List.length_map, hl, rr.length]
      refine ⟨a, _, rfl, ha, fun hz p hp => ?_⟩
      rw [zip_snd hlv]
      rw [List.length_zip, hlv, Nat.min_self, ← rr.length] at hz
      exact p1 (.ref p) _ ms1 (later_new sm1 hp) (sm1.new hp) (rp_newL sm1 hp rr hz)
end
end Mi
end

section
set_option linter.all false
set_option maxRecDepth 100000
set_option autoImplicit false
/-! Mi: the check of an expression of the text. -/
namespace Mi
open PySem L2
variable [Cls]
/-- what a def's text is read with -/
structure Ct where
  N : List PySem.Str
  sc : Scope
  fn : Option Scope
  bl : List PySem.Str
  fs : List (PySem.Str × Nat)
  kw : List (PySem.Str × Nat × List PySem.Str × List Nat)
  er : List (PySem.Str × Nat × Nat × Option PySem.Str)
  is : List (PySem.Str × List Nat × List Nat)
  calm : Bool
def Ct.sui (G : Ct) : Ct := { G with calm := false }
def Ct.blk (G : Ct) (scope : Scope) : Ct := { G with sc := relS scope G.sc, fn := some scope }
def fnOf : Option Scope → PySem.Str → Bool
  | none => fun _ => true
  | some sc => fun x => sc.names.lookup x == some .cell
/-- a class by its name, for isinstance -/
structure IsF (X : Cx) (x : PySem.Str) (no yes : List Nat) : Prop where
  ex : ∃ cv : Value, ((∃ C, X.mg x = some (.ref C) ∧ cv = .ref C) ∨ (X.mg x = none ∧ ∃ t, bootBuiltins x = some (.type t) ∧ cv = .type t)) ∧
    (∀ c ∈ yes, ErB X.K (Cls.ca c) ∧ PySem.W.kitOne X.K (.ref (Cls.ca c)) cv = some true) ∧ ∀ c ∈ no, ErB X.K (Cls.ca c) ∧ PySem.W.kitOne X.K (.ref (Cls.ca c)) cv = some false
  own : ∀ C, X.mg x = some (.ref C) → (∀ c ∈ yes, PySem.W.exmOne X.K (.ref (Cls.ca c)) (.ref C) = some true) ∧ ∀ c ∈ no, PySem.W.exmOne X.K (.ref (Cls.ca c)) (.ref C) = some false
theorem IsF.x {X : Cx} {x : PySem.Str} {no yes : List Nat} (T : IsF X x no yes) (hg : Gl X x) (hd : (x == ("__debug__" : PySem.Str)) = false) (hn : x ≠ ("__name__" : PySem.Str)) : IsX X x no yes := by
  obtain ⟨cv, h, hy, hn'⟩ := T.ex
  rcases h with ⟨C, hm, rfl⟩ | ⟨hm, t, hb, rfl⟩
  · exact ⟨.ref C, _, fun pos => pe_glob hg hm rfl hd, .own C, hy, hn'⟩
  · exact ⟨.ty t, _, fun pos => pe_bltn hg hm hb rfl hn hd, .ty t, hy, hn'⟩
structure CtOk (P : List Fn) (k : Nat) (G : Ct) (W : WX) (X : Cx) : Prop where
  N : X.N = G.N
  nd : X.N.Nodup
  sc : X.env.scope = G.sc
  fn : X.fn = fnOf G.fn
  calm : G.calm = true → X.calm = true
  room : G.calm = true → Room k X.A
  un : X.A.units + 100 < cLine
  tk : Takes X W
  bl : ∀ x ∈ G.bl, X.mg x = none
  fs : ∀ p ∈ G.fs, OwnOk P k X p.1 p.2
  kw : ∀ q ∈ G.kw, OwnKw P k X q.1 q.2.1 q.2.2.1 q.2.2.2
  er : ∀ q ∈ G.er, ErX P X q.1 q.2.1 q.2.2.1 q.2.2.2
  is : ∀ q ∈ G.is, IsF X q.1 q.2.1 q.2.2
theorem Er1.blk {X Y : Cx} {x f : PySem.Str} {C : Addr} (h : Er1 X x C f) (e1 : Y.prog = X.prog) (e2 : Y.w = X.w) (e3 : Y.K = X.K) (e4 : Y.mg = X.mg) (e5 : Y.base = X.base) : Er1 Y x C f := by
  obtain ⟨h1, h2, h3⟩ := h
  exact ⟨by rw [e1, e2, e3, e4, e5]; exact h1, by rw [e4]; exact h2, by rw [e3]; exact h3⟩
theorem ErX.blk {P : List Fn} {X Y : Cx} {x : PySem.Str} {i c : Nat} {fo : Option PySem.Str} (h : ErX P X x i c fo) (e1 : Y.prog = X.prog) (e2 : Y.w = X.w) (e3 : Y.K = X.K) (e4 : Y.mg = X.mg) (e5 : Y.base = X.base) : ErX P Y x i c fo := by
  obtain ⟨h1, h2, h3, h4⟩ := h
  refine ⟨h1, ?_, by rw [e3]; exact h3, by rw [e3]; exact h4⟩
  cases fo with
  | some f => exact ⟨Er1.blk h2.1 e1 e2 e3 e4 e5, h2.2.1, by rw [e3]; exact h2.2.2⟩
  | none => exact ⟨⟨by rw [e3]; exact h2.1.ex, by rw [e4]; exact h2.1.mg, by rw [e3]; exact h2.1.kp⟩, h2.2⟩
theorem CtOk.blk {P : List Fn} {k : Nat} {G : Ct} {W : WX} {X : Cx} (g : CtOk P k G W X) (scope : Scope) (s : Shared) (H : Hp) (C : Addr) (cl : List (PySem.Str × Addr)) (fp : List Addr) : CtOk P k (G.blk scope) XN (X.blk s H scope (compEnvC scope cl C X.env) fp) :=
  ⟨g.N, g.nd, by show relS scope X.env.scope = relS scope G.sc; rw [g.sc], rfl, g.calm, g.room, g.un, takes_none5, g.bl, fun p hp => ⟨(g.fs p hp).ex⟩, fun q hq => ⟨(g.kw q hq).ex⟩, fun q hq => ErX.blk (g.er q hq) rfl rfl rfl rfl rfl, fun q hq => ⟨(g.is q hq).ex, (g.is q hq).own⟩⟩
/-- within a try -/
theorem CtOk.tr {P : List Fn} {k : Nat} {G : Ct} {W W' : WX} {X : Cx} (g : CtOk P k G W X) (pn : List (Addr × Obj)) (xe : Value → Shared → Prop) (tk : Takes (X.tr pn xe) W') : CtOk P k G W' (X.tr pn xe) :=
  ⟨g.N, g.nd, g.sc, g.fn, g.calm, g.room, g.un, tk, g.bl, fun p hp => ⟨(g.fs p hp).ex⟩, fun q hq => ⟨(g.kw q hq).ex⟩, fun q hq => ErX.blk (g.er q hq) rfl rfl rfl rfl rfl, fun q hq => ⟨(g.is q hq).ex, (g.is q hq).own⟩⟩
/-- within a suite -/
theorem CtOk.sui {P : List Fn} {k : Nat} {G : Ct} {W : WX} {X : Cx} (g : CtOk P k G W X) (a : Addr) (pn : List (Addr × Obj)) : CtOk P k G.sui XN (X.suite a pn) :=
  ⟨g.N, g.nd, g.sc, g.fn, (fun z => nomatch z), (fun z => nomatch z), g.un, takes_none5, g.bl, fun p hp => ⟨(g.fs p hp).ex⟩, fun q hq => ⟨(g.kw q hq).ex⟩, fun q hq => ErX.blk (g.er q hq) rfl rfl rfl rfl rfl, fun q hq => ⟨(g.is q hq).ex, (g.is q hq).own⟩⟩
def vis (sc : Scope) (x : PySem.Str) : Bool := match sc.names.lookup x with
  | some .local => true
  | some .cell => true
  | some .free => true
  | _ => false
def gl (sc : Scope) (x : PySem.Str) : Bool := match sc.names.lookup x with
  | some .globalImplicit => true
  | _ => false
def nodeb (x : PySem.Str) : Bool := !(x == ("__debug__" : PySem.Str)) && !(x == ("__classdict__" : PySem.Str))
def okN (G : Ct) (i : Nat) (x : PySem.Str) : Bool := decide (G.N[i]? = some x) && vis G.sc x && nodeb x
def okW (G : Ct) (i : Nat) (x : PySem.Str) : Bool := decide (G.N[i]? = some x) && (match G.sc.names.lookup x with
  | some .local => true
  | some .cell => fnOf G.fn x
  | _ => false)
def okBl (G : Ct) (x : PySem.Str) : Bool := gl G.sc x && decide (x ∈ G.bl)
def erC (G : Ct) (x : PySem.Str) (i n : Nat) : Bool := G.er.any fun q => decide (q.1 = x) && decide (q.2.1 = i) && decide (n = if q.2.2.2.isSome then 1 else 0)
def erK (G : Ct) (x : PySem.Str) (i : Nat) (pm : List Nat) : List Keyword → Bool
  | [⟨some f, _, _⟩] => decide (pm = [0]) && G.er.any fun q => decide (q.1 = x) && decide (q.2.1 = i) && decide (q.2.2.2 = some f)
  | _ => false
def noSup : Expr → Bool
  | .Call (.Name _ _) [] [] _ => false
  | _ => true
theorem attr_sup {o : Expr} {m : PySem.Str} {env : PySem.Env} {w : Sem Value} (h : noSup o = true) : attributeBase o m env w = w := by
  unfold attributeBase
  split
  · simp [noSup] at h
  · rfl
def notSet : Expr → Bool
  | .Set .. => false
  | _ => true
def notSl : Expr → Bool
  | .Slice .. => false
  | _ => true
def one : Expr → Expr
  | .BoolOp _ [a] _ => a
  | e => e
def isNon : Mi.E → Bool
  | .non => true
  | _ => false
def isIs : C2 → Bool
  | .isn => true
  | .notn => true
  | _ => false
def ownOf (N : List PySem.Str) (tg : List Nat) : List (PySem.Str × Nat) := tg.map fun i => ((N[i]?).getD default, i)
theorem ownOf_snd (N : List PySem.Str) (tg : List Nat) : (ownOf N tg).map (·.2) = tg := by
  unfold ownOf
  rw [List.map_map]
  exact (List.map_congr_left fun _ _ => rfl).trans (List.map_id tg)
/-! targets -/
def okTgs (G : Ct) : List Expr → List Nat → Bool
  | [], [] => true
  | .Name x _ :: es, i :: tg => okW G i x && okTgs G es tg
  | _, _ => false
def okTg (G : Ct) : Expr → List Nat → Bool
  | .Name x _, [i] => okW G i x
  | .Tuple es _ _, i :: j :: tg => G.calm && okTgs G es (i :: j :: tg)
  | _, _ => false
section
variable {P : List Fn} {k : Nat} {G : Ct} {W : WX} {X : Cx}
theorem okW_ok {i : Nat} {x : PySem.Str} {pos : Pos} (h : okW G i x = true) (g : CtOk P k G W X) : PG X (.Name x pos) (gName i) := by
  unfold okW at h
  rw [Bool.and_eq_true] at h
  obtain ⟨h1, h2⟩ := h
  have h1 := of_decide_eq_true h1
  refine pg_name g.nd (by rw [g.N]; exact h1) ?_ ?_
  · unfold L2.Loc
    rw [g.sc]
    split at h2
    · exact .inl (by assumption)
    · exact .inr (by assumption)
    · cases h2
  · rw [g.sc, g.fn]
    split at h2
    · exact .inr (by assumption)
    · exact .inl h2
    · cases h2
theorem okTgs_ok : ∀ {es : List Expr} {tg : List Nat}, okTgs G es tg = true → CtOk P k G W X → PGs X es (gAll tg) ∧ (assignEach es X.env).length = tg.length ∧ (assignEach es X.env).findIdx? (·.1) = none
  | [], [], _, g => ⟨pgs_nil, rfl, rfl⟩
  | [], i :: tg, h, g => by simp [okTgs] at h
  | e :: es, [], h, g => by cases e <;> simp [okTgs] at h
  | e :: es, i :: tg, h, g => by
    cases e with
    | Name x p =>
      simp only [okTgs, Bool.and_eq_true] at h
      obtain ⟨q1, q2, q3⟩ := okTgs_ok h.2 g
      refine ⟨pgs_cons (okW_ok h.1 g) q1 rfl, ?_, ?_⟩
      · show (assignEach es X.env).length + 1 = _
        rw [q2]; rfl
      · show ((false, _) :: assignEach es X.env).findIdx? (·.1) = none
        rw [List.findIdx?_cons]
        simp [q3]
    | _ => simp [okTgs] at h
theorem okTg_ok {e : Expr} {tg : List Nat} (h : okTg G e tg = true) (g : CtOk P k G W X) : PG X e (gT X.K tg) := by
  unfold okTg at h
  split at h
  · exact okW_ok h g
  · rename_i es kk pos i j tg
    rw [Bool.and_eq_true] at h
    obtain ⟨q1, q2, q3⟩ := okTgs_ok h.2 g
    exact pg_tup (g.calm h.1) q1 q2 q3
  · cases h
theorem okN_ok {i : Nat} {x : PySem.Str} (h : okN G i x = true) (g : CtOk P k G W X) : X.N[i]? = some x ∧ Vis X.env.scope x ∧ (x == ("__debug__" : PySem.Str)) = false ∧ (x == ("__classdict__" : PySem.Str)) = false := by
  unfold okN at h
  simp only [Bool.and_eq_true] at h
  obtain ⟨⟨h1, h2⟩, h3⟩ := h
  unfold nodeb at h3
  simp only [Bool.and_eq_true, Bool.not_eq_true'] at h3
  refine ⟨by rw [g.N]; exact of_decide_eq_true h1, ?_, h3.1, h3.2⟩
  unfold vis at h2
  unfold Vis
  rw [g.sc]
  split at h2
  · exact .inl (by assumption)
  · exact .inr (.inl (by assumption))
  · exact .inr (.inr (by assumption))
  · cases h2
theorem gl_ok {x : PySem.Str} (h : gl G.sc x = true) (g : CtOk P k G W X) : Gl X x := by
  unfold gl at h
  show X.env.scope.names.lookup x = _
  rw [g.sc]
  split at h
  · assumption
  · cases h
theorem okBl_ok {x : PySem.Str} (h : okBl G x = true) (g : CtOk P k G W X) : Gl X x ∧ X.mg x = none := by
  unfold okBl at h
  rw [Bool.and_eq_true] at h
  exact ⟨gl_ok h.1 g, g.bl x (of_decide_eq_true h.2)⟩
end
theorem notSet_marks {op : CmpOp} {b : Expr} (h : notSet b = true) : behindInMarks op b = false := by cases b <;> first | rfl | cases h
theorem notSet_it {b : Expr} {env : PySem.Env} {x : Value} (h : notSet b = true) : foldedSetIterable b env x = pure x := by cases b <;> first | rfl | cases h
theorem notSl_plain {b : Expr} (h : notSl b = true) : PlainIx b := fun o i => by cases b <;> first | rfl | cases h
end Mi
end

section
set_option linter.all false
set_option maxRecDepth 100000
set_option autoImplicit false
namespace Mi
open PySem L2
variable [Cls]
def isiB (ts : List Ty) : Expr → Bool
  | .Tuple bs _ _ => decide (ts ≠ []) && decide (ts.length ≤ 10) && tyArgs ts bs
  | b => match ts with
    | [t] => tyArg t b
    | _ => false
mutual
def okE (G : Ct) (e0 : Expr) : Mi.E → Bool
  | .non => match one e0 with
    | .Constant .none _ _ => true
    | _ => false
  | .bl b => match one e0 with
    | .Constant (.bool c) _ _ => b == c
    | _ => false
  | .int i => match one e0 with
    | .Constant (.int j) _ _ => decide (i = j)
    | _ => false
  | .str c => match one e0 with
    | .Constant (.str x) _ _ => decide (x.cps.toList = c) && decide (c.length ≤ 1000)
    | _ => false
  | .var i => match one e0 with
    | .Name x _ => okN G i x
    | _ => false
  | .tup es => match one e0 with
    | .Tuple as _ _ => okDs G as es
    | _ => false
  | .lst _ es => match one e0 with
    | .List as _ => okDs G as es
    | _ => false
  | .dict0 _ => match one e0 with
    | .Dict [] [] _ => true
    | _ => false
  | .bin op x y => match one e0 with
    | .BinOp a o b _ => decide (o = oB op) && okE G a x && okE G b y
    | _ => false
  | .catM x y => match one e0 with
    | .BinOp a .Add b _ => okE G a x && okE G b y
    | _ => false
  | .neg x => match one e0 with
    | .UnaryOp .USub a _ => okE G a x
    | _ => false
  | .cmp op x y => match one e0 with
    | .Compare a [o] [b] _ => decide (o = oC op) && (!isIs op || isNon y) && notSet b && okE G a x && okE G b y
    | _ => false
  | .chain p q x y z => match one e0 with
    | .Compare a [o, u] [b, c] _ => decide (o = oC p) && decide (u = oC q) && !isIs p && !isIs q && notSet c && okE G a x && okE G b y && okE G c z
    | _ => false
  | .and x y => match one e0 with
    | .BoolOp .And (a :: b :: r) pos => okE G a x && okE G (.BoolOp .And (b :: r) pos) y
    | _ => false
  | .or x y => match one e0 with
    | .BoolOp .Or (a :: b :: r) pos => okE G a x && okE G (.BoolOp .Or (b :: r) pos) y
    | _ => false
  | .not x => match one e0 with
    | .UnaryOp .Not a _ => okE G a x
    | _ => false
  | .ite z x y => match one e0 with
    | .IfExp c a b _ => okE G c z && okE G a x && okE G b y
    | _ => false
  | .ix x y => match one e0 with
    | .Subscript a b _ => notSl b && okE G a x && okE G b y
    | _ => false
  | .sl x l h => match one e0 with
    | .Subscript a (.Slice lo hi none _) _ => okE G a x && okO G lo l && okO G hi h
    | _ => false
  | .call i es => G.calm && match one e0 with
    | .Call (.Name x _) as [] _ => (decide ((x, i) ∈ G.fs) || erC G x i as.length) && gl G.sc x && nodeb x && as.all notStar && okEs G as es
    | _ => false
  | .callk i pm es => G.calm && match one e0 with
    | .Call (.Name x _) [] kws _ => ((decide ((x, i, kwn kws, pm) ∈ G.kw) && decide (pm.length = (kwn kws).length)) || erK G x i pm kws) && gl G.sc x && nodeb x && kwOk kws && okKs G kws es
    | _ => false
  | .blt f es => match f with
    | .isinst ts => match one e0 with
      | .Call (.Name x _) [a, b] [] _ => decide (x = "isinstance") && okBl G x && ts.all okTy && (ts.all fun t => okBl G (tyS t)) && okEs G [a] es && isiB ts b
      | _ => false
    | .sortset => G.calm && match one e0 with
      | .Call (.Name x _) [.Call (.Name y _) [a] [] _] [] _ => decide (x = "sorted") && decide (y = "set") && okBl G x && okBl G y && okEs G [a] es
      | _ => false
    | .lenset => G.calm && match one e0 with
      | .Call (.Name x _) [.Call (.Name y _) [a] [] _] [] _ => decide (x = "len") && decide (y = "set") && okBl G x && okBl G y && okEs G [a] es
      | _ => false
    | .vals => G.calm && match one e0 with
      | .Call (.Name x _) [.Call (.Attribute oe n apos) [] [] cpos] [] _ => decide (x = "list") && decide (n = "values") && okBl G x && notCall oe && (apos.endLine == cpos.line) && okEs G [oe] es
      | _ => false
    | .sumL => G.calm && match one e0 with
      | .Call (.Name x _) [a, b] [] _ => decide (x = "sum") && okBl G x && okEs G [a, b] es
      | _ => false
    | f => G.calm && match one e0 with
      | .Call (.Name x _) (a :: as) [] _ => okF f && decide (x = nF f) && okBl G x && (a :: as).all notStar && okEs G (a :: as) es
      | _ => false
  | .mth m o es => match one e0 with
    | .Call (.Attribute oe n apos) as [] cpos => okE G oe o && okEs G as es && notCall oe && (apos.endLine == cpos.line) && (match m, as with
      | .append, [_] => decide (n = "append")
      | .pop, [_] => decide (n = "pop")
      | .get, [_] => decide (n = "get")
      | .setdefault, [_, _] => decide (n = "setdefault")
      | _, _ => false)
    | _ => false
  | .comp _ elt tg src ifs _ => G.calm && match one e0 with
    | .ListComp el [⟨t, it, fs, asy⟩] scope _ => decide (asy = 0) && notSet it && okSr G t it src && blkC G.N G.sc scope (ownOf G.N tg) && okTg (G.blk scope) t tg && okTs (G.blk scope) fs ifs && okE (G.blk scope) el elt
    | _ => false
  | .comp2 _ elt tg src ifs tg2 src2 ifs2 _ _ => G.calm && match one e0 with
    | .ListComp el [⟨t, it, fs, asy⟩, ⟨t2, it2, fs2, asy2⟩] scope _ => decide (asy = 0) && decide (asy2 = 0) && notSet it && notSet it2 && okSr G t it src && blkC G.N G.sc scope (ownOf G.N (tg ++ tg2)) && okTg (G.blk scope) t tg && okTs (G.blk scope) fs ifs && okSr (G.blk scope) t2 it2 src2 && okTg (G.blk scope) t2 tg2 && okTs (G.blk scope) fs2 ifs2 && okE (G.blk scope) el elt
    | _ => false
  | .dcomp _ kx vx tg src ifs _ => G.calm && match one e0 with
    | .DictComp ke ve [⟨t, it, fs, asy⟩] scope _ => decide (asy = 0) && notSet it && okSr G t it src && blkC G.N G.sc scope (ownOf G.N tg) && okTg (G.blk scope) t tg && okTs (G.blk scope) fs ifs && okE (G.blk scope) ke kx && okE (G.blk scope) ve vx
    | _ => false
  | .dcomp2 _ kx vx tg src ifs tg2 src2 ifs2 => G.calm && match one e0, ifs, ifs2 with
    | .DictComp ke ve [⟨t, it, [], asy⟩, ⟨t2, it2, [], asy2⟩] scope _, .nil, .nil => decide (asy = 0) && decide (asy2 = 0) && notSet it && notSet it2 && okSr G t it src && blkC G.N G.sc scope (ownOf G.N (tg ++ tg2)) && okTg (G.blk scope) t tg && okSr (G.blk scope) t2 it2 src2 && okTg (G.blk scope) t2 tg2 && okE (G.blk scope) ke kx && okE (G.blk scope) ve vx
    | _, _, _ => false
  | .fld cs e => match one e0 with
    | .Attribute a f _ => noSup a && (cs.all fun c => G.er.any fun q => decide (q.2.2.1 = c) && decide (q.2.2.2 = some f)) && okE G a e
    | _ => false
  | .isE no yes e => match one e0 with
    | .Call (.Name n _) [a, .Name x _] [] _ => decide (n = "isinstance") && okBl G n && gl G.sc x && nodeb x && decide (x ≠ "__name__") && decide ((x, no, yes) ∈ G.is) && notStar a && okE G a e
    | _ => false
  | _ => false
def okEs (G : Ct) (as : List Expr) : Es → Bool
  | .nil => as.isEmpty
  | .cons e es => match as with
    | a :: as => notStar a && okE G a e && okEs G as es
    | [] => false
  | .star _ _ => false
/-- in a display a part may be starred -/
def okDs (G : Ct) (as : List Expr) : Es → Bool
  | .nil => as.isEmpty
  | .cons e es => match as with
    | a :: as => notStar a && okE G a e && okDs G as es
    | [] => false
  | .star e es => match as with
    | .Starred a _ :: as => okE G a e && okDs G as es
    | _ => false
def okKs (G : Ct) (kws : List Keyword) : Es → Bool
  | .nil => kws.isEmpty
  | .cons e es => match kws with
    | ⟨_, a, _⟩ :: r => okE G a e && okKs G r es
    | [] => false
  | .star _ _ => false
def okTs (G : Ct) (as : List Expr) : Es → Bool
  | .nil => as.isEmpty
  | .cons e es => match as with
    | a :: as => okE G a e && as.isEmpty && okTs G as es
    | [] => false
  | .star _ _ => false
def okO (G : Ct) (a : Option Expr) : Eo → Bool
  | .none => a.isNone
  | .some e => match a with
    | some a => okE G a e
    | none => false
def okSr (G : Ct) (t it : Expr) : Sr → Bool
  | .it e => okE G it e
  | .keys e => okE G it e
  | .zip x y => match t, it with
    | .Tuple _ _ _, .Call (.Name n _) [a, b] [] _ => decide (n = "zip") && okBl G n && notStar a && notStar b && okE G a x && okE G b y
    | _, _ => false
  | .enum x => match t, it with
    | .Tuple _ _ _, .Call (.Name n _) [a] [] _ => decide (n = "enumerate") && okBl G n && notStar a && okE G a x
    | _, _ => false
  | .rng x => match it with
    | .Call (.Name n _) [a] [] _ => decide (n = "range") && okBl G n && notStar a && okE G a x
    | _ => false
  | .rng2 x y => match it with
    | .Call (.Name n _) [a, b] [] _ => decide (n = "range") && okBl G n && notStar a && notStar b && okE G a x && okE G b y
    | _ => false
  | _ => false
end
/-- what a checked expression is -/
structure RE (P : List Fn) (k : Nat) (W : WX) (X : Cx) (e : Expr) (x : Mi.E) : Prop where
  pe : PE X e (tE X0 (callN P k) W x)
  pt : PT X e (tT X0 (callN P k) W x)
  pw : ∀ op l pos, e = .BoolOp op l pos → PW X e (tT X0 (callN P k) W x)
def plainT : Expr → Bool
  | .Compare .. => false
  | .BoolOp .. => false
  | .UnaryOp .Not _ _ => false
  | .IfExp .. => false
  | _ => true
section
variable {P : List Fn} {k : Nat} {G : Ct} {W : WX} {X : Cx}
theorem plainT_ok {a : Expr} {env : PySem.Env} (h : plainT a = true) (whole : Sem Value) : PySem.isTrue a env whole = (do let v ← whole; standAt a.pos; holding [v] (truthy v)) := by
  cases a with
  | Compare => cases h
  | BoolOp => cases h
  | IfExp => cases h
  | UnaryOp op _ _ => cases op <;> first | rfl | cases h
  | _ => rfl
theorem RE.plain {e : Expr} {x : Mi.E} (h : PE X e (tE X0 (callN P k) W x)) (ht : plainT e = true) : RE P k W X e x := ⟨h, st_plain h (plainT_ok ht), fun op l pos e => by subst e; cases ht⟩
theorem RE.test {e : Expr} {x : Mi.E} (h : PE X e (tE X0 (callN P k) W x)) (ht : PT X e (tT X0 (callN P k) W x)) (hn : ∀ op l pos, e ≠ .BoolOp op l pos) : RE P k W X e x := ⟨h, ht, fun op l pos e => absurd e (hn op l pos)⟩
theorem RE.one {e : Expr} {x : Mi.E} (h : RE P k W X (one e) x) : RE P k W X e x := by
  cases e with
  | BoolOp op l pos =>
    match l, h with
    | [a], h =>
      have h : RE P k W X a x := h
      have w := sw_one (op := op) (pos := pos) h.pt
      exact ⟨pe_one h.pe, w.pt, fun _ _ _ _ => w⟩
    | [], h => exact h
    | _ :: _ :: _, h => exact h
  | _ => exact h
end
end Mi
end

section
set_option linter.all false
set_option maxRecDepth 100000
set_option autoImplicit false
namespace Mi
open PySem L2
variable [Cls]
theorem isNon_of {op : C2} {y : Mi.E} (h : (!isIs op || isNon y) = true) : (op = .isn ∨ op = .notn) → y = .non := fun z => by
  have : isIs op = true := by rcases z with rfl | rfl <;> rfl
  rw [this] at h
  have h : isNon y = true := h
  unfold isNon at h
  split at h
  · rfl
  · cases h
theorem noIs_of {op : C2} (h : (!isIs op) = true) : op ≠ .isn ∧ op ≠ .notn := by
  cases op with
  | isn => cases h
  | notn => cases h
  | _ => exact ⟨nofun, nofun⟩
section
variable {P : List Fn} {k : Nat}
mutual
theorem okE_ok : ∀ (x : Mi.E) (G : Ct) (W : WX) (X : Cx) (e : Expr), okE G e x = true → CtOk P k G W X → RE P k W X e x
  | .non, G, W, X, e, h, g => by
    refine RE.one ?_
    simp only [okE] at h
    split at h
    · rename_i h1; rw [h1]; exact .plain se_non rfl
    · cases h
  | .bl b, G, W, X, e, h, g => by
    refine RE.one ?_
    simp only [okE] at h
    split at h
    · rename_i h1; rw [h1]
      have := eq_of_beq h
      subst this
      exact .plain se_bl rfl
    · cases h
  | .int i, G, W, X, e, h, g => by
    refine RE.one ?_
    simp only [okE] at h
    split at h
    · rename_i h1; rw [h1]
      have := of_decide_eq_true h
      subst this
      exact .plain se_int rfl
    · cases h
  | .str c, G, W, X, e, h, g => by
    refine RE.one ?_
    simp only [okE] at h
    split at h
    · rename_i h1; rw [h1]
      simp only [Bool.and_eq_true, decide_eq_true_eq] at h
      exact .plain (se_str h.1 h.2) rfl
    · cases h
  | .var i, G, W, X, e, h, g => by
    refine RE.one ?_
    simp only [okE] at h
    split at h
    · rename_i h1; rw [h1]
      obtain ⟨q1, q2, q3, q4⟩ := okN_ok h g
      exact .plain (se_var q1 q2 q3 q4) rfl
    · cases h
  | .tup es, G, W, X, e, h, g => by
    refine RE.one ?_
    simp only [okE] at h
    split at h
    · rename_i h1; rw [h1]
      exact .plain (se_tup (okDs_ok es G _ X _ h g)) rfl
    · cases h
  | .lst m es, G, W, X, e, h, g => by
    refine RE.one ?_
    simp only [okE] at h
    split at h
    · rename_i h1; rw [h1]
      exact .plain (se_lst (okDs_ok es G _ X _ h g)) rfl
    · cases h
  | .dict0 m, G, W, X, e, h, g => by
    refine RE.one ?_
    simp only [okE] at h
    split at h
    · rename_i h1; rw [h1]
      exact .plain se_dict0 rfl
    · cases h
  | .bin op x y, G, W, X, e, h, g => by
    refine RE.one ?_
    simp only [okE] at h
    split at h
    · rename_i h1; rw [h1]
      simp only [Bool.and_eq_true, decide_eq_true_eq] at h
      obtain ⟨⟨rfl, h2⟩, h3⟩ := h
      exact .plain (se_bin (okE_ok x G _ X _ h2 g).pe (okE_ok y G _ X _ h3 g).pe) rfl
    · cases h
  | .catM x y, G, W, X, e, h, g => by
    refine RE.one ?_
    simp only [okE] at h
    split at h
    · rename_i h1; rw [h1]
      simp only [Bool.and_eq_true] at h
      exact .plain (se_catM (okE_ok x G _ X _ h.1 g).pe (okE_ok y G _ X _ h.2 g).pe) rfl
    · cases h
  | .neg x, G, W, X, e, h, g => by
    refine RE.one ?_
    simp only [okE] at h
    split at h
    · rename_i h1; rw [h1]
      exact .plain (se_neg (okE_ok x G _ X _ h g).pe) rfl
    · cases h
  | .cmp op x y, G, W, X, e, h, g => by
    refine RE.one ?_
    simp only [okE] at h
    split at h
    · rename_i h1; rw [h1]
      simp only [Bool.and_eq_true, decide_eq_true_eq] at h
      obtain ⟨⟨⟨⟨rfl, h2⟩, h3⟩, h4⟩, h5⟩ := h
      have n := isNon_of h2
      exact .test (se_cmp g.un n (okE_ok x G _ X _ h4 g).pe (okE_ok y G _ X _ h5 g).pe (notSet_marks h3)) (st_cmp g.un n (okE_ok x G _ X _ h4 g).pe (okE_ok y G _ X _ h5 g).pe (notSet_marks h3)) (fun _ _ _ z => nomatch z)
    · cases h
  | .chain p q x y z, G, W, X, e, h, g => by
    refine RE.one ?_
    simp only [okE] at h
    split at h
    · rename_i h1; rw [h1]
      simp only [Bool.and_eq_true, decide_eq_true_eq] at h
      obtain ⟨⟨⟨⟨⟨⟨⟨rfl, rfl⟩, h3⟩, h4⟩, h5⟩, h6⟩, h7⟩, h8⟩ := h
      exact .test (se_chain g.un (noIs_of h3) (noIs_of h4) (okE_ok x G _ X _ h6 g).pe (okE_ok y G _ X _ h7 g).pe (okE_ok z G _ X _ h8 g).pe (notSet_marks h5)) (st_chain g.un (noIs_of h3) (noIs_of h4) (okE_ok x G _ X _ h6 g).pe (okE_ok y G _ X _ h7 g).pe (okE_ok z G _ X _ h8 g).pe (notSet_marks h5)) (fun _ _ _ z => nomatch z)
    · cases h
  | .and x y, G, W, X, e, h, g => by
    refine RE.one ?_
    simp only [okE] at h
    split at h
    · rename_i h1; rw [h1]
      simp only [Bool.and_eq_true] at h
      have a := okE_ok x G _ X _ h.1 g
      have b := okE_ok y G _ X _ h.2 g
      have w := sw_and a.pt (b.pw _ _ _ rfl)
      exact ⟨se_and a.pe b.pe, w.pt, fun _ _ _ _ => w⟩
    · cases h
  | .or x y, G, W, X, e, h, g => by
    refine RE.one ?_
    simp only [okE] at h
    split at h
    · rename_i h1; rw [h1]
      simp only [Bool.and_eq_true] at h
      have a := okE_ok x G _ X _ h.1 g
      have b := okE_ok y G _ X _ h.2 g
      have w := sw_or a.pt (b.pw _ _ _ rfl)
      exact ⟨se_or a.pe b.pe, w.pt, fun _ _ _ _ => w⟩
    · cases h
  | .not x, G, W, X, e, h, g => by
    refine RE.one ?_
    simp only [okE] at h
    split at h
    · rename_i h1; rw [h1]
      have a := okE_ok x G _ X _ h g
      exact .test (se_not a.pe) (st_not a.pt) (fun _ _ _ z => nomatch z)
    · cases h
  | .ite z x y, G, W, X, e, h, g => by
    refine RE.one ?_
    simp only [okE] at h
    split at h
    · rename_i h1; rw [h1]
      simp only [Bool.and_eq_true] at h
      have c := okE_ok z G _ X _ h.1.1 g
      have a := okE_ok x G _ X _ h.1.2 g
      have b := okE_ok y G _ X _ h.2 g
      exact .test (se_ite c.pt a.pe b.pe) (st_ite c.pt a.pt b.pt) (fun _ _ _ z => nomatch z)
    · cases h
  | .ix x y, G, W, X, e, h, g => by
    refine RE.one ?_
    simp only [okE] at h
    split at h
    · rename_i h1; rw [h1]
      simp only [Bool.and_eq_true] at h
      exact .plain (se_ix g.un (okE_ok x G _ X _ h.1.2 g).pe (okE_ok y G _ X _ h.2 g).pe (notSl_plain h.1.1)) rfl
    · cases h
  | .sl x l u, G, W, X, e, h, g => by
    refine RE.one ?_
    simp only [okE] at h
    split at h
    · rename_i h1; rw [h1]
      simp only [Bool.and_eq_true] at h
      exact .plain (se_sl (okE_ok x G _ X _ h.1.1 g).pe (okO_ok l G _ X _ h.1.2 g) (okO_ok u G _ X _ h.2 g)) rfl
    · cases h
  | .call i es, G, W, X, e, h, g => by
    refine RE.one ?_
    simp only [okE] at h
    rw [Bool.and_eq_true] at h
    obtain ⟨hc, h⟩ := h
    split at h
    · rename_i xn pn as cpos h0; rw [h0]
      simp only [Bool.and_eq_true, decide_eq_true_eq] at h
      obtain ⟨⟨⟨⟨h1, h2⟩, h3⟩, h4⟩, h5⟩ := h
      unfold nodeb at h3
      simp only [Bool.and_eq_true, Bool.not_eq_true'] at h3
      have a := okEs_ok es G _ X _ h5 g
      rw [Bool.or_eq_true, decide_eq_true_eq] at h1
      rcases h1 with h1 | h1
      · exact .plain (se_call g.tk (g.fs _ h1) (g.room hc) (gl_ok h2 g) h3.1 a.1 h4 a.2.1) rfl
      · unfold erC at h1
        rw [List.any_eq_true] at h1
        obtain ⟨q, hq, h1⟩ := h1
        simp only [Bool.and_eq_true, decide_eq_true_eq] at h1
        obtain ⟨⟨e1, e2⟩, e3⟩ := h1
        have T := g.er q hq
        obtain ⟨y, i', c, fo⟩ := q
        dsimp only at e1 e2 e3 T
        subst e1; subst e2
        cases fo with
        | none =>
          have : as = [] := by
            cases as with
            | nil => rfl
            | cons _ _ => simp at e3
          subst this
          obtain rfl := a.2.1 rfl
          exact .plain (se_er0 T (gl_ok h2 g) h3.1) rfl
        | some f =>
          match as, e3 with
          | [b], _ =>
            obtain ⟨y, rfl, py, sy⟩ := a.2.2.1 _ rfl
            exact .plain (se_er1 T (g.room hc) (gl_ok h2 g) h3.1 py sy) rfl
    · cases h
  | .callk i pm es, G, W, X, e, h, g => by
    refine RE.one ?_
    simp only [okE] at h
    rw [Bool.and_eq_true] at h
    obtain ⟨hc, h⟩ := h
    split at h
    · rename_i h1; rw [h1]
      simp only [Bool.and_eq_true, decide_eq_true_eq] at h
      obtain ⟨⟨⟨⟨h1, h2⟩, h3⟩, h4⟩, h6⟩ := h
      unfold nodeb at h3
      simp only [Bool.and_eq_true, Bool.not_eq_true'] at h3
      rw [Bool.or_eq_true, Bool.and_eq_true, decide_eq_true_eq, decide_eq_true_eq] at h1
      rcases h1 with ⟨h1, h5⟩ | h1
      · exact .plain (se_callk g.tk (g.kw _ h1) (g.room hc) (gl_ok h2 g) h3.1 (okKs_ok es G _ X _ h6 g).1 h4 rfl h5) rfl
      · unfold erK at h1
        split at h1
        · rename_i f a1 p1
          rw [Bool.and_eq_true, decide_eq_true_eq, List.any_eq_true] at h1
          obtain ⟨rfl, q, hq, h1⟩ := h1
          simp only [Bool.and_eq_true, decide_eq_true_eq] at h1
          obtain ⟨⟨e1, e2⟩, e3⟩ := h1
          have T := g.er q hq
          obtain ⟨y, i', c, fo⟩ := q
          dsimp only at e1 e2 e3 T
          subst e1; subst e2; subst e3
          obtain ⟨e, rfl, pe⟩ := (okKs_ok es G _ X _ h6 g).2 _ _ _ rfl
          exact .plain (se_erk T (g.room hc) (gl_ok h2 g) h3.1 pe) rfl
        · cases h1
    · cases h
  | .blt f es, G, W, X, e, h, g => by
    refine RE.one ?_
    simp only [okE] at h
    split at h
    · rename_i ts
      split at h
      · rename_i h1; rw [h1]
        simp only [Bool.and_eq_true, decide_eq_true_eq] at h
        obtain ⟨⟨⟨⟨⟨rfl, h2⟩, h3⟩, h4⟩, h5⟩, h6⟩ := h
        obtain ⟨q1, q2⟩ := okBl_ok h2 g
        obtain ⟨y, rfl, py, sy⟩ := (okEs_ok es G _ X _ h5 g).2.2.1 _ rfl
        have gt : ∀ t ∈ ts, Gl X (tyS t) ∧ X.mg (tyS t) = none := fun t ht => okBl_ok (List.all_eq_true.mp h4 t ht) g
        unfold isiB at h6
        split at h6
        · simp only [Bool.and_eq_true, decide_eq_true_eq] at h6
          exact .plain (se_isiT h6.1.1 h6.1.2 h3 q1 q2 gt py sy h6.2) rfl
        · split at h6
          · rename_i t
            simp only [List.all_cons, List.all_nil, Bool.and_true] at h3
            exact .plain (se_isi1 h3 q1 q2 (gt t List.mem_cons_self) py sy h6) rfl
          · cases h6
      · cases h
    · rw [Bool.and_eq_true] at h
      obtain ⟨hc, h⟩ := h
      split at h
      · rename_i h1; rw [h1]
        simp only [Bool.and_eq_true, decide_eq_true_eq] at h
        obtain ⟨⟨⟨⟨rfl, rfl⟩, h2⟩, h3⟩, h4⟩ := h
        obtain ⟨q1, q2⟩ := okBl_ok h2 g
        obtain ⟨q3, q4⟩ := okBl_ok h3 g
        obtain ⟨y, rfl, py, sy⟩ := (okEs_ok es G _ X _ h4 g).2.2.1 _ rfl
        exact .plain (se_sortset (g.calm hc) g.un q1 q2 q3 q4 py sy) rfl
      · cases h
    · rw [Bool.and_eq_true] at h
      obtain ⟨hc, h⟩ := h
      split at h
      · rename_i h1; rw [h1]
        simp only [Bool.and_eq_true, decide_eq_true_eq] at h
        obtain ⟨⟨⟨⟨rfl, rfl⟩, h2⟩, h3⟩, h4⟩ := h
        obtain ⟨q1, q2⟩ := okBl_ok h2 g
        obtain ⟨q3, q4⟩ := okBl_ok h3 g
        obtain ⟨y, rfl, py, sy⟩ := (okEs_ok es G _ X _ h4 g).2.2.1 _ rfl
        exact .plain (se_lenset (g.calm hc) q1 q2 q3 q4 py sy) rfl
      · cases h
    · rw [Bool.and_eq_true] at h
      obtain ⟨hc, h⟩ := h
      split at h
      · rename_i h1; rw [h1]
        simp only [Bool.and_eq_true, decide_eq_true_eq] at h
        obtain ⟨⟨⟨⟨⟨rfl, rfl⟩, h2⟩, h3⟩, h5⟩, h4⟩ := h
        obtain ⟨q1, q2⟩ := okBl_ok h2 g
        obtain ⟨y, rfl, py, sy⟩ := (okEs_ok es G _ X _ h4 g).2.2.1 _ rfl
        exact .plain (se_vals (g.calm hc) q1 q2 py h3 h5) rfl
      · cases h
    · rw [Bool.and_eq_true] at h
      obtain ⟨hc, h⟩ := h
      split at h
      · rename_i h1; rw [h1]
        simp only [Bool.and_eq_true, decide_eq_true_eq] at h
        obtain ⟨⟨rfl, h2⟩, h3⟩ := h
        obtain ⟨q1, q2⟩ := okBl_ok h2 g
        have qs := okEs_ok es G _ X _ h3 g
        obtain ⟨y, z, _, _, sy, _, sz⟩ := qs.2.2.2 _ _ rfl
        exact .plain (se_sumL (g.calm hc) q1 q2 qs.1 sy sz) rfl
      · cases h
    · rw [Bool.and_eq_true] at h
      obtain ⟨hc, h⟩ := h
      split at h
      · rename_i h1; rw [h1]
        simp only [Bool.and_eq_true, decide_eq_true_eq] at h
        obtain ⟨⟨⟨⟨h0, rfl⟩, h3⟩, h4⟩, h5⟩ := h
        obtain ⟨q1, q2⟩ := okBl_ok h3 g
        exact .plain (se_blt (g.calm hc) g.un h0 q1 q2 (okEs_ok es G _ X _ h5 g).1 (by simpa using h4)) rfl
      · cases h
  | .mth m o es, G, W, X, e, h, g => by
    refine RE.one ?_
    simp only [okE] at h
    split at h
    · rename_i h1; rw [h1]
      simp only [Bool.and_eq_true] at h
      obtain ⟨⟨⟨⟨h2, h3⟩, h4⟩, h5⟩, h6⟩ := h
      have po := (okE_ok o G _ X _ h2 g).pe
      have qs := okEs_ok es G _ X _ h3 g
      split at h6
      · have := of_decide_eq_true h6
        subst this
        obtain ⟨y, rfl, py, sy⟩ := qs.2.2.1 _ rfl
        exact .plain (se_append po py h4 sy h5) rfl
      · have := of_decide_eq_true h6
        subst this
        obtain ⟨y, rfl, py, sy⟩ := qs.2.2.1 _ rfl
        exact .plain (se_popAt po py h4 sy h5) rfl
      · have := of_decide_eq_true h6
        subst this
        obtain ⟨y, rfl, py, sy⟩ := qs.2.2.1 _ rfl
        exact .plain (se_get1 g.un po py h4 sy h5) rfl
      · have := of_decide_eq_true h6
        subst this
        obtain ⟨y, z, rfl, py, sy, pz, sz⟩ := qs.2.2.2 _ _ rfl
        exact .plain (se_setd po py pz h4 sy sz h5) rfl
      · cases h6
    · cases h
  | .comp m elt tg src ifs own, G, W, X, e, h, g => by
    refine RE.one ?_
    simp only [okE] at h
    rw [Bool.and_eq_true] at h
    obtain ⟨hc, h⟩ := h
    split at h
    · rename_i el t it fs asy scope pos h1; rw [h1]
      simp only [Bool.and_eq_true, decide_eq_true_eq] at h
      obtain ⟨⟨⟨⟨⟨⟨rfl, h2⟩, h3⟩, h4⟩, h5⟩, h6⟩, h7⟩ := h
      have bo := blkOk_by h4
      rw [← g.N, ← g.sc] at bo
      have pe := pe_lc (pos := pos) (elt := el) (g := gT X.K tg) (g.calm hc) g.nd (okSr_ok src G _ X _ _ h3 g) bo (fun s H C cl fp => okTg_ok h5 (g.blk _ s H C cl fp)) (fun s H C cl fp => okTs_ok ifs _ _ _ _ h6 (g.blk _ s H C cl fp)) (fun s H C cl fp => (okE_ok elt _ _ _ _ h7 (g.blk _ s H C cl fp)).pe) (fun x => notSet_it h2)
      rw [g.N, ownOf_snd] at pe
      exact .plain (PE.imp pe fun σ H Q q => comp_imp (own := own) q) rfl
    · cases h
  | .dcomp m kx vx tg src ifs own, G, W, X, e, h, g => by
    refine RE.one ?_
    simp only [okE] at h
    rw [Bool.and_eq_true] at h
    obtain ⟨hc, h⟩ := h
    split at h
    · rename_i ke ve t it fs asy scope pos h1; rw [h1]
      simp only [Bool.and_eq_true, decide_eq_true_eq] at h
      obtain ⟨⟨⟨⟨⟨⟨⟨rfl, h2⟩, h3⟩, h4⟩, h5⟩, h6⟩, h7⟩, h8⟩ := h
      have bo := blkOk_by h4
      rw [← g.N, ← g.sc] at bo
      have pe := pe_dc (pos := pos) (kx := ke) (vx := ve) (g := gT X.K tg) (g.calm hc) g.nd (okSr_ok src G _ X _ _ h3 g) bo (fun s H C cl fp => okTg_ok h5 (g.blk _ s H C cl fp)) (fun s H C cl fp => okTs_ok ifs _ _ _ _ h6 (g.blk _ s H C cl fp)) (fun s H C cl fp => (okE_ok kx _ _ _ _ h7 (g.blk _ s H C cl fp)).pe) (fun s H C cl fp => (okE_ok vx _ _ _ _ h8 (g.blk _ s H C cl fp)).pe) (fun x => notSet_it h2)
      rw [g.N, ownOf_snd] at pe
      exact .plain (PE.imp pe fun σ H Q q => dcomp_imp (own := own) q) rfl
    · cases h
  | .rev _, G, W, X, e, h, g => by simp [okE] at h
  | .comp2 m elt tg src ifs tg2 src2 ifs2 o1 o2, G, W, X, e, h, g => by
    refine RE.one ?_
    simp only [okE] at h
    rw [Bool.and_eq_true] at h
    obtain ⟨hc, h⟩ := h
    split at h
    · rename_i el t it fs asy t2 it2 fs2 asy2 scope pos h1; rw [h1]
      simp only [Bool.and_eq_true, decide_eq_true_eq] at h
      obtain ⟨⟨⟨⟨⟨⟨⟨⟨⟨⟨⟨rfl, rfl⟩, h2⟩, h3⟩, h4⟩, h5⟩, h6⟩, h7⟩, h8⟩, h9⟩, h10⟩, h11⟩ := h
      have bo := blkOk_by h5
      rw [← g.N, ← g.sc] at bo
      have pe := pe_lc2 (pos := pos) (elt := el) (g := gT X.K tg) (g1 := gT X.K tg2) (vs1 := tg2) (g.calm hc) g.nd (okSr_ok src G _ X _ _ h4 g) bo (by rw [g.N, ownOf_snd]; exact fun i hi => List.mem_append_right _ hi) (fun s H C cl fp => okTg_ok h6 (g.blk _ s H C cl fp)) (fun s H C cl fp => okTs_ok ifs _ _ _ _ h7 (g.blk _ s H C cl fp)) (fun s H C cl fp => okSr_ok src2 _ _ _ _ _ h8 (g.blk _ s H C cl fp)) (fun s H C cl fp => okTg_ok h9 (g.blk _ s H C cl fp)) (fun s H C cl fp => okTs_ok ifs2 _ _ _ _ h10 (g.blk _ s H C cl fp)) (fun s H C cl fp => (okE_ok elt _ _ _ _ h11 (g.blk _ s H C cl fp)).pe) (fun x => notSet_it h2) (fun env x => notSet_it h3)
      rw [g.N, ownOf_snd] at pe
      exact .plain (PE.imp pe fun σ H Q q => comp2_imp (o1 := o1) (o2 := o2) q) rfl
    · cases h
  | .dcomp2 m kx vx tg src ifs tg2 src2 ifs2, G, W, X, e, h, g => by
    refine RE.one ?_
    simp only [okE] at h
    rw [Bool.and_eq_true] at h
    obtain ⟨hc, h⟩ := h
    split at h
    · rename_i ke ve t it asy t2 it2 asy2 scope pos h1; rw [h1]
      simp only [Bool.and_eq_true, decide_eq_true_eq] at h
      obtain ⟨⟨⟨⟨⟨⟨⟨⟨⟨⟨rfl, rfl⟩, h2⟩, h3⟩, h4⟩, h5⟩, h6⟩, h7⟩, h8⟩, h9⟩, h10⟩ := h
      have bo := blkOk_by h5
      rw [← g.N, ← g.sc] at bo
      have pe := pe_dc2 (pos := pos) (kx := ke) (vx := ve) (g := gT X.K tg) (gj := gT X.K tg2) (vj := tg2) (g.calm hc) g.nd (okSr_ok src G _ X _ _ h4 g) bo (by rw [g.N, ownOf_snd]; exact fun i hi => List.mem_append_right _ hi) (fun s H C cl fp => okTg_ok h6 (g.blk _ s H C cl fp)) (fun s H C cl fp => okSr_ok src2 _ _ _ _ _ h7 (g.blk _ s H C cl fp)) (fun s H C cl fp => okTg_ok h8 (g.blk _ s H C cl fp)) (fun s H C cl fp => (okE_ok kx _ _ _ _ h9 (g.blk _ s H C cl fp)).pe) (fun s H C cl fp => (okE_ok vx _ _ _ _ h10 (g.blk _ s H C cl fp)).pe) (fun x => notSet_it h2) (fun env x => notSet_it h3)
      rw [g.N, ownOf_snd] at pe
      exact .plain (PE.imp pe fun σ H Q q => dcomp2_imp q) rfl
    · cases h
  | .exn _ _, G, W, X, e, h, g => by simp [okE] at h
  | .fld cs x, G, W, X, e, h, g => by
    refine RE.one ?_
    simp only [okE] at h
    split at h
    · rename_i h1; rw [h1]
      rw [Bool.and_eq_true, Bool.and_eq_true, List.all_eq_true] at h
      obtain ⟨⟨h1, h2⟩, h3⟩ := h
      refine .plain (se_fld (fun c hc => ?_) (attr_sup h1) (okE_ok x G _ X _ h3 g).pe) rfl
      have h2 := h2 c hc
      rw [List.any_eq_true] at h2
      obtain ⟨q, hq, h2⟩ := h2
      simp only [Bool.and_eq_true, decide_eq_true_eq] at h2
      obtain ⟨e1, e2⟩ := h2
      have T := g.er q hq
      rw [e1, e2] at T
      exact ⟨_, _, T⟩
    · cases h
  | .isE no yes x, G, W, X, e, h, g => by
    refine RE.one ?_
    simp only [okE] at h
    split at h
    · rename_i h1; rw [h1]
      simp only [Bool.and_eq_true, decide_eq_true_eq] at h
      obtain ⟨⟨⟨⟨⟨⟨⟨rfl, h2⟩, h3⟩, h4⟩, h5⟩, h6⟩, h7⟩, h8⟩ := h
      unfold nodeb at h4
      simp only [Bool.and_eq_true, Bool.not_eq_true'] at h4
      obtain ⟨q1, q2⟩ := okBl_ok h2 g
      exact .plain (se_isE ((g.is _ h6).x (gl_ok h3 g) h4.1 h5) q1 q2 (okE_ok x G _ X _ h8 g).pe h7) rfl
    · cases h
theorem okEs_ok : ∀ (es : Es) (G : Ct) (W : WX) (X : Cx) (as : List Expr), okEs G as es = true → CtOk P k G W X → PA X as (tA X0 (callN P k) W es) ∧ (as = [] → es = .nil) ∧ (∀ a, as = [a] → ∃ x, es = .cons x .nil ∧ PE X a (tE X0 (callN P k) W x) ∧ notStar a = true) ∧
    (∀ a b, as = [a, b] → ∃ x y, es = .cons x (.cons y .nil) ∧ PE X a (tE X0 (callN P k) W x) ∧ notStar a = true ∧ PE X b (tE X0 (callN P k) W y) ∧ notStar b = true)
  | .nil, G, W, X, as, h, g => by
    cases as with
    | nil => exact ⟨sa_nil, fun _ => rfl, nofun, nofun⟩
    | cons a as => simp [okEs] at h
  | .cons e es, G, W, X, as, h, g => by
    cases as with
    | nil => simp [okEs] at h
    | cons a as =>
      simp only [okEs, Bool.and_eq_true] at h
      have q := okEs_ok es G _ X _ h.2 g
      have pe := (okE_ok e G _ X _ h.1.2 g).pe
      refine ⟨sa_cons pe q.1 h.1.1, (fun z => nomatch z), fun b eb => ?_, fun b c eb => ?_⟩
      · cases eb
        obtain rfl := q.2.1 rfl
        exact ⟨e, rfl, pe, h.1.1⟩
      · cases eb
        obtain ⟨y, rfl, py, sy⟩ := q.2.2.1 _ rfl
        exact ⟨e, y, rfl, pe, h.1.1, py, sy⟩
  | .star _ _, G, W, X, as, h, g => by simp [okEs] at h
theorem okDs_ok : ∀ (es : Es) (G : Ct) (W : WX) (X : Cx) (as : List Expr), okDs G as es = true → CtOk P k G W X → PA X as (tA X0 (callN P k) W es)
  | .nil, G, W, X, as, h, g => by
    cases as with
    | nil => exact sa_nil
    | cons a as => simp [okDs] at h
  | .cons e es, G, W, X, as, h, g => by
    cases as with
    | nil => simp [okDs] at h
    | cons a as =>
      simp only [okDs, Bool.and_eq_true] at h
      exact sa_cons (okE_ok e G _ X _ h.1.2 g).pe (okDs_ok es G _ X _ h.2 g) h.1.1
  | .star e es, G, W, X, as, h, g => by
    simp only [okDs] at h
    split at h
    · rw [Bool.and_eq_true] at h
      exact sa_star (okE_ok e G _ X _ h.1 g).pe (okDs_ok es G _ X _ h.2 g)
    · cases h
theorem okKs_ok : ∀ (es : Es) (G : Ct) (W : WX) (X : Cx) (kws : List Keyword), okKs G kws es = true → CtOk P k G W X → PK X kws (tA X0 (callN P k) W es) ∧ ∀ n a p, kws = [⟨n, a, p⟩] → ∃ x, es = .cons x .nil ∧ PE X a (tE X0 (callN P k) W x)
  | .nil, G, W, X, kws, h, g => by
    cases kws with
    | nil => exact ⟨sk_nil, nofun⟩
    | cons a as => simp [okKs] at h
  | .cons e es, G, W, X, kws, h, g => by
    cases kws with
    | nil => simp [okKs] at h
    | cons a as =>
      obtain ⟨n, a, p⟩ := a
      simp only [okKs, Bool.and_eq_true] at h
      have r := okKs_ok es G _ X _ h.2 g
      have pe := (okE_ok e G _ X _ h.1 g).pe
      refine ⟨sk_cons pe r.1, fun n2 a2 p2 z => ?_⟩
      cases z
      have he : es = .nil := by
        cases es with
        | nil => rfl
        | cons _ _ => simp [okKs] at h
        | star _ _ => simp [okKs] at h
      subst he
      exact ⟨e, rfl, pe⟩
  | .star _ _, G, W, X, kws, h, g => by simp [okKs] at h
theorem okTs_ok : ∀ (es : Es) (G : Ct) (W : WX) (X : Cx) (as : List Expr), okTs G as es = true → CtOk P k G W X → PTs X as (tTs X0 (callN P k) W es)
  | .nil, G, W, X, as, h, g => by
    cases as with
    | nil => exact sts_nil
    | cons a as => simp [okTs] at h
  | .cons e es, G, W, X, as, h, g => by
    cases as with
    | nil => simp [okTs] at h
    | cons a as =>
      simp only [okTs, Bool.and_eq_true, List.isEmpty_iff] at h
      obtain ⟨⟨h1, rfl⟩, h3⟩ := h
      have he : es = .nil := by
        cases es with
        | nil => rfl
        | cons _ _ => simp [okTs] at h3
        | star _ _ => simp [okTs] at h3
      subst he
      exact sts_one (okE_ok e G _ X _ h1 g).pt
  | .star _ _, G, W, X, as, h, g => by simp [okTs] at h
theorem okO_ok : ∀ (l : Eo) (G : Ct) (W : WX) (X : Cx) (a : Option Expr), okO G a l = true → CtOk P k G W X → PO X a (tO X0 (callN P k) W l)
  | .none, G, W, X, a, h, g => by
    cases a with
    | none => exact so_none
    | some a => simp [okO] at h
  | .some e, G, W, X, a, h, g => by
    cases a with
    | none => simp [okO] at h
    | some a => exact so_some (okE_ok e G _ X _ (by simpa only [okO] using h) g).pe
theorem okSr_ok : ∀ (src : Sr) (G : Ct) (W : WX) (X : Cx) (t it : Expr), okSr G t it src = true → CtOk P k G W X → PI X t it (tR X0 (callN P k) W src)
  | .it e, G, W, X, t, it, h, g => sr_it (okE_ok e G _ X _ (by simpa only [okSr] using h) g).pe
  | .keys e, G, W, X, t, it, h, g => sr_keys (okE_ok e G _ X _ (by simpa only [okSr] using h) g).pe
  | .zip x y, G, W, X, t, it, h, g => by
    simp only [okSr] at h
    split at h
    · simp only [Bool.and_eq_true, decide_eq_true_eq] at h
      obtain ⟨⟨⟨⟨⟨rfl, h2⟩, h3⟩, h4⟩, h5⟩, h6⟩ := h
      obtain ⟨q1, q2⟩ := okBl_ok h2 g
      exact sr_zip q1 q2 (okE_ok x G _ X _ h5 g).pe (okE_ok y G _ X _ h6 g).pe h3 h4
    · cases h
  | .rng x, G, W, X, t, it, h, g => by
    simp only [okSr] at h
    split at h
    · simp only [Bool.and_eq_true, decide_eq_true_eq] at h
      obtain ⟨⟨⟨rfl, h2⟩, h3⟩, h4⟩ := h
      obtain ⟨q1, q2⟩ := okBl_ok h2 g
      exact sr_rng q1 q2 (okE_ok x G _ X _ h4 g).pe h3
    · cases h
  | .rng2 x y, G, W, X, t, it, h, g => by
    simp only [okSr] at h
    split at h
    · simp only [Bool.and_eq_true, decide_eq_true_eq] at h
      obtain ⟨⟨⟨⟨⟨rfl, h2⟩, h3⟩, h4⟩, h5⟩, h6⟩ := h
      obtain ⟨q1, q2⟩ := okBl_ok h2 g
      exact sr_rng2 q1 q2 (okE_ok x G _ X _ h5 g).pe (okE_ok y G _ X _ h6 g).pe h3 h4
    · cases h
  | .enum x, G, W, X, t, it, h, g => by
    simp only [okSr] at h
    split at h
    · simp only [Bool.and_eq_true, decide_eq_true_eq] at h
      obtain ⟨⟨⟨rfl, h2⟩, h3⟩, h4⟩ := h
      obtain ⟨q1, q2⟩ := okBl_ok h2 g
      exact sr_enum q1 q2 (okE_ok x G _ X _ h4 g).pe h3
    · cases h
  | .vals _, G, W, X, t, it, h, g => by simp [okSr] at h
end
end
end Mi
end

section
set_option linter.all false
set_option maxRecDepth 100000
set_option autoImplicit false
/-! Mi: statements. -/
namespace Mi
open PySem L2
variable [Cls]
inductive FV where | nx (σ : L2.St) | rt (v : V) | bk (σ : L2.St) | ct (σ : L2.St) | xn (cls : Value) (d : Option Addr) (σ : L2.St)
def fRel (H : Hp) (mt : Addr → Prop) (ms : List Addr) : Fl → FV → Prop
  | .nx ρ, .nx σ => EnvR H mt ms ρ σ
  | .rt d, .rt v => Rp H mt ms d v
  | .bk ρ, .bk σ => EnvR H mt ms ρ σ
  | .ct ρ, .ct σ => EnvR H mt ms ρ σ
  | .xn c ds ρ, .xn cls d σ => EnvR H mt ms ρ σ ∧ X0 H mt ms c ds cls d
  | _, _ => False
def qD (W : WX) (D : Ends) : FV → Hp → Prop
  | .nx σ, H => D.nx σ H
  | .rt v, H => D.rt v H
  | .bk σ, H => D.bk σ H
  | .ct σ, H => D.ct σ H
  | .xn cls d σ, H => W cls d σ H
abbrev XE0 : XK := fun _ _ _ => False
section
variable (C : Nat → List D → Sto → Rs D)
def tSt (W : WX) (s : S) : TS := fun D σ H => ∃ F ρ ms st, Sm F H ms st ∧ EnvR H (Mt F ms st) ms ρ σ ∧ Pst X0 F fRel (evS C s ρ st) H ms st (qD W D) XE0
def tSts (W : WX) (s : Ss) : TS := fun D σ H => ∃ F ρ ms st, Sm F H ms st ∧ EnvR H (Mt F ms st) ms ρ σ ∧ Pst X0 F fRel (evSs C s ρ st) H ms st (qD W D) XE0
end
theorem PS.imp {X : Cx} {e : Stmt} {t t' : TS} (h : PS X e t) (k : ∀ D σ H, t' D σ H → t D σ H) : PS X e t' := ⟨fun pins s σ H D I q => h.run pins s σ H D I (k D σ H q)⟩
theorem PSs.imp {X : Cx} {e : List Stmt} {t t' : TS} (h : PSs X e t) (k : ∀ D σ H, t' D σ H → t D σ H) : PSs X e t' := ⟨fun pins s σ H D I q => h.run pins s σ H D I (k D σ H q)⟩
section
variable {X : Cx} {C : Nat → List D → Sto → Rs D} {W : WX}
theorem Pst.stm {α δ : Type} {Rel2 : Hp → (Addr → Prop) → List Addr → α → δ → Prop} {F : Addr → Prop} {H : Hp} {ms : List Addr} {st : Sto} {D : Ends} {r : Rs α} {ρ : Env} {σ : L2.St} {f : α → Sto → Rs Fl} {Q' : δ → Hp → Prop} (er : EnvR H (Mt F ms st) ms ρ σ) (h : Pst X0 F fRel (r.stm ρ f) H ms st (qD W D) XE0)
    (k : ∀ a s1 v H1 ms1, r = .ok a s1 → Later F H ms st H1 ms1 s1 → Sm F H1 ms1 s1 → Rel2 H1 (Mt F ms1 s1) ms1 a v → Pst X0 F fRel (f a s1) H1 ms1 s1 (qD W D) XE0 → Q' v H1) : Pst X0 F Rel2 r H ms st Q' (wx W σ) := by
  cases r with
  | stuck => exact h
  | ok a s => exact fun b H1 ms1 l1 s1 r1 => k a s b H1 ms1 rfl l1 s1 r1 (Pst.later (r := f a s) h l1)
  | ex c ds s => exact fun cls oe H1 ms1 l1 s1 x => h (.xn cls oe σ) H1 ms1 l1 s1 ⟨er.later l1, x⟩
theorem ss_nil : PSs X [] (tSts C W .nil) := PSs.imp pss_nil fun D σ H ⟨F, ρ, ms, st, sm, er, p⟩ => Pst.ok (Rel := fRel) (b := FV.nx σ) p sm er
theorem ss_cons {a : Stmt} {as : List Stmt} {s : S} {ss : Ss} (ha : PS X a (tSt C W s)) (hr : PSs X as (tSts C W ss)) : PSs X (a :: as) (tSts C W (.cons s ss)) := PSs.imp (pss_cons ha hr) fun D σ H ⟨F, ρ, ms, st, sm, er, p⟩ => by
  refine ⟨F, ρ, ms, st, sm, er, Pst.bind (Rel2 := fRel) p fun r s1 v H1 ms1 _ l1 sm1 r1 p1 => ?_⟩
  cases r with
  | nx ρ1 =>
    cases v with
    | nx σ1 => exact ⟨F, ρ1, ms1, s1, sm1, r1, p1⟩
    | _ => exact r1.elim
  | rt d =>
    cases v with
    | rt v => exact Pst.ok (Q := qD W D) (Rel := fRel) (b := FV.rt v) p1 sm1 r1
    | _ => exact r1.elim
  | bk d =>
    cases v with
    | bk v => exact Pst.ok (Q := qD W D) (Rel := fRel) (b := FV.bk v) p1 sm1 r1
    | _ => exact r1.elim
  | ct d =>
    cases v with
    | ct v => exact Pst.ok (Q := qD W D) (Rel := fRel) (b := FV.ct v) p1 sm1 r1
    | _ => exact r1.elim
  | xn c ds ρ1 =>
    cases v with
    | xn cls d σ1 => exact Pst.ok (Q := qD W D) (Rel := fRel) (b := FV.xn cls d σ1) p1 sm1 r1
    | _ => exact r1.elim
/-- a list or dict of the store becomes a value: no statement of the text -/
theorem ss_frz {as : List Stmt} {i : Nat} {ss : Ss} (hr : PSs X as (tSts C W ss)) : PSs X as (tSts C W (.cons (.frz i) ss)) := PSs.imp hr fun D σ H ⟨F, ρ, ms, st, sm, er, p⟩ => by
  simp only [evSs, evS] at p
  split at p
  · rename_i n hn
    obtain ⟨v, hv, rv⟩ := er.2 i _ hn
    simp only [Rp] at rv
    obtain ⟨a, rfl, ha⟩ := rv
    have hlt : ∀ {o : Ob}, st[n]? = some o → n < st.length := fun h => (List.getElem?_eq_some_iff.mp h).1
    have main : ∀ {o : Ob} {d : Mi.D}, st[n]? = some o → o ≠ .dead → Rp H (Mt F ms (st.set n .dead)) ms d (.ref a) → EnvR H (Mt F ms (st.set n .dead)) ms (ρ.set i (some d)) σ := fun {o d} ho hd rd => by
      have er2 := er.later (later_dead (H := H) (ms := ms) (F := F) ho hd)
      have q := er2.set (i := i) rd
      have e : σ.set i (some (V.ref a)) = σ := by
        refine List.ext_getElem? fun j => ?_
        by_cases hj : i = j
        · subst hj
          rw [List.getElem?_set_self (List.getElem?_eq_some_iff.mp hv).1, hv]
        · rw [List.getElem?_set_ne hj]
      rwa [e] at q
    split at p
    · rename_i ds ho
      obtain ⟨vs, e1, z, r⟩ := sm.at_ n a _ ha ho
      have hd : Ob.lst ds ≠ .dead := nofun
      refine ⟨F, _, ms, _, sm.dead ho hd, main ho hd ?_, Pst.later (by simpa only [Rs.bind] using p) (later_dead ho hd)⟩
      simp only [Rp]
      exact ⟨a, vs, rfl, sm.not_mt_dead ha (hlt ho), e1, z, Rps.later (later_dead ho hd) _ _ r⟩
    · rename_i ks ds ho
      obtain ⟨vs, e1, z, r⟩ := sm.at_ n a _ ha ho
      have hd : Ob.dct ks ds ≠ .dead := nofun
      refine ⟨F, _, ms, _, sm.dead ho hd, main ho hd ?_, Pst.later (by simpa only [Rs.bind] using p) (later_dead ho hd)⟩
      simp only [Rp]
      exact ⟨a, vs, rfl, sm.not_mt_dead ha (hlt ho), .inl e1, z, Rps.later (later_dead ho hd) _ _ r⟩
    · exact p.elim
  · exact p.elim
/-! targets -/
theorem EnvQ.of0 {H : Hp} {mt : Addr → Prop} {ms : List Addr} {ρ : Env} {σ : L2.St} (S : List Nat) (h : EnvR H mt ms ρ σ) : EnvQ S H mt ms ρ σ := ⟨h.1, fun i d _ e => h.2 i d e⟩
theorem tgt_ok0 {K : PySem.W.Frag} {H : Hp} {mt : Addr → Prop} {ms : List Addr} {tg : List Nat} {d : D} {v : V} {ρ ρ1 : Env} {σ : L2.St} {Q : L2.St → Hp → Prop} (e : tgt tg d ρ = some ρ1) (er : EnvR H mt ms ρ σ) (r : Rp H mt ms d v)
    (k : ∀ σ2, EnvR H mt ms ρ1 σ2 → Q σ2 H) : gT K tg v σ H Q := by
  unfold tgt at e
  split at e
  · rename_i i
    cases e
    exact k _ (er.set r)
  · rename_i hne
    split at e
    · rename_i ds
      split at e
      · rename_i hl
        cases e
        simp only [Rp] at r
        obtain ⟨a, vs, rfl, _, h, _, r⟩ := r
        have main : gTup K tg.length (gAll tg) (.ref a) σ H Q := ⟨a, vs, rfl, .inl (.inl h), by rw [← r.length]; exact hl, gAll_ok (S := tg) (σ0 := σ) tg ds vs ρ _ (fun _ h => h) hl r (EnvQ.of0 tg er) ⟨rfl, fun _ _ => rfl⟩ fun σ2 e2 b2 => k σ2 e2⟩
        unfold gT
        split
        · rename_i i
          exact absurd rfl (hne i)
        · exact main
      · cases e
    · cases e
/-! plain statements -/
theorem asg_imp {K : PySem.W.Frag} {tg : List Nat} {s : S} {x : Mi.E} {D : Ends} {σ : L2.St} {H : Hp} (hs : ∀ ρ st, evS C s ρ st = (evE C x ρ st).stm ρ fun d s1 => match tgt tg d ρ with
      | some ρ1 => .ok (.nx ρ1) s1
      | none => .stuck) (h : tSt C W s D σ H) : tAsg (tE X0 C W x) (gT K tg) D σ H := by
  obtain ⟨F, ρ, ms, st, sm, er, p⟩ := h
  rw [hs] at p
  refine ⟨F, ρ, ms, st, sm, er, Pst.stm er p fun d s1 v H1 ms1 _ l1 sm1 r1 p1 => ?_⟩
  cases ht : tgt tg d ρ with
  | none => rw [ht] at p1; exact p1.elim
  | some ρ1 =>
    rw [ht] at p1
    exact tgt_ok0 ht (er.later l1) r1 fun σ2 e2 => Pst.ok (Rel := fRel) (b := FV.nx σ2) p1 sm1 e2
/-- several names = a tuple or a list -/
def gTL (K : PySem.W.Frag) (tg : List Nat) : TG := fun v σ H Q => gTup K tg.length (gAll tg) v σ H Q ∨ gUnl K tg.length (gAll tg) v σ H Q
theorem tgtT_ok {K : PySem.W.Frag} {H : Hp} {mt : Addr → Prop} {ms : List Addr} {tg : List Nat} {d : D} {v : V} {ρ ρ1 : Env} {σ : L2.St} {Q : L2.St → Hp → Prop} (e : tgtT tg d ρ = some ρ1) (er : EnvR H mt ms ρ σ) (r : Rp H mt ms d v)
    (k : ∀ σ2, EnvR H mt ms ρ1 σ2 → Q σ2 H) : gTL K tg v σ H Q := by
  unfold tgtT at e
  split at e
  · rename_i ds
    split at e
    · rename_i hl
      cases e
      simp only [Rp] at r
      obtain ⟨a, vs, rfl, _, h, _, r⟩ := r
      exact .inl ⟨a, vs, rfl, .inl (.inl h), by rw [← r.length]; exact hl, gAll_ok (S := tg) (σ0 := σ) tg ds vs ρ _ (fun _ h => h) hl r (EnvQ.of0 tg er) ⟨rfl, fun _ _ => rfl⟩ fun σ2 e2 b2 => k σ2 e2⟩
    · cases e
  · rename_i ds
    split at e
    · rename_i hl
      cases e
      simp only [Rp] at r
      obtain ⟨a, vs, rfl, _, h, _, r⟩ := r
      exact .inr ⟨a, vs, rfl, .inl (.inl h), by rw [← r.length]; exact hl, gAll_ok (S := tg) (σ0 := σ) tg ds vs ρ _ (fun _ h => h) hl r (EnvQ.of0 tg er) ⟨rfl, fun _ _ => rfl⟩ fun σ2 e2 b2 => k σ2 e2⟩
    · cases e
  · cases e
theorem unp_imp {K : PySem.W.Frag} {tg : List Nat} {x : Mi.E} {D : Ends} {σ : L2.St} {H : Hp} (h : tSt C W (.unp tg x) D σ H) : tAsg (tE X0 C W x) (gTL K tg) D σ H := by
  obtain ⟨F, ρ, ms, st, sm, er, p⟩ := h
  refine ⟨F, ρ, ms, st, sm, er, Pst.stm er p fun d s1 v H1 ms1 _ l1 sm1 r1 p1 => ?_⟩
  cases ht : tgtT tg d ρ with
  | none => rw [ht] at p1; exact p1.elim
  | some ρ1 =>
    rw [ht] at p1
    exact tgtT_ok ht (er.later l1) r1 fun σ2 e2 => Pst.ok (Rel := fRel) (b := FV.nx σ2) p1 sm1 e2
theorem st_expr {a : Expr} {x : Mi.E} {pos : Pos} (ha : PE X a (tE X0 C W x)) (hs : swapsWith a none pos.line X.env = pure false) : PS X (.Expr a pos) (tSt C W (.expr x)) := PS.imp (ps_expr ha hs) fun D σ H ⟨F, ρ, ms, st, sm, er, p⟩ => by
  refine ⟨F, ρ, ms, st, sm, er, Pst.stm er p fun d s1 v H1 ms1 _ l1 sm1 r1 p1 => ?_⟩
  exact Pst.ok (Rel := fRel) (b := FV.nx σ) p1 sm1 (er.later l1)
theorem st_ret {a : Expr} {x : Mi.E} {pos : Pos} (ha : PE X a (tE X0 C W x)) : PS X (.Return (some a) pos) (tSt C W (.ret x)) := PS.imp (ps_ret ha) fun D σ H ⟨F, ρ, ms, st, sm, er, p⟩ => by
  refine ⟨F, ρ, ms, st, sm, er, Pst.stm er p fun d s1 v H1 ms1 _ l1 sm1 r1 p1 => ?_⟩
  exact Pst.ok (Rel := fRel) (b := FV.rt v) p1 sm1 r1
theorem st_retn {pos : Pos} : PS X (.Return none pos) (tSt C W .retn) := PS.imp ps_retN fun D σ H ⟨F, ρ, ms, st, sm, er, p⟩ => Pst.ok (Rel := fRel) (b := FV.rt .non) p sm (by simp only [fRel, Rp])
theorem st_pass {pos : Pos} : PS X (.Pass pos) (tSt C W .pass) := PS.imp ps_pass fun D σ H ⟨F, ρ, ms, st, sm, er, p⟩ => Pst.ok (Rel := fRel) (b := FV.nx σ) p sm er
theorem st_brk {pos : Pos} : PS X (.Break pos) (tSt C W .brk) := PS.imp ps_break fun D σ H ⟨F, ρ, ms, st, sm, er, p⟩ => Pst.ok (Rel := fRel) (b := FV.bk σ) p sm er
theorem st_cont {pos : Pos} : PS X (.Continue pos) (tSt C W .cont) := PS.imp ps_continue fun D σ H ⟨F, ρ, ms, st, sm, er, p⟩ => Pst.ok (Rel := fRel) (b := FV.ct σ) p sm er
theorem st_ifs {c : Expr} {a b : List Stmt} {x : Mi.E} {s t : Ss} {pos : Pos} (hc : PT X c (tT X0 C W x)) (ha : PSs X a (tSts C W s)) (hb : PSs X b (tSts C W t)) : PS X (.If c a b pos) (tSt C W (.ifs x s t)) := PS.imp (ps_if hc ha hb) fun D σ H ⟨F, ρ, ms, st, sm, er, p⟩ => by
  refine ⟨F, ρ, ms, st, sm, er, Pst.stm (Rel2 := bRel) er p fun d s1 v H1 ms1 _ l1 sm1 r1 p1 => ?_⟩
  have e : d = v := r1
  subst e
  cases d with
  | true => rw [if_pos rfl]; exact ⟨F, ρ, ms1, s1, sm1, er.later l1, by simpa using p1⟩
  | false => rw [if_neg (by decide)]; exact ⟨F, ρ, ms1, s1, sm1, er.later l1, by simpa using p1⟩
/-! loops -/
theorem st_for {K : PySem.W.Frag} {t it : Expr} {body : List Stmt} {tg : List Nat} {src : Sr} {b : Ss} {pos : Pos} (hp : PassesOwn (model X.prog X.w) X.A X.env X.xe) (hc : X.calm = true) (hi : PI X t it (tR X0 C W src)) (hg : PG X t (gT K tg)) (hb : PSs X body (tSts C W b))
    (hs : ∀ x, foldedSetIterable it X.env x = pure x) : PS X (.For t it body [] pos) (tSt C W (.for_ tg src b)) := PS.imp (ps_for hp hc hi hg hb hs) fun D σ H ⟨F, ρ, ms, st, sm, er, p⟩ => by
  refine ⟨F, ρ, ms, st, sm, er, Pst.stm (Rel2 := wRel) er p fun xs s1 J H1 ms1 _ l1 sm1 wj p1 => ?_⟩
  replace er := er.later l1
  refine ⟨fun i m σ' H' => m = xs.length - i ∧ i ≤ xs.length ∧ ∃ ms' s' ρ', Later F H1 ms1 s1 H' ms' s' ∧ Sm F H' ms' s' ∧ EnvR H' (Mt F ms' s') ms' ρ' σ' ∧ Pst X0 F fRel (forL tg (evSs C b) (xs.drop i) ρ' s') H' ms' s' (qD W D) XE0,
    ⟨xs.length, by simp, Nat.zero_le _, ms1, s1, ρ, Later.refl, sm1, er, by simpa using p1⟩, ?_⟩
  rintro i m σ' H' ⟨rfl, hi, ms', s', ρ', l, smF, er', pr⟩
  obtain ⟨ws, wg⟩ := wj _ H' ms' s' l.m smF
  by_cases hlt : i < xs.length
  · obtain ⟨go, yl⟩ := wg i _ (List.getElem?_eq_getElem hlt)
    refine .inr ⟨go, fun σ'' H'' => i + 1 ≤ xs.length ∧ ∃ ms' s' ρ', Later F H1 ms1 s1 H'' ms' s' ∧ Sm F H'' ms' s' ∧ EnvR H'' (Mt F ms' s') ms' ρ' σ'' ∧ Pst X0 F fRel (forL tg (evSs C b) (xs.drop (i + 1)) ρ' s') H'' ms' s' (qD W D) XE0,
      fun σ'' H'' q => ⟨xs.length - (i + 1), by omega, rfl, q⟩, fun v H2 y => ?_⟩
    obtain ⟨l2, sm2, rx⟩ := yl v H2 y
    rw [List.drop_eq_getElem_cons hlt] at pr
    simp only [forL] at pr
    cases ht : tgt tg xs[i] ρ' with
    | none => rw [ht] at pr; exact pr.elim
    | some ρ1 =>
    rw [ht] at pr
    refine tgt_ok0 ht (er'.later l2) rx fun σ2 e2 => ⟨F, ρ1, ms', s', sm2, e2, Pst.bind (Rel2 := fRel) (Pst.later pr l2) fun r s3 v3 H3 ms3 _ l3 sm3 r3 p3 => ?_⟩
    have l03 := (l.trans l2).trans l3
    cases r with
    | nx ρ3 =>
      cases v3 with
      | nx σ3 => exact ⟨hlt, ms3, s3, ρ3, l03, sm3, r3, p3⟩
      | _ => exact r3.elim
    | ct ρ3 =>
      cases v3 with
      | ct σ3 => exact ⟨hlt, ms3, s3, ρ3, l03, sm3, r3, p3⟩
      | _ => exact r3.elim
    | bk ρ3 =>
      cases v3 with
      | bk σ3 => exact Pst.ok (Rel := fRel) (b := FV.nx σ3) p3 sm3 r3
      | _ => exact r3.elim
    | rt d =>
      cases v3 with
      | rt v => exact Pst.ok (Q := qD W D) (Rel := fRel) (b := FV.rt v) p3 sm3 r3
      | _ => exact r3.elim
    | xn c ds ρ3 =>
      cases v3 with
      | xn cls d σ3 => exact Pst.ok (Q := qD W D) (Rel := fRel) (b := FV.xn cls d σ3) p3 sm3 r3
      | _ => exact r3.elim
  · have e : i = xs.length := by omega
    subst e
    rw [List.drop_length] at pr
    exact .inl ⟨ws, Pst.ok (Rel := fRel) (b := FV.nx σ') pr smF er'⟩
theorem st_while {c : Expr} {body : List Stmt} {x : Mi.E} {b : Ss} {pos : Pos} (hp : PassesOwn (model X.prog X.w) X.A X.env X.xe) (hc : PT X c (tT X0 C W x)) (hb : PSs X body (tSts C W b)) : PS X (.While c body [] pos) (tSt C W (.while_ x b)) := PS.imp (ps_while hp hc hb) fun D σ H ⟨F, ρ, ms, st, sm, er, p⟩ => by
  simp only [evS] at p
  generalize 1000 = n0 at p
  refine ⟨fun n σ' H' => ∃ F' ms' s' ρ', Sm F' H' ms' s' ∧ EnvR H' (Mt F' ms' s') ms' ρ' σ' ∧ Pst X0 F' fRel (whileL (fun ρ s => tst (evE C x ρ s)) (evSs C b) n ρ' s') H' ms' s' (qD W D) XE0, ⟨n0, F, ms, st, ρ, sm, er, p⟩, ?_⟩
  rintro n σ' H' ⟨F', ms', s', ρ', smF, er', pr⟩
  cases n with
  | zero => exact pr.elim
  | succ n =>
  refine ⟨F', ρ', ms', s', smF, er', Pst.stm (Rel2 := bRel) er' pr fun d s1 v H1 ms1 _ l1 sm1 r1 p1 => ?_⟩
  have e : d = v := r1
  subst e
  cases d with
  | false => rw [if_neg (by decide)]; exact Pst.ok (Rel := fRel) (a := Fl.nx ρ') (b := FV.nx σ') (by simpa using p1) sm1 (er'.later l1)
  | true =>
    rw [if_pos rfl]
    simp only [if_true] at p1
    refine ⟨fun σ'' H'' => ∃ F' ms' s' ρ', Sm F' H'' ms' s' ∧ EnvR H'' (Mt F' ms' s') ms' ρ' σ'' ∧ Pst X0 F' fRel (whileL (fun ρ s => tst (evE C x ρ s)) (evSs C b) n ρ' s') H'' ms' s' (qD W D) XE0, fun σ'' H'' q => ⟨n, by omega, q⟩, F', ρ', ms1, s1, sm1, er'.later l1, Pst.bind (Rel2 := fRel) p1 fun r s3 v3 H3 ms3 _ l3 sm3 r3 p3 => ?_⟩
    cases r with
    | nx ρ3 =>
      cases v3 with
      | nx σ3 => exact ⟨F', ms3, s3, ρ3, sm3, r3, p3⟩
      | _ => exact r3.elim
    | ct ρ3 =>
      cases v3 with
      | ct σ3 => exact ⟨F', ms3, s3, ρ3, sm3, r3, p3⟩
      | _ => exact r3.elim
    | bk ρ3 =>
      cases v3 with
      | bk σ3 => exact Pst.ok (Rel := fRel) (b := FV.nx σ3) p3 sm3 r3
      | _ => exact r3.elim
    | rt d =>
      cases v3 with
      | rt v => exact Pst.ok (Q := qD W D) (Rel := fRel) (b := FV.rt v) p3 sm3 r3
      | _ => exact r3.elim
    | xn c ds ρ3 =>
      cases v3 with
      | xn cls d σ3 => exact Pst.ok (Q := qD W D) (Rel := fRel) (b := FV.xn cls d σ3) p3 sm3 r3
      | _ => exact r3.elim
end
end Mi
end

section
set_option linter.all false
set_option maxRecDepth 100000
set_option autoImplicit false
/-! Mi: raise, and try with except clauses. -/
namespace Mi
open PySem L2
theorem Rs.stm_bind {α β : Type} {r : Rs α} {f : α → Sto → Rs β} {ρ : Env} {g : β → Sto → Rs Fl} : (r.bind f).stm ρ g = r.stm ρ fun a s => (f a s).stm ρ g := by cases r <;> rfl
theorem sok {α : Type} {a : α} {s : Sto} {ρ : Env} {g : α → Sto → Rs Fl} : (Rs.ok a s).stm ρ g = g a s := rfl
variable [Cls]
section
variable {X : Cx} {P : List Fn} {k : Nat} {W : WX} {x : PySem.Str}
theorem st_rse1 {i c : Nat} {f : PySem.Str} {a : Expr} {e : Mi.E} {p pos pos' : Pos} (hc : X.calm = true) (tk : Takes X W) (T : ErX P X x i c (some f)) (hr : Room k X.A) (hg : Gl X x) (hd : (x == ("__debug__" : PySem.Str)) = false) (he : PE X a (tE X0 (callN P k) W e)) (hs : notStar a = true) :
    PS X (.Raise (some (.Call (.Name x p) [a] [] pos)) none pos') (tSt (callN P k) W (.rse (.call i (.cons e .nil)))) := by
  refine PS.imp (ps_raise hc tk (pmk_er1 T.cls.1 (raises_own T.rs.1 T.rs.2) hg he hd (starEach_cons hs))) fun D σ H h => ?_
  obtain ⟨F, ρ, ms, st, sm, er, q⟩ := h
  simp only [evS, evE, evEs, Rs.stm_bind, sok] at q
  refine ⟨F, ρ, ms, st, sm, er, Pst.stm er q fun d s1 v H1 ms1 _ l1 sm1 r1 p1 => ?_⟩
  obtain ⟨j, h1, h2⟩ := T.fns
  obtain ⟨_, hf, _⟩ := T.cls
  rcases mk1 (d := d) (s := s1) h1 h2 k with z | ⟨hk, z⟩
  · rw [z] at p1; exact p1.elim
  · rw [z] at p1
    refine ⟨hr.mono hk, fun dx hdx => ?_⟩
    have l2 := later_new (o := .xd [(f, v)]) sm1 hdx
    refine p1 (.xn (.ref (Cls.ca c)) (some dx) σ) _ ms1 l2 (sm1.new hdx) ⟨(er.later l1).later l2, rfl, by rw [hf]; rfl, sm1.not_mt hdx, [v], by rw [upd_same, hf]; rfl, Rps.cons (Rp.later l2 _ _ r1) Rps.nil⟩
theorem st_rse0 {i c : Nat} {p pos pos' : Pos} (hc : X.calm = true) (tk : Takes X W) (T : ErX P X x i c none) (hg : Gl X x) (hd : (x == ("__debug__" : PySem.Str)) = false) :
    PS X (.Raise (some (.Call (.Name x p) [] [] pos)) none pos') (tSt (callN P k) W (.rse (.call i .nil))) := by
  refine PS.imp (ps_raise hc tk (pmk_er0 T.cls.1 (raises_own T.rs.1 T.rs.2) hg hd)) fun D σ H h => ?_
  obtain ⟨F, ρ, ms, st, sm, er, q⟩ := h
  simp only [evS, evE, evEs, Rs.stm_bind, sok] at q
  obtain ⟨j, h1, h2⟩ := T.fns
  rcases mk0 (s := st) h1 h2 k with z | ⟨hk, z⟩
  · rw [z] at q; exact q.elim
  · rw [z] at q
    exact q (.xn (.ref (Cls.ca c)) none σ) H ms Later.refl sm ⟨er, rfl, by rw [T.cls.2]; rfl, T.cls.2⟩
end
theorem EnvR.none {H : Hp} {mt : Addr → Prop} {ms : List Addr} {ρ : Env} {σ : L2.St} {i : Nat} (h : EnvR H mt ms ρ σ) : EnvR H mt ms (ρ.set i none) (σ.set i none) := by
  refine ⟨by simp [h.1], fun j x e => ?_⟩
  by_cases hj : i = j
  · subst hj
    by_cases hl : i < ρ.length
    · rw [List.getElem?_set_self hl] at e; cases e
    · rw [List.getElem?_eq_none (by simpa using hl)] at e; cases e
  · rw [List.getElem?_set_ne hj] at e ⊢
    exact h.2 j x e
section
variable {F : Addr → Prop} {H : Hp} {ms : List Addr} {st : Sto} {dx : Addr} {fs : List (PySem.Str × V)}
theorem not_ms (nm : ¬ Mt F ms st dx) {i : Nat} {o : Ob} (h1 : ms[i]? = some dx) (h2 : st[i]? = some o) : o = .dead := Classical.byContradiction fun n => nm (.inr ⟨i, o, h1, h2, n⟩)
theorem later_xd {od : Obj} {u : HO} (ex : H dx = some (.xd fs)) (nm : ¬ Mt F ms st dx) : Later F H ms st (upd H dx (.frz od u)) ms st := by
  have ne : ∀ {b : Addr} {o : HO}, H b = some o → o ≠ .xd fs → b ≠ dx := fun {b o} z n q => by
    rw [q, ex] at z
    cases z
    exact n rfl
  refine ⟨fun _ _ h => h, fun _ _ h => h, fun a vs _ h => ?_, fun a vs h => ?_, fun a u _ h => ?_, fun a h => ?_, fun a o u h => ?_, fun a h => ?_⟩
  · rw [upd_ne (ne h nofun)]; exact h
  · rw [upd_ne (ne h nofun)]; exact h
  · unfold Rd at h ⊢
    rcases h with h | ⟨o, h⟩
    · rw [upd_ne (ne h nofun)]; exact .inl h
    · rw [upd_ne (ne h nofun)]; exact .inr ⟨o, h⟩
  · by_cases e : a = dx
    · subst e; rw [upd_same]; exact nofun
    · rw [upd_ne e]; exact h
  · rw [upd_ne (ne h nofun)]; exact h
  · exact upd_ne fun e => nm (.inl (e ▸ h))
theorem Sm.xd {od : Obj} {u : HO} (s : Sm F H ms st) (ex : H dx = some (.xd fs)) (nm : ¬ Mt F ms st dx) : Sm F (upd H dx (.frz od u)) ms st := by
  have l := later_xd (od := od) (u := u) ex nm
  refine ⟨s.nd, s.len, fun i a ob h1 h2 => ?_, fun a h => l.ne a (s.has a h), fun a h => l.ne a (s.fr a h), s.frn⟩
  by_cases e : a = dx
  · subst e
    obtain rfl := not_ms nm h1 h2
    trivial
  · exact (s.at_ i a ob h1 h2).later l (upd_ne e)
end
/-- except clauses, read -/
inductive HsOk (X : Cx) (C : Nat → List D → Sto → Rs D) : List ExceptHandler → Hs → List Cl → Prop
  | nil : HsOk X C [] .nil []
  | cons {x : PySem.Str} {c : Value} {b₀ : Stmt} {suite : List Stmt} {np pos' : Pos} {hds : List ExceptHandler} {no yes : List Nat} {s : Ss} {r : Hs} {l : List Cl} (hc : Names X x c)
      (hy : ∀ a ∈ yes, PySem.W.exmOne X.K (.ref (Cls.ca a)) c = some true) (hn : ∀ a ∈ no, PySem.W.exmOne X.K (.ref (Cls.ca a)) c = some false)
      (hsu : ∀ (a : Addr) (pn : List (Addr × Obj)), PSs (X.suite a pn) (b₀ :: suite) (tSts C XN s)) (rr : HsOk X C hds r l) :
      HsOk X C (.ExceptHandler (some (.Name x np)) none (b₀ :: suite) pos' :: hds) (.cons no yes none s r) (⟨c, none, tSts C XN s⟩ :: l)
  | as_ {x n : PySem.Str} {i : Nat} {c : Value} {b₀ : Stmt} {suite : List Stmt} {np pos' : Pos} {hds : List ExceptHandler} {no yes : List Nat} {s : Ss} {r : Hs} {l : List Cl} (hN : X.N.Nodup) (hi : X.N[i]? = some n) (hln : X.env.kindOf n = some .local) (hc : Names X x c)
      (hy : ∀ a ∈ yes, PySem.W.exmOne X.K (.ref (Cls.ca a)) c = some true) (hn : ∀ a ∈ no, PySem.W.exmOne X.K (.ref (Cls.ca a)) c = some false)
      (hsu : ∀ (a : Addr) (pn : List (Addr × Obj)), PSs (X.suite a pn) (b₀ :: suite) (tSts C XN s)) (rr : HsOk X C hds r l) :
      HsOk X C (.ExceptHandler (some (.Name x np)) (some n) (b₀ :: suite) pos' :: hds) (.cons no yes (some i) s r) (⟨c, some i, tSts C XN s⟩ :: l)
section
variable {X : Cx} {C : Nat → List D → Sto → Rs D} {W : WX}
theorem HsOk.cl {hds : List ExceptHandler} {hs : Hs} {l : List Cl} (h : HsOk X C hds hs l) : ClOk X hds l := by
  induction h with
  | nil => exact .nil
  | cons hc _ _ hsu _ ih => exact .cons hc hsu ih
  | as_ hN hi hln hc _ _ hsu _ ih => exact .as_ hN hi hln hc hsu ih
/-- a suite that is entered -/
theorem ent_ok {D : Ends} {F : Addr → Prop} {H : Hp} {ms : List Addr} {s : Sto} {ρ : Env} {σ : L2.St} {c : Nat} {ds : List Mi.D} {cls : Value} {d : Option Addr} {cv : Value} {i : Option Nat} {su : Ss} (sm : Sm F H ms s) (er : EnvR H (Mt F ms s) ms ρ σ) (x : X0 H (Mt F ms s) ms c ds cls d)
    (p : Pst X0 F fRel ((evSs C su (setO i (.exc c ds) ρ) s).bind fun r s1 => match r with
      | .nx ρ1 => .ok (.nx (clrO i ρ1)) s1
      | .rt d => .ok (.rt d) s1
      | _ => .stuck) H ms s (qD W D) XE0) (a : Addr) (oa : Obj) (na : H a = none) (hcl : oa.cls = cls) (hdi : oa.dict = d) (hn : PySem.W.notCls oa = true) : wEnt D ⟨cv, i, tSts C XN su⟩ d σ H a oa := by
  obtain ⟨rfl, hz, x⟩ := x
  -- what is left to say of any heap that has the error as a value
  have main : ∀ {H' : Hp}, Later F H ms s H' ms s → Sm F H' ms s → Rp H' (Mt F ms s) ms (.exc c ds) (.ref a) → tSts C XN su (Cl.en ⟨cv, i, tSts C XN su⟩ D) (Cl.st ⟨cv, i, tSts C XN su⟩ a σ) H' := fun {H'} l sm' re => by
    have er' := er.later l
    refine ⟨F, setO i (.exc c ds) ρ, ms, s, sm', ?_, Pst.bind (Rel2 := fRel) (Pst.later p l) fun r s1 v H1 ms1 _ l1 sm1 r1 p1 => ?_⟩
    · cases i with
      | none => exact er'
      | some i => exact er'.set re
    · cases r with
      | nx ρ1 =>
        cases v with
        | nx σ1 =>
          refine Pst.ok (Q := qD W D) (Rel := fRel) (b := FV.nx (Cl.un ⟨cv, i, tSts C XN su⟩ σ1)) p1 sm1 ?_
          cases i with
          | none => exact r1
          | some i => exact EnvR.none r1
        | _ => exact r1.elim
      | rt dd =>
        cases v with
        | rt v => exact Pst.ok (Q := qD W D) (Rel := fRel) (b := FV.rt v) p1 sm1 r1
        | _ => exact r1.elim
      | _ => exact p1.elim
  cases d with
  | none =>
    have l := later_new (o := .frz oa (.ext fun _ => True)) sm na
    refine main l (sm.new na) ?_
    have x : Cls.fl c = [] := x
    have e : ds = [] := by rw [x] at hz; exact List.length_eq_zero_iff.mp hz
    subst e
    simp only [Rp]
    exact ⟨a, oa, _, [], rfl, upd_same, hcl, hn, by rw [hdi]; exact x, hz, Rps.nil⟩
  | some dx =>
    obtain ⟨nm, vs, ex, r⟩ := x
    refine ⟨_, ex, fun od => ?_⟩
    have ne : a ≠ dx := fun e => by rw [e, ex] at na; cases na
    have l1 := later_xd (od := od) (u := exd dx ((Cls.fl c).zip vs)) ex nm
    have s1 := sm.xd (od := od) (u := exd dx ((Cls.fl c).zip vs)) ex nm
    have na1 : upd H dx (.frz od (exd dx ((Cls.fl c).zip vs))) a = none := by rw [upd_ne ne]; exact na
    have l2 := later_new (o := .frz oa (.ext fun _ => True)) s1 na1
    refine main (l1.trans l2) (s1.new na1) ?_
    simp only [Rp]
    refine ⟨a, oa, _, vs, rfl, upd_same, hcl, hn, ?_, hz, Rps.later (l1.trans l2) _ _ r⟩
    rw [hdi]
    exact ⟨od, by rw [upd_ne (Ne.symm ne), upd_same]⟩
theorem HsOk.wish {hds : List ExceptHandler} {hs : Hs} {l : List Cl} (h : HsOk X C hds hs l) {D : Ends} {F : Addr → Prop} {H : Hp} {ms : List Addr} {s : Sto} {ρ : Env} {σ : L2.St} {c : Nat} {ds : List Mi.D} {cls : Value} {d : Option Addr} (sm : Sm F H ms s) (er : EnvR H (Mt F ms s) ms ρ σ) (x : X0 H (Mt F ms s) ms c ds cls d)
    (p : Pst X0 F fRel (evH C hs c ds ρ s) H ms s (qD W D) XE0) : wCl X.K W D l cls d σ H := by
  induction h with
  | nil =>
    simp only [evH] at p
    exact Pst.ok (Q := qD W D) (Rel := fRel) (b := FV.xn cls d σ) p sm ⟨er, x⟩
  | cons hc hy hn hsu rr ih =>
    simp only [evH] at p
    split at p
    · rename_i hh
      refine ⟨true, by rw [x.1]; exact hy c (List.contains_iff_mem.mp hh), fun _ a oa => ent_ok sm er x p a oa, fun z => nomatch z⟩
    · split at p
      · rename_i hh
        exact ⟨false, by rw [x.1]; exact hn c (List.contains_iff_mem.mp hh), fun z => (nomatch z), fun _ => ih p⟩
      · exact p.elim
  | as_ hN hi hln hc hy hn hsu rr ih =>
    simp only [evH] at p
    split at p
    · rename_i hh
      refine ⟨true, by rw [x.1]; exact hy c (List.contains_iff_mem.mp hh), fun _ a oa => ent_ok sm er x p a oa, fun z => nomatch z⟩
    · split at p
      · rename_i hh
        exact ⟨false, by rw [x.1]; exact hn c (List.contains_iff_mem.mp hh), fun z => (nomatch z), fun _ => ih p⟩
      · exact p.elim
theorem st_try {body : List Stmt} {h₀ : ExceptHandler} {hds : List ExceptHandler} {b : Ss} {hh : Hs} {l : List Cl} {pos : Pos} (hs : X.stack = X.env :: X.outer) (hf : X.env.frame = some X.env.locals) (hex : X.ex = []) (tk : Takes X W)
    (hb : ∀ (W' : WX) (pn : List (Addr × Obj)) (xe : Value → Shared → Prop), Takes (X.tr pn xe) W' → PassesOwn (model X.prog X.w) X.A X.env xe → PSs (X.tr pn xe) body (tSts C W' b))
    (ho : HsOk X C (h₀ :: hds) hh l) : PS X (.Try body (h₀ :: hds) [] [] pos) (tSt C W (.try_ b hh)) :=
  PS.imp (ps_try_cl hs hf hex tk hb ho.cl) fun D σ H ⟨F, ρ, ms, st, sm, er, p⟩ => by
    refine ⟨F, ρ, ms, st, sm, er, Pst.bind (Rel2 := fRel) p fun r s1 v H1 ms1 _ l1 sm1 r1 p1 => ?_⟩
    cases r with
    | nx ρ1 =>
      cases v with
      | nx σ1 => exact Pst.ok (Q := qD W D) (Rel := fRel) (b := FV.nx σ1) p1 sm1 r1
      | _ => exact r1.elim
    | rt d =>
      cases v with
      | rt v => exact Pst.ok (Q := qD W D) (Rel := fRel) (b := FV.rt v) p1 sm1 r1
      | _ => exact r1.elim
    | bk d =>
      cases v with
      | bk v => exact Pst.ok (Q := qD W D) (Rel := fRel) (b := FV.bk v) p1 sm1 r1
      | _ => exact r1.elim
    | ct d =>
      cases v with
      | ct v => exact Pst.ok (Q := qD W D) (Rel := fRel) (b := FV.ct v) p1 sm1 r1
      | _ => exact r1.elim
    | xn c ds ρ1 =>
      cases v with
      | xn cls d σ1 => exact ho.wish sm1 r1.1 r1.2 p1
      | _ => exact r1.elim
end
end Mi
end

section
set_option linter.all false
set_option maxRecDepth 100000
set_option autoImplicit false
/-! Mi: the check of a body; a def. -/
namespace Mi
open PySem L2
variable [Cls]
def isComp : Expr → Bool
  | .ListComp .. => true
  | .SetComp .. => true
  | .DictComp .. => true
  | _ => false
def noSw (n : Nat) : Expr → Bool
  | .Tuple vs _ _ => !(n == 2 || n == 3) || vs.all (foldedForSure 8)
  | _ => true
/-- some name is not a plain local -/
def noLoc (G : Ct) (ts : List Expr) : Bool := ts.any fun t => match t with
  | .Name x _ => decide (G.sc.names.lookup x ≠ some .local)
  | _ => false
/-- name = [..]: the list is stored within the block -/
def swC (G : Ct) (x : PySem.Str) (px : Pos) : Expr → Bool
  | .ListComp _ _ scope pos => decide (G.sc.names.lookup x = some .local) && (px.line == pos.line) && !(scope.names.any fun (n, k) => n == x && (k == .local || k == .cell))
  | .DictComp _ _ _ scope pos => decide (G.sc.names.lookup x = some .local) && (px.line == pos.line) && !(scope.names.any fun (n, k) => n == x && (k == .local || k == .cell))
  | _ => false
def isCompE : Mi.E → Bool
  | .comp .. => true
  | .comp2 .. => true
  | .dcomp .. => true
  | _ => false
def isLoc (G : Ct) (i : Nat) (x : PySem.Str) : Bool := decide (G.N[i]? = some x) && decide (G.sc.names.lookup x = some .local)
/-- a, b = v, w: stored from the right -/
def okPar (G : Ct) (tg : List Nat) (e : Mi.E) (ts : List Expr) (v : Expr) : Bool := match tg, e, ts, v with
  | [i, j], .tup es, [.Name x px, .Name y py], .Tuple [a, b] _ _ => G.calm && isLoc G i x && isLoc G j y && decide (i ≠ j) && decide (x ≠ y) && (py.line == px.line) && okEs G [a, b] es && !(([a, b] : List Expr).all (foldedForSure 8)) && !(([a, b] : List Expr).all (constantsAlone 8))
  | _, _, _, _ => false
mutual
def okS (G : Ct) (st : Stmt) : S → Bool
  | .set i e => match st with
    | .Assign [.Name x px] v _ => okW G i x && okE G v e && (!isComp v || decide (G.sc.names.lookup x ≠ some .local) || (G.calm && isCompE e && swC G x px v))
    | _ => false
  | .unp tg e => match st with
    | .Assign [.Tuple ts a b] v _ => !isComp v && okE G v e && ((okTg G (.Tuple ts a b) tg && (noSw ts.length v || noLoc G ts)) || okPar G tg e ts v)
    | _ => false
  | .setix o i e => match st with
    | .Assign [.Subscript oe ie _] v _ => !isComp v && notSl ie && okE G v e && okE G oe o && okE G ie i
    | _ => false
  | .expr e => match st with
    | .Expr a _ => okE G a e && !isComp a
    | _ => false
  | .ifs c a b => match st with
    | .If t p q _ => okE G t c && okSs G p a && okSs G q b
    | _ => false
  | .for_ tg src body => match st with
    | .For t it b [] _ => G.calm && notSet it && okSr G t it src && okTg G t tg && okSs G b body
    | _ => false
  | .while_ c body => match st with
    | .While t b [] _ => okE G t c && okSs G b body
    | _ => false
  | .ret e => match st with
    | .Return (some a) _ => okE G a e
    | _ => false
  | .retn => match st with
    | .Return none _ => true
    | _ => false
  | .pass => match st with
    | .Pass _ => true
    | _ => false
  | .brk => match st with
    | .Break _ => true
    | _ => false
  | .cont => match st with
    | .Continue _ => true
    | _ => false
  | .rse e => match st with
    | .Raise (some (.Call (.Name x _) as [] _)) none _ => G.calm && gl G.sc x && nodeb x && as.all notStar && (match e with
      | .call i es => erC G x i as.length && okEs G as es
      | _ => false)
    | _ => false
  | .try_ b hs => match st with
    | .Try body (h :: hds) [] [] _ => okSs G body b && okHs G (h :: hds) hs
    | _ => false
  | _ => false
def okSs (G : Ct) (sts : List Stmt) : Ss → Bool
  | .nil => sts.isEmpty
  | .cons (.frz i) ss => okSs G sts ss
  | .cons s ss => match sts with
    | st :: r => okS G st s && okSs G r ss
    | [] => false
def okHs (G : Ct) (hds : List ExceptHandler) : Hs → Bool
  | .nil => hds.isEmpty
  | .cons no yes i s r => match hds with
    | .ExceptHandler (some (.Name x _)) nm (b :: su) _ :: rest => gl G.sc x && nodeb x && decide ((x, no, yes) ∈ G.is) && (G.er.any fun q => decide (q.1 = x)) && (match nm, i with
        | none, none => true
        | some n, some j => isLoc G j n
        | _, _ => false) && okSs G.sui (b :: su) s && okHs G rest r
    | _ => false
end
structure CsOk (P : List Fn) (k : Nat) (G : Ct) (W : WX) (X : Cx) : Prop where
  ct : CtOk P k G W X
  own : PassesOwn (model X.prog X.w) X.A X.env X.xe
  kind : X.env.scope.kind = .function
  hs : X.stack = X.env :: X.outer
  hf : X.env.frame = some X.env.locals
  hex : X.ex = []
section
theorem noComp_sw {v : Expr} {t : Option Expr} {l : Nat} {env : PySem.Env} (h : isComp v = false) : swapsWith v t l env = pure false := by
  cases v <;> first | rfl | cases h
theorem noSw_sole {ts : List Expr} {a : Nat} {b : Pos} {v : Expr} {l : Nat} {env : PySem.Env} (h : isComp v = false) : swapsWithSole [.Tuple ts a b] v l env = pure false := by
  unfold swapsWithSole; exact noComp_sw h
theorem noSw_sole1 {x : PySem.Str} {p : Pos} {v : Expr} {l : Nat} {env : PySem.Env} (h : isComp v = false) : swapsWithSole [.Name x p] v l env = pure false := by
  unfold swapsWithSole; exact noComp_sw h
theorem fm_short {α β : Type} {f : α → Option β} : ∀ {ts : List α}, (∃ t ∈ ts, f t = none) → (ts.filterMap f).length < ts.length
  | [], h => by obtain ⟨t, h, _⟩ := h; cases h
  | t :: ts, h => by
    have le := List.length_filterMap_le f ts
    obtain ⟨u, hu, e⟩ := h
    rw [List.filterMap_cons]
    cases hu with
    | head => rw [e]; simp only [List.length_cons]; omega
    | tail _ hu =>
      have ih := fm_short (ts := ts) ⟨u, hu, e⟩
      split
      · simp only [List.length_cons]; omega
      · simp only [List.length_cons]; omega
theorem noLoc_stores {G : Ct} {ts : List Expr} {a : Nat} {b : Pos} {v : Expr} {env : PySem.Env} (hsc : env.scope = G.sc) (h : noLoc G ts = true) : swappedStores [.Tuple ts a b] v env = pure none := by
  cases v with
  | Tuple vs _ _ =>
    unfold noLoc at h
    rw [List.any_eq_true] at h
    obtain ⟨t, ht, h⟩ := h
    split at h
    · rename_i x p
      have h := of_decide_eq_true h
      have hk : (env.kindOf x == some .local) = false := by
        have e : env.kindOf x = G.sc.names.lookup x := by rw [← hsc]; rfl
        rw [e]
        exact beq_eq_false_iff_ne.mpr h
      unfold swappedStores
      simp only
      split
      · rfl
      · split
        · rfl
        · rw [if_pos (by
            rw [Bool.or_eq_true]
            refine .inl (bne_iff_ne.mpr (Nat.ne_of_lt (fm_short ⟨_, ht, ?_⟩)))
            simp only [hk, Bool.false_and]
            rfl)]
    · cases h
  | _ => rfl
theorem noSw_stores {ts : List Expr} {a : Nat} {b : Pos} {v : Expr} {env : PySem.Env} (h : noSw ts.length v = true) : swappedStores [.Tuple ts a b] v env = pure none := by
  cases v with
  | Tuple vs _ _ =>
    unfold noSw at h
    simp only [Bool.or_eq_true] at h
    unfold swappedStores
    simp only
    rcases h with h | h
    · simp only [h, Bool.true_or, if_true]
    · repeat' (first | rfl | split | (rw [if_pos h]; rfl))
  | _ => rfl
end
section
variable {P : List Fn} {k : Nat} {G : Ct} {W : WX} {X : Cx}
theorem noLoc_sw {v : Expr} {x : PySem.Str} {px : Pos} {l : Nat} {env : PySem.Env} (h : (env.kindOf x == some .local) = false) : swapsWith v (some (.Name x px)) l env = pure false := by
  cases v with
  | ListComp => unfold swapsWith; simp only [h, Bool.and_false, Bool.false_and]
  | SetComp => unfold swapsWith; simp only [h, Bool.and_false, Bool.false_and]
  | DictComp => unfold swapsWith; simp only [h, Bool.and_false, Bool.false_and]
  | _ => rfl
theorem setN_ok {i : Nat} {x : PySem.Str} {px pos : Pos} {v : Expr} {e : Mi.E} (hw : okW G i x = true) (he : okE G v e = true) (hn : G.sc.names.lookup x ≠ some .local) (g : CsOk P k G W X) : PS X (.Assign [.Name x px] v pos) (tSt (callN P k) W (.set i e)) := by
  have hk : (X.env.kindOf x == some .local) = false := by
    have e : X.env.kindOf x = G.sc.names.lookup x := by rw [← g.ct.sc]; rfl
    rw [e]
    exact beq_eq_false_iff_ne.mpr hn
  exact PS.imp (ps_asg (okE_ok e G _ X _ he g.ct).pe (okW_ok hw g.ct) (by unfold swapsWithSole; exact noLoc_sw hk) (by cases v <;> rfl) rfl) fun D σ H h => by
    have q := asg_imp (K := X.K) (tg := [i]) (s := .set i e) (x := e) (fun ρ st => rfl) h
    exact q
theorem set_ok {i : Nat} {x : PySem.Str} {px pos : Pos} {v : Expr} {e : Mi.E} (hw : okW G i x = true) (he : okE G v e = true) (hc : isComp v = false) (g : CsOk P k G W X) : PS X (.Assign [.Name x px] v pos) (tSt (callN P k) W (.set i e)) :=
  PS.imp (ps_asg (okE_ok e G _ X _ he g.ct).pe (okW_ok hw g.ct) (noSw_sole1 hc) (by cases v <;> rfl) rfl) fun D σ H h => by
    have q := asg_imp (K := X.K) (tg := [i]) (s := .set i e) (x := e) (fun ρ st => rfl) h
    exact q
theorem setC_ok {i : Nat} {x : PySem.Str} {px pos : Pos} {v : Expr} {e : Mi.E} (hcm : G.calm = true) (hw : okW G i x = true) (he : okE G v e = true) (hce : isCompE e = true) (hs : swC G x px v = true) (g : CsOk P k G W X) : PS X (.Assign [.Name x px] v pos) (tSt (callN P k) W (.set i e)) := by
  unfold isCompE at hce
  split at hce
  · rename_i m elt tg src ifs own
    simp only [okE] at he
    rw [Bool.and_eq_true] at he
    obtain ⟨_, he⟩ := he
    split at he
    · rename_i el t it fs asy scope cpos h1
      have hv : v = .ListComp el [⟨t, it, fs, asy⟩] scope cpos := by
        cases v with
        | BoolOp op l p =>
          match l, h1 with
          | [a], h1 =>
            have h1 : a = _ := h1
            cases hs
          | [], h1 => exact h1
          | _ :: _ :: _, h1 => exact h1
        | _ => exact h1
      subst hv
      simp only [swC, Bool.and_eq_true, decide_eq_true_eq, Bool.not_eq_true'] at hs
      simp only [Bool.and_eq_true, decide_eq_true_eq] at he
      obtain ⟨⟨⟨⟨⟨⟨rfl, h2⟩, h3⟩, h4⟩, h5⟩, h6⟩, h7⟩ := he
      obtain ⟨⟨s1, s2⟩, s3⟩ := hs
      have g' := g.ct
      have bo := blkOk_by h4
      rw [← g'.N, ← g'.sc] at bo
      have hN : X.N[i]? = some x := by
        unfold okW at hw
        rw [Bool.and_eq_true] at hw
        rw [g'.N]; exact of_decide_eq_true hw.1
      have hl : X.env.scope.names.lookup x = some .local := by rw [g'.sc]; exact s1
      have ps := ps_setLc (i := i) (y := x) (py := px) (pos := cpos) (spos := pos) (elt := el) (g := gT X.K tg) (g'.calm hcm) g'.nd hN hl (sw_true g.kind hl s2 s3) (okSr_ok src G _ X _ _ h3 g') bo (fun s H C cl fp => okTg_ok h5 (g'.blk _ s H C cl fp)) (fun s H C cl fp => okTs_ok ifs _ _ _ _ h6 (g'.blk _ s H C cl fp)) (fun s H C cl fp => (okE_ok elt _ _ _ _ h7 (g'.blk _ s H C cl fp)).pe) (fun x => notSet_it h2)
      rw [g'.N, ownOf_snd] at ps
      refine PS.imp ps fun D σ H h => ?_
      have q := asg_imp (K := X.K) (tg := [i]) (s := .set i (.comp m elt tg src ifs own)) (x := .comp m elt tg src ifs own) (fun ρ st => rfl) h
      exact comp_imp (own := own) q
    · cases he
  · rename_i m elt tg src ifs tg2 src2 ifs2 o1 o2
    simp only [okE] at he
    rw [Bool.and_eq_true] at he
    obtain ⟨_, he⟩ := he
    split at he
    · rename_i el t it fs asy t2 it2 fs2 asy2 scope cpos h1
      have hv : v = .ListComp el [⟨t, it, fs, asy⟩, ⟨t2, it2, fs2, asy2⟩] scope cpos := by
        cases v with
        | BoolOp op l p =>
          match l, h1 with
          | [a], h1 =>
            have h1 : a = _ := h1
            cases hs
          | [], h1 => exact h1
          | _ :: _ :: _, h1 => exact h1
        | _ => exact h1
      subst hv
      simp only [swC, Bool.and_eq_true, decide_eq_true_eq, Bool.not_eq_true'] at hs
      simp only [Bool.and_eq_true, decide_eq_true_eq] at he
      obtain ⟨⟨⟨⟨⟨⟨⟨⟨⟨⟨⟨rfl, rfl⟩, h2⟩, h3⟩, h4⟩, h5⟩, h6⟩, h7⟩, h8⟩, h9⟩, h10⟩, h11⟩ := he
      obtain ⟨⟨s1, s2⟩, s3⟩ := hs
      have g' := g.ct
      have bo := blkOk_by h5
      rw [← g'.N, ← g'.sc] at bo
      have hN : X.N[i]? = some x := by
        unfold okW at hw
        rw [Bool.and_eq_true] at hw
        rw [g'.N]; exact of_decide_eq_true hw.1
      have hl : X.env.scope.names.lookup x = some .local := by rw [g'.sc]; exact s1
      have ps := ps_setLc2 (i := i) (y := x) (py := px) (pos := cpos) (spos := pos) (elt := el) (g := gT X.K tg) (g1 := gT X.K tg2) (vs1 := tg2) (g'.calm hcm) g'.nd hN hl (sw_true g.kind hl s2 s3) (okSr_ok src G _ X _ _ h4 g') bo (by rw [g'.N, ownOf_snd]; exact fun i hi => List.mem_append_right _ hi) (fun s H C cl fp => okTg_ok h6 (g'.blk _ s H C cl fp)) (fun s H C cl fp => okTs_ok ifs _ _ _ _ h7 (g'.blk _ s H C cl fp)) (fun s H C cl fp => okSr_ok src2 _ _ _ _ _ h8 (g'.blk _ s H C cl fp)) (fun s H C cl fp => okTg_ok h9 (g'.blk _ s H C cl fp)) (fun s H C cl fp => okTs_ok ifs2 _ _ _ _ h10 (g'.blk _ s H C cl fp)) (fun s H C cl fp => (okE_ok elt _ _ _ _ h11 (g'.blk _ s H C cl fp)).pe) (fun x => notSet_it h2) (fun env x => notSet_it h3)
      rw [g'.N, ownOf_snd] at ps
      refine PS.imp ps fun D σ H h => ?_
      have q := asg_imp (K := X.K) (tg := [i]) (s := .set i (.comp2 m elt tg src ifs tg2 src2 ifs2 o1 o2)) (x := .comp2 m elt tg src ifs tg2 src2 ifs2 o1 o2) (fun ρ st => rfl) h
      exact comp2_imp (o1 := o1) (o2 := o2) q
    · cases he
  · rename_i m kx vx tg src ifs own
    simp only [okE] at he
    rw [Bool.and_eq_true] at he
    obtain ⟨_, he⟩ := he
    split at he
    · rename_i ke ve t it fs asy scope cpos h1
      have hv : v = .DictComp ke ve [⟨t, it, fs, asy⟩] scope cpos := by
        cases v with
        | BoolOp op l p =>
          match l, h1 with
          | [a], h1 => cases hs
          | [], h1 => exact h1
          | _ :: _ :: _, h1 => exact h1
        | _ => exact h1
      subst hv
      simp only [swC, Bool.and_eq_true, decide_eq_true_eq, Bool.not_eq_true'] at hs
      simp only [Bool.and_eq_true, decide_eq_true_eq] at he
      obtain ⟨⟨⟨⟨⟨⟨⟨rfl, h2⟩, h3⟩, h4⟩, h5⟩, h6⟩, h7⟩, h8⟩ := he
      obtain ⟨⟨s1, s2⟩, s3⟩ := hs
      have g' := g.ct
      have bo := blkOk_by h4
      rw [← g'.N, ← g'.sc] at bo
      have hN : X.N[i]? = some x := by
        unfold okW at hw
        rw [Bool.and_eq_true] at hw
        rw [g'.N]; exact of_decide_eq_true hw.1
      have hl : X.env.scope.names.lookup x = some .local := by rw [g'.sc]; exact s1
      have ps := ps_setDc (i := i) (y := x) (py := px) (pos := cpos) (spos := pos) (kx := ke) (vx := ve) (g := gT X.K tg) (g'.calm hcm) g'.nd hN hl (swD_true g.kind hl s2 s3) (okSr_ok src G _ X _ _ h3 g') bo (fun s H C cl fp => okTg_ok h5 (g'.blk _ s H C cl fp)) (fun s H C cl fp => okTs_ok ifs _ _ _ _ h6 (g'.blk _ s H C cl fp)) (fun s H C cl fp => (okE_ok kx _ _ _ _ h7 (g'.blk _ s H C cl fp)).pe) (fun s H C cl fp => (okE_ok vx _ _ _ _ h8 (g'.blk _ s H C cl fp)).pe) (fun x => notSet_it h2)
      rw [g'.N, ownOf_snd] at ps
      refine PS.imp ps fun D σ H h => ?_
      have q := asg_imp (K := X.K) (tg := [i]) (s := .set i (.dcomp m kx vx tg src ifs own)) (x := .dcomp m kx vx tg src ifs own) (fun ρ st => rfl) h
      exact dcomp_imp (own := own) q
    · cases he
  · cases hce
theorem sub_assign {o i : Expr} {p : Pos} {env : PySem.Env} {v : Value} (h : notSl i = true) : assign (.Subscript o i p) env v = (do
      let ov ← holding [v] (eval o env)
      let iv ← holding [v, ov] (eval i env)
      standAt p
      holding [v, ov, iv] (setItem ov iv v)
      release [v, ov, iv] []) := by cases i <;> first | rfl | cases h
theorem setix_ok {oe ie v : Expr} {o i e : Mi.E} {p pos : Pos} (hv : PE X v (tE X0 (callN P k) W e)) (ho : PE X oe (tE X0 (callN P k) W o)) (hi : PE X ie (tE X0 (callN P k) W i)) (hc : isComp v = false) (hs : notSl ie = true) (g : CsOk P k G W X) : PS X (.Assign [.Subscript oe ie p] v pos) (tSt (callN P k) W (.setix o i e)) :=
  PS.imp (ps_asg hv (pg_sub ho hi (set_both (by have := g.ct.un; omega)) fun v => sub_assign hs) (by unfold swapsWithSole; exact noComp_sw hc) (by cases v <;> rfl) rfl) fun D σ H ⟨F, ρ, ms, st, sm, er, h⟩ => by
    refine ⟨F, ρ, ms, st, sm, er, Pst.stm er h fun dv s1 vv H1 ms1 _ l1 sm1 r1 p1 => ?_⟩
    refine ⟨F, ρ, ms1, s1, sm1, er.later l1, Pst.stm (er.later l1) p1 fun dO s2 ov H2 ms2 _ l2 sm2 r2 p2 => ?_⟩
    refine ⟨F, ρ, ms2, s2, sm2, (er.later l1).later l2, Pst.stm ((er.later l1).later l2) p2 fun di s3 iv H3 ms3 _ l3 sm3 r3 p3 => ?_⟩
    split at p3
    · rename_i s4 h4
      refine setD_ok sm3 (Rp.later l3 _ _ r2) r3 (Rp.later l3 _ _ (Rp.later l2 _ _ r1)) h4 fun H' l sm' => ?_
      exact p3 (.nx σ) H' ms3 l sm' ((((er.later l1).later l2).later l3).later l)
    · exact p3.elim
theorem sw2 {x y : PySem.Str} {px py b : Pos} {a c : Nat} {d : Pos} {v w : Expr} {env : PySem.Env} (hk : env.scope.kind = .function) (hx : env.scope.names.lookup x = some .local) (hy : env.scope.names.lookup y = some .local) (hl : (py.line == px.line) = true) (hne : x ≠ y) (s1 : notStar v = true) (s2 : notStar w = true)
    (f : ([v, w] : List Expr).all (foldedForSure 8) = false) (c8 : ([v, w] : List Expr).all (constantsAlone 8) = false) : swappedStores [.Tuple [.Name x px, .Name y py] a b] (.Tuple [v, w] c d) env = pure (some [x, y]) := by
  have bk : env.blockKind = .function := by unfold Env.blockKind; rw [hk]; rfl
  have kx : env.kindOf x = some .local := hx
  have ky : env.kindOf y = some .local := hy
  have st : ∀ {e : Expr}, notStar e = true → (match e with | .Starred .. => true | _ => false) = false := fun {e} h => by cases e <;> first | rfl | cases h
  have hd : ([x, y] : List PySem.Str).eraseDups = [x, y] := by
    have e : (y == x) = false := by simpa using fun z => hne z.symm
    simp [List.eraseDups_cons, e]
  unfold swappedStores
  simp only [bk, f, c8]
  have hl2 : py.line = px.line := by simpa using hl
  rw [if_neg (by simp), if_neg (fun z => by
    simp only [List.any_cons, List.any_nil, Bool.or_false] at z
    rw [Bool.or_eq_true] at z
    rcases z with z | z
    · exact absurd ((st s1).symm.trans z) (by decide)
    · exact absurd ((st s2).symm.trans z) (by decide))]
  simp [List.filterMap_cons, kx, ky, hl2, hd, Expr.pos]
theorem okTL_ok {ts : List Expr} {a : Nat} {b : Pos} {tg : List Nat} (h : okTg G (.Tuple ts a b) tg = true) (g : CtOk P k G W X) : PG X (.Tuple ts a b) (gTL X.K tg) := by
  unfold okTg at h
  split at h
  · rename_i z; cases z
  · rename_i z
    cases z
    rw [Bool.and_eq_true] at h
    obtain ⟨hc, h⟩ := h
    obtain ⟨q1, q2, q3⟩ := okTgs_ok h g
    have p1 := pg_tup (pos := b) (k := a) (g.calm hc) q1 q2 q3
    have p2 := pg_unl (pos := b) (k := a) (g.calm hc) q1 q2 q3
    exact ⟨fun pins s σ H v u Q I r hw => hw.elim (fun hw => p1.run pins s σ H v u Q I r hw) fun hw => p2.run pins s σ H v u Q I r hw⟩
  · cases h
theorem par_ok {tg : List Nat} {e : Mi.E} {ts : List Expr} {v : Expr} {a : Nat} {b pos : Pos} (h : okPar G tg e ts v = true) (g : CsOk P k G W X) : PS X (.Assign [.Tuple ts a b] v pos) (tSt (callN P k) W (.unp tg e)) := by
  unfold okPar at h
  split at h
  · rename_i i j es x px y py v w c d
    simp only [Bool.and_eq_true, decide_eq_true_eq, Bool.not_eq_true'] at h
    obtain ⟨⟨⟨⟨⟨⟨⟨⟨hc, h1⟩, h2⟩, h3⟩, h4⟩, h5⟩, h6⟩, h7⟩, h8⟩ := h
    unfold isLoc at h1 h2
    simp only [Bool.and_eq_true, decide_eq_true_eq] at h1 h2
    have qs := okEs_ok es G _ X _ h6 g.ct
    obtain ⟨p, q, rfl, _, s1, _, s2⟩ := qs.2.2.2 _ _ rfl
    have hx : X.env.scope.names.lookup x = some .local := by rw [g.ct.sc]; exact h1.2
    have hy : X.env.scope.names.lookup y = some .local := by rw [g.ct.sc]; exact h2.2
    refine PS.imp (ps_par (g.ct.calm hc) g.ct.nd (by rw [g.ct.N]; exact h1.1) (by rw [g.ct.N]; exact h2.1) h3 hx hy qs.1 (sw2 g.kind hx hy h5 h4 s1 s2 h7 h8) (noSw_sole rfl)) fun D σ H ⟨F, ρ, ms, st, sm, er, h⟩ => ?_
    simp only [evS, evE, Rs.stm_bind] at h
    refine ⟨F, ρ, ms, st, sm, er, Pst.stm er h fun ds s1 vs H1 ms1 _ l1 sm1 r1 p1 => ?_⟩
    split at p1
    · simp only [sok, tgtT] at p1
      split at p1
      · rename_i ρ1 hρ
        split at hρ
        · rename_i hl
          cases hρ
          match ds, hl, r1, p1 with
          | [d1, d2], _, r1, p1 =>
            obtain ⟨v1, us, rfl, rv1, r1⟩ := r1.uncons
            obtain ⟨v2, us, rfl, rv2, r1⟩ := r1.uncons
            simp only [Rps] at r1
            subst r1
            refine ⟨v1, v2, rfl, Pst.ok (Q := qD W D) (Rel := fRel) (b := FV.nx _) p1 sm1 ?_⟩
            simp only [setAll]
            exact ((er.later l1).set rv1).set rv2
        · cases hρ
      · exact p1.elim
    · exact p1.elim
  · cases h
mutual
theorem okS_ok : ∀ (s : S) (G : Ct) (W : WX) (X : Cx) (st : Stmt), okS G st s = true → CsOk P k G W X → PS X st (tSt (callN P k) W s)
  | .set i e, G, W, X, st, h, g => by
    simp only [okS] at h
    split at h
    · simp only [Bool.and_eq_true] at h
      obtain ⟨⟨h1, h2⟩, h3⟩ := h
      simp only [Bool.or_eq_true, Bool.and_eq_true, Bool.not_eq_true'] at h3
      rcases h3 with (h3 | h3) | ⟨⟨hc, h3⟩, h4⟩
      · exact set_ok h1 h2 h3 g
      · exact setN_ok h1 h2 (of_decide_eq_true h3) g
      · exact setC_ok hc h1 h2 h3 h4 g
    · cases h
  | .unp tg e, G, W, X, st, h, g => by
    simp only [okS] at h
    split at h
    · simp only [Bool.and_eq_true, Bool.not_eq_true', Bool.or_eq_true] at h
      obtain ⟨⟨h3, h2⟩, h1⟩ := h
      rcases h1 with ⟨h1, h4⟩ | h1
      · exact PS.imp (ps_asg (okE_ok e G _ X _ h2 g.ct).pe (okTL_ok h1 g.ct) (noSw_sole h3) (h4.elim noSw_stores (noLoc_stores g.ct.sc)) rfl) fun D σ H h => unp_imp h
      · exact par_ok h1 g
    · cases h
  | .setix o i e, G, W, X, st, h, g => by
    simp only [okS] at h
    split at h
    · simp only [Bool.and_eq_true, Bool.not_eq_true'] at h
      obtain ⟨⟨⟨⟨h1, h2⟩, h3⟩, h4⟩, h5⟩ := h
      exact setix_ok (okE_ok e G _ X _ h3 g.ct).pe (okE_ok o G _ X _ h4 g.ct).pe (okE_ok i G _ X _ h5 g.ct).pe h1 h2 g
    · cases h
  | .expr e, G, W, X, st, h, g => by
    simp only [okS] at h
    split at h
    · simp only [Bool.and_eq_true, Bool.not_eq_true'] at h
      exact st_expr (okE_ok e G _ X _ h.1 g.ct).pe (noComp_sw h.2)
    · cases h
  | .ifs c a b, G, W, X, st, h, g => by
    simp only [okS] at h
    split at h
    · simp only [Bool.and_eq_true] at h
      exact st_ifs (okE_ok c G _ X _ h.1.1 g.ct).pt (okSs_ok a _ _ _ _ h.1.2 g) (okSs_ok b _ _ _ _ h.2 g)
    · cases h
  | .for_ tg src body, G, W, X, st, h, g => by
    simp only [okS] at h
    split at h
    · simp only [Bool.and_eq_true] at h
      exact st_for g.own (g.ct.calm h.1.1.1.1) (okSr_ok src G _ X _ _ h.1.1.2 g.ct) (okTg_ok h.1.2 g.ct) (okSs_ok body _ _ _ _ h.2 g) (fun x => notSet_it h.1.1.1.2)
    · cases h
  | .while_ c body, G, W, X, st, h, g => by
    simp only [okS] at h
    split at h
    · simp only [Bool.and_eq_true] at h
      exact st_while g.own (okE_ok c G _ X _ h.1 g.ct).pt (okSs_ok body _ _ _ _ h.2 g)
    · cases h
  | .ret e, G, W, X, st, h, g => by
    simp only [okS] at h
    split at h
    · exact st_ret (okE_ok e G _ X _ h g.ct).pe
    · cases h
  | .retn, G, W, X, st, h, g => by
    simp only [okS] at h
    split at h
    · exact st_retn
    · cases h
  | .pass, G, W, X, st, h, g => by
    simp only [okS] at h
    split at h
    · exact st_pass
    · cases h
  | .brk, G, W, X, st, h, g => by
    simp only [okS] at h
    split at h
    · exact st_brk
    · cases h
  | .cont, G, W, X, st, h, g => by
    simp only [okS] at h
    split at h
    · exact st_cont
    · cases h
  | .frz _, G, W, X, st, h, g => by simp [okS] at h
  | .rse e, G, W, X, st, h, g => by
    simp only [okS] at h
    split at h
    · rename_i x p as pos pos'
      simp only [Bool.and_eq_true] at h
      obtain ⟨⟨⟨⟨hc, h2⟩, h3⟩, h4⟩, h5⟩ := h
      unfold nodeb at h3
      simp only [Bool.and_eq_true, Bool.not_eq_true'] at h3
      split at h5
      · rename_i i es
        rw [Bool.and_eq_true] at h5
        obtain ⟨h1, h5⟩ := h5
        have a := okEs_ok es G _ X _ h5 g.ct
        unfold erC at h1
        rw [List.any_eq_true] at h1
        obtain ⟨q, hq, h1⟩ := h1
        simp only [Bool.and_eq_true, decide_eq_true_eq] at h1
        obtain ⟨⟨e1, e2⟩, e3⟩ := h1
        have T := g.ct.er q hq
        obtain ⟨y, i', c, fo⟩ := q
        dsimp only at e1 e2 e3 T
        subst e1; subst e2
        cases fo with
        | none =>
          have : as = [] := by
            cases as with
            | nil => rfl
            | cons _ _ => simp at e3
          subst this
          obtain rfl := a.2.1 rfl
          exact st_rse0 (g.ct.calm hc) g.ct.tk T (gl_ok h2 g.ct) h3.1
        | some f =>
          match as, e3 with
          | [b], _ =>
            obtain ⟨y, rfl, py, sy⟩ := a.2.2.1 _ rfl
            exact st_rse1 (g.ct.calm hc) g.ct.tk T (g.ct.room hc) (gl_ok h2 g.ct) h3.1 py sy
      · cases h5
    · cases h
  | .try_ b hs, G, W, X, st, h, g => by
    simp only [okS] at h
    split at h
    · rw [Bool.and_eq_true] at h
      obtain ⟨l, ho⟩ := okHs_ok hs G W X _ h.2 g
      exact st_try g.hs g.hf g.hex g.ct.tk (fun W' pn xe tk own => okSs_ok b G W' (X.tr pn xe) _ h.1 ⟨g.ct.tr pn xe tk, own, g.kind, g.hs, g.hf, g.hex⟩) ho
    · cases h
theorem okSs_ok : ∀ (ss : Ss) (G : Ct) (W : WX) (X : Cx) (sts : List Stmt), okSs G sts ss = true → CsOk P k G W X → PSs X sts (tSts (callN P k) W ss)
  | .nil, G, W, X, sts, h, g => by
    cases sts with
    | nil => exact ss_nil
    | cons a as => simp [okSs] at h
  | .cons s ss, G, W, X, sts, h, g => by
    cases s with
    | frz i => exact ss_frz (okSs_ok ss _ _ _ _ (by simpa only [okSs] using h) g)
    | _ =>
      cases sts with
      | nil => simp [okSs] at h
      | cons a as =>
        simp only [okSs, Bool.and_eq_true] at h
        exact ss_cons (okS_ok _ _ _ _ _ h.1 g) (okSs_ok ss _ _ _ _ h.2 g)
theorem okHs_ok : ∀ (hs : Hs) (G : Ct) (W : WX) (X : Cx) (hds : List ExceptHandler), okHs G hds hs = true → CsOk P k G W X → ∃ l, HsOk X (callN P k) hds hs l
  | .nil, G, W, X, hds, h, g => by
    cases hds with
    | nil => exact ⟨_, .nil⟩
    | cons a as => simp [okHs] at h
  | .cons no yes i s r, G, W, X, hds, h, g => by
    simp only [okHs] at h
    split at h
    · rename_i x np nm b su pos' rest
      simp only [Bool.and_eq_true, decide_eq_true_eq] at h
      obtain ⟨⟨⟨⟨⟨⟨h1, h2⟩, h3⟩, h4⟩, h5⟩, h6⟩, h7⟩ := h
      obtain ⟨l, ho⟩ := okHs_ok r G W X _ h7 g
      unfold nodeb at h2
      simp only [Bool.and_eq_true, Bool.not_eq_true'] at h2
      rw [List.any_eq_true] at h4
      obtain ⟨q, hq, e1⟩ := h4
      have T := g.ct.er q hq
      have e1 := of_decide_eq_true e1
      obtain ⟨y, i', c, fo⟩ := q
      dsimp only at e1 T
      subst e1
      have hm : ∃ C, X.mg y = some (.ref C) := by
        cases fo with
        | some f => exact ⟨_, T.cls.1.mg⟩
        | none => exact ⟨_, T.cls.1.mg⟩
      obtain ⟨C, hm⟩ := hm
      have hc : Names X y (.ref C) := ⟨gl_ok h1 g.ct, h2.1, .inl hm⟩
      obtain ⟨hy, hn⟩ := (g.ct.is _ h3).own C hm
      have hsu : ∀ (a : Addr) (pn : List (Addr × Obj)), PSs (X.suite a pn) (b :: su) (tSts (callN P k) XN s) := fun a pn => okSs_ok s G.sui XN (X.suite a pn) _ h6 ⟨g.ct.sui a pn, PassesOwn.never, g.kind, g.hs, g.hf, g.hex⟩
      split at h5
      · exact ⟨_, .cons hc hy hn hsu ho⟩
      · rename_i n j
        unfold isLoc at h5
        simp only [Bool.and_eq_true, decide_eq_true_eq] at h5
        exact ⟨_, .as_ g.ct.nd (by rw [g.ct.N]; exact h5.1) (by
          have e : X.env.kindOf n = G.sc.names.lookup n := by rw [← g.ct.sc]; rfl
          rw [e]; exact h5.2) hc hy hn hsu ho⟩
      · cases h5
    · cases h
end
end
end Mi
end

section
set_option linter.all false
set_option maxRecDepth 100000
set_option autoImplicit false
/-! Mi: a def, at each level. -/
namespace Mi
open PySem L2
/-- statements turn what is raised into a flow -/
def NoX (r : Rs Fl) : Prop := ∀ c ds s, r ≠ .ex c ds s
theorem nox_ok {f : Fl} {s : Sto} : NoX (.ok f s) := nofun
theorem nox_stuck : NoX .stuck := nofun
theorem nox_stm {α : Type} {r : Rs α} {ρ : Env} {f : α → Sto → Rs Fl} (h : ∀ a s, NoX (f a s)) : NoX (r.stm ρ f) := by
  cases r with
  | stuck => exact nofun
  | ok a s => exact h a s
  | ex c ds s => exact nofun
theorem nox_bind {r : Rs Fl} {f : Fl → Sto → Rs Fl} (hr : NoX r) (h : ∀ a s, NoX (f a s)) : NoX (r.bind f) := by
  cases r with
  | stuck => exact nofun
  | ok a s => exact h a s
  | ex c ds s => exact (hr _ _ _ rfl).elim
theorem nox_for {tg : List Nat} {f : Env → Sto → Rs Fl} (h : ∀ ρ s, NoX (f ρ s)) : ∀ (xs : List D) (ρ : Env) (s : Sto), NoX (forL tg f xs ρ s)
  | [], ρ, s => nofun
  | x :: xs, ρ, s => by
    rw [forL]
    split
    · exact nofun
    · refine nox_bind (h _ _) fun a s => ?_
      cases a with
      | nx ρ => exact nox_for h xs _ _
      | ct ρ => exact nox_for h xs _ _
      | _ => exact nofun
theorem nox_while {t : Env → Sto → Rs Bool} {f : Env → Sto → Rs Fl} (h : ∀ ρ s, NoX (f ρ s)) : ∀ (n : Nat) (ρ : Env) (s : Sto), NoX (whileL t f n ρ s)
  | 0, ρ, s => nofun
  | n + 1, ρ, s => by
    rw [whileL]
    refine nox_stm fun b s => ?_
    split
    · refine nox_bind (h _ _) fun a s => ?_
      cases a with
      | nx ρ => exact nox_while h n _ _
      | ct ρ => exact nox_while h n _ _
      | _ => exact nofun
    · exact nofun
section
variable {C : Nat → List D → Sto → Rs D}
mutual
theorem evS_nox : ∀ (x : S) (ρ : Env) (s : Sto), NoX (evS C x ρ s)
  | .set i e, ρ, s => by rw [evS]; exact nox_stm fun _ _ => nox_ok
  | .unp tg e, ρ, s => by
    rw [evS]
    refine nox_stm fun _ _ => ?_
    split <;> exact nofun
  | .setix o i e, ρ, s => by
    rw [evS]
    refine nox_stm fun _ _ => nox_stm fun _ _ => nox_stm fun _ _ => ?_
    split <;> exact nofun
  | .expr e, ρ, s => by rw [evS]; exact nox_stm fun _ _ => nox_ok
  | .ifs c a b, ρ, s => by
    rw [evS]
    refine nox_stm fun t s => ?_
    cases t
    · exact evSs_nox b _ _
    · exact evSs_nox a _ _
  | .for_ tg src b, ρ, s => by rw [evS]; exact nox_stm fun _ _ => nox_for (evSs_nox b) _ _ _
  | .while_ c b, ρ, s => by rw [evS]; exact nox_while (evSs_nox b) _ _ _
  | .ret e, ρ, s => by rw [evS]; exact nox_stm fun _ _ => nox_ok
  | .retn, ρ, s => by rw [evS]; exact nofun
  | .pass, ρ, s => by rw [evS]; exact nofun
  | .brk, ρ, s => by rw [evS]; exact nofun
  | .cont, ρ, s => by rw [evS]; exact nofun
  | .frz i, ρ, s => by
    rw [evS]
    split
    · split <;> exact nofun
    · exact nofun
  | .rse e, ρ, s => by
    rw [evS]
    refine nox_stm fun _ _ => ?_
    split <;> exact nofun
  | .try_ b hs, ρ, s => by
    rw [evS]
    refine nox_bind (evSs_nox b _ _) fun a s => ?_
    cases a with
    | xn c ds ρ => exact evH_nox hs _ _ _ _
    | _ => exact nofun
theorem evSs_nox : ∀ (x : Ss) (ρ : Env) (s : Sto), NoX (evSs C x ρ s)
  | .nil, ρ, s => by rw [evSs]; exact nofun
  | .cons a as, ρ, s => by
    rw [evSs]
    refine nox_bind (evS_nox a _ _) fun f s => ?_
    cases f with
    | nx ρ => exact evSs_nox as _ _
    | _ => exact nofun
theorem evH_nox : ∀ (x : Hs) (c : Nat) (ds : List D) (ρ : Env) (s : Sto), NoX (evH C x c ds ρ s)
  | .nil, c, ds, ρ, s => by rw [evH]; exact nofun
  | .cons no yes i su r, c, ds, ρ, s => by
    rw [evH]
    split
    · refine nox_bind (evSs_nox su _ _) fun f s => ?_
      cases f <;> exact nofun
    · split
      · exact evH_nox r _ _ _ _
      · exact nofun
end
end
variable [Cls]
section
variable {F : Addr → Prop} {H : Hp} {ms : List Addr} {st : Sto} {Q : VK} {E : XK}
/-- what a call leaves -/
theorem leave_ok {d : Mi.D} {v : V} {s1 : Sto} {H1 : Hp} {ms1 : List Addr} (sm : Sm F H ms st) (p : Pst X0 F Rp (leave st.length d s1) H ms st Q E) (l : Later F H ms st H1 ms1 s1) (sm1 : Sm F H1 ms1 s1) (r : Rp H1 (Mt F ms1 s1) ms1 d v) : Q v H1 := by
  unfold leave at p
  split at p
  · exact p v H1 ms1 l sm1 r
  · split at p
    · rename_i h
      rw [Bool.and_eq_true] at h
      exact p v H1 (ms1.take st.length) (Later.low sm l) (sm1.low h.2) (Rp.low (fun _ => mt_take) d v r h.1)
    · exact p v H1 ms1 l sm1 r
theorem X0.low {H : Hp} {ms : List Addr} {st : Sto} {n c : Nat} {ds : List Mi.D} {cls : Value} {d : Option Addr} (x : X0 H (Mt F ms st) ms c ds cls d) (l : D.lowrs n ds = true) : X0 H (Mt F (ms.take n) (st.take n)) (ms.take n) c ds cls d := by
  obtain ⟨h1, h2, h3⟩ := x
  refine ⟨h1, h2, ?_⟩
  cases d with
  | none => exact h3
  | some dx =>
    obtain ⟨nm, vs, e, r⟩ := h3
    exact ⟨fun z => nm (mt_take z), vs, e, Rps.low (fun _ => mt_take) ds vs r l⟩
theorem leaveX_ok {c : Nat} {ds : List Mi.D} {s1 : Sto} {H1 : Hp} {ms1 : List Addr} {cls : Value} {d : Option Addr} (sm : Sm F H ms st) (p : Pst X0 F Rp (leaveX st.length c ds s1) H ms st Q E) (l : Later F H ms st H1 ms1 s1) (sm1 : Sm F H1 ms1 s1) (x : X0 H1 (Mt F ms1 s1) ms1 c ds cls d) : E cls d H1 := by
  unfold leaveX at p
  split at p
  · exact p cls d H1 ms1 l sm1 x
  · split at p
    · rename_i h
      rw [Bool.and_eq_true] at h
      exact p cls d H1 (ms1.take st.length) (Later.low sm l) (sm1.low h.2) (x.low h.1)
    · exact p cls d H1 ms1 l sm1 x
theorem env_start {mt : Addr → Prop} {ds : List Mi.D} {vs : List V} {n : Nat} {N : List PySem.Str} (r : Rps H mt ms ds vs) (hn : n = N.length) : EnvR H mt ms (ds.map some ++ List.replicate (n - ds.length) none) (L2.start N vs) := by
  have hl := r.length
  refine ⟨?_, fun i d e => ?_⟩
  · unfold L2.start
    simp only [List.length_append, List.length_map, List.length_replicate, hl, hn]
  · by_cases hi : i < ds.length
    · rw [List.getElem?_append_left (by simpa using hi), List.getElem?_map] at e
      cases hd : ds[i]? with
      | none => rw [hd] at e; cases e
      | some x =>
        rw [hd] at e
        cases e
        obtain ⟨v, hv, rv⟩ := r.get hd
        refine ⟨v, ?_, rv⟩
        unfold L2.start
        rw [List.getElem?_append_left (by rw [List.length_map, ← hl]; exact hi), List.getElem?_map, hv]
        rfl
    · rw [List.getElem?_append_right (by simpa using hi)] at e
      rw [List.getElem?_replicate] at e
      split at e <;> cases e
end
section
variable {Pg : Program} {w : World} {K : PySem.W.Frag} {mg : PySem.Str → Option Value} {base : Heap}
/-- a checked def is what the run says, a level up -/
theorem fn_up {P : List Fn} {k i : Nat} {fn : Fn} {G : Ct} {x qual : PySem.Str} {params : Arguments} {body : List Stmt} {scope : Scope} {dvs : List V} {kws : List (PySem.Str × V)} {f : Addr} {fd : FuncData} {ps : List PySem.Str}
    (Fd : FunD K x qual params body scope dvs kws f fd) (S : FnScope G.N ps scope) (hsc : G.sc = scope) (hfn : G.fn = none) (hcm : G.calm = true) (hP : P[i]? = some fn) (hnp : fn.np = ps.length) (hnn : fn.nn = G.N.length) (ok : okSs G body fn.body = true)
    (hbl : ∀ y ∈ G.bl, mg y = none) (hfs : ∀ p ∈ G.fs, ∃ f fd ps, FnOk Pg w K mg base (L2.CX Pg w) k f fd ps (spN P k p.2) ∧ mg p.1 = some (.ref f) ∧ PySem.W.keepIn K (.ref f) = true ∧ Binds K fd ps [])
    (hkw : ∀ q ∈ G.kw, ∃ f fd ps, FnOk Pg w K mg base (L2.CX Pg w) k f fd ps (spN P k q.2.1) ∧ mg q.1 = some (.ref f) ∧ PySem.W.keepIn K (.ref f) = true ∧ KBn K fd ps 0 q.2.2.1 (fun _ ws => permV q.2.2.2 ws) (fun _ zs => permV q.2.2.2 zs))
    (her : ∀ q ∈ G.er, ∀ X : Cx, X.prog = Pg → X.w = w → X.K = K → X.mg = mg → X.base = base → ErX P X q.1 q.2.1 q.2.2.1 q.2.2.2) (his : ∀ q ∈ G.is, ∀ X : Cx, X.K = K → X.mg = mg → IsF X q.1 q.2.1 q.2.2) :
    FnOk Pg w K mg base (L2.CX Pg w) (k + 1) f fd ps (spN P (k + 1) i) := by
  refine Fd.ok S (fun vs H Q E h => ?_) (fun cdv A outer s H vs Q E hr h => ?_)
  · obtain ⟨F, ms, st, ds, sm, r, p⟩ := h
    simp only [callN, hP] at p
    split at p
    · rename_i hl
      rw [← r.length, hl, hnp]
    · exact p.elim
  · obtain ⟨F, ms, st, ds, sm, r, p⟩ := h
    simp only [callN, hP] at p
    split at p
    case isFalse => exact p.elim
    rename_i hl
    have tk : Takes (cxOf (L2.CX Pg w) Pg w K mg base G.N qual scope f cdv A outer s H E) (fun cls d _ H => E cls d H) := takes_of rfl rfl rfl rfl
    refine ⟨tSts (callN P k) (fun cls d _ H => E cls d H) fn.body, okSs_ok fn.body G _ _ body ok ⟨⟨rfl, S.nd, hsc.symm, ?_, fun _ => rfl, fun _ => hr, by have := hr.un; show (A.deeper _).units + 100 < cLine; omega, tk, hbl, fun q hq => ⟨hfs q hq⟩, fun q hq => ⟨hkw q hq⟩, fun q hq => her q hq _ rfl rfl rfl rfl rfl, fun q hq => his q hq _ rfl rfl⟩, passes_of rfl, S.kind, rfl, rfl, rfl⟩, ?_⟩
    · rw [hfn]; rfl
    refine ⟨F, _, ms, st, sm, env_start r hnn, ?_⟩
    rw [← hl] at p
    cases hr1 : evSs (callN P k) fn.body (ds.map some ++ List.replicate (fn.nn - ds.length) none) st with
    | stuck => rw [hr1] at p; exact p.elim
    | ex c es s1 => exact absurd hr1 (evSs_nox _ _ _ _ _ _)
    | ok fl s1 =>
      rw [hr1] at p
      intro fv H1 ms1 l1 sm1 r1
      cases fl with
      | rt d =>
        cases fv with
        | rt v => exact leave_ok sm p l1 sm1 r1
        | _ => exact r1.elim
      | nx ρ1 =>
        cases fv with
        | nx σ1 => exact leave_ok (d := .non) (v := V.non) sm p l1 sm1 (by simp only [Rp])
        | _ => exact r1.elim
      | xn c es ρ1 =>
        cases fv with
        | xn cls d σ1 => exact leaveX_ok sm p l1 sm1 r1.2
        | _ => exact r1.elim
      | _ => exact p.elim
end
end Mi
end

section
set_option linter.all false
set_option maxRecDepth 100000
set_option autoImplicit false
/-! Mi: a whole law. -/
namespace Mi
open PySem L2
/-- K' has the functions and records of K -/
def Sub (K K' : PySem.W.Frag) : Prop := ∀ b o, K.lookup b = some o → (∃ fd, o.data = .func fd) ∨ (∃ vs, o.data = .fields vs) → K'.lookup b = some o
theorem lookup_filter {K : PySem.W.Frag} {a b : Addr} : (K.filter fun p => p.1 != a).lookup b = if b = a then none else K.lookup b := by
  induction K with
  | nil => simp
  | cons p r ih =>
    obtain ⟨c, o⟩ := p
    by_cases hc : c = a
    · subst hc
      simp only [List.filter_cons, bne_self_eq_false, Bool.false_eq_true, if_false, ih, List.lookup_cons]
      by_cases hb : b = c
      · subst hb; simp
      · have hb2 : (b == c) = false := by simpa using hb
        simp only [hb, hb2, if_false]
    · have h1 : (c != a) = true := by simpa using hc
      simp only [List.filter_cons, h1, if_true, List.lookup_cons, ih]
      by_cases hb : b = c
      · subst hb; simp [hc]
      · have : (b == c) = false := by simpa using hb
        simp only [this]
theorem keep_sub {K K' : PySem.W.Frag} (s : Sub K K') {f : Addr} {oc : Value} {od : Option Addr} {fd : FuncData} {osl : Array (Option Value)} (h : K.lookup f = some ⟨oc, od, .func fd, osl⟩) : PySem.W.keepIn K' (.ref f) = true := by
  have e := s _ _ h (.inl ⟨fd, rfl⟩)
  unfold PySem.W.keepIn
  simp only
  rw [e]
theorem code_sub {K K' : PySem.W.Frag} (s : Sub K K') {cd : Value} {q : PySem.Str} (h : PySem.W.codeIn K cd q = true) : PySem.W.codeIn K' cd q = true := by
  unfold PySem.W.codeIn at h ⊢
  split at h
  · rename_i c
    split at h
    · rename_i oc od vs osl e
      simp only [s _ _ e (.inr ⟨vs, rfl⟩)]
      exact h
    · cases h
  · cases h
theorem FunD.sub {K K' : PySem.W.Frag} {x qual : PySem.Str} {params : Arguments} {body : List Stmt} {scope : Scope} {f : Addr} {fd : FuncData} (s : Sub K K') (F : FunD K x qual params body scope [] [] f fd) : FunD K' x qual params body scope [] [] f fd := by
  obtain ⟨oc, od, dV, kV, doc, pm, an, cdv, ct, osl, e, lk, hcd, hD, hK⟩ := F.ex
  refine ⟨⟨oc, od, dV, kV, doc, pm, an, cdv, ct, osl, e, s _ _ lk (.inl ⟨fd, rfl⟩), code_sub s hcd, ?_, .inl rfl⟩, keep_sub s lk⟩
  rcases hD with h | ⟨h, _⟩
  · exact .inl h
  · exact absurd rfl h
theorem rps_script [Cls] {H : Hp} {mt : Addr → Prop} {ms : List Addr} : ∀ ns : List Int, Rps H mt ms (ns.map D.int) (ns.map V.int)
  | [] => by simp only [List.map_nil, Rps]
  | n :: ns => by
    rw [List.map_cons, List.map_cons]
    exact Rps.cons (by simp only [Rp]) (rps_script ns)
end Mi
end

section
set_option linter.all false
set_option maxRecDepth 100000
set_option autoImplicit false
/-! Mi: what the head leaves: the defs, the errors' classes; lists and tuples left out. -/
namespace Mi
open PySem L2
def isSeq (o : Obj) : Bool := match o.data with
  | .seq .. => true
  | _ => false
def frM (g : Addr → Option Obj) (as : List Addr) : PySem.W.Frag := (He.frG g as).filter fun q => !isSeq q.2
theorem frM_at {g : Addr → Option Obj} {as : List Addr} {a : Addr} {o : Obj} (h : (frM g as).lookup a = some o) : g a = some o ∧ isSeq o = false := by
  obtain ⟨h1, h2⟩ := List.mem_filter.mp (He.lookup_mem h)
  exact ⟨He.frG_mem h1, by simpa using h2⟩
abbrev AlM : Type := He.AlD × Bool
def obsM (n : Nat) (fa : List He.Fa) (fn : List He.DefD) (ex : PySem.W.Frag → Bool) (g : Addr → Option Obj) : AlM := (He.obsD fa fn (frM g (He.asD g n)), ex (frM g (He.asD g n)))
structure SaysM (fa : List He.Fa) (fn : List He.DefD) (ex : PySem.W.Frag → Bool) (h : Heap) (K : PySem.W.Frag) : Prop where
  kin : K.In h
  d : He.SaysD fa fn K
  e : ex K = true
  sq : ∀ b o, K.lookup b = some o → isSeq o = false
def hookM (n : Nat) (fa : List He.Fa) (fn : List He.DefD) (ex : PySem.W.Frag → Bool) : PySem.W.Hook where
  α := AlM
  obs := fun s => obsM n fa fn ex s.heap.get?
  val := fun _ => (He.valD fn, true)
  says := fun _ h => ∃ K : PySem.W.Frag, SaysM fa fn ex h K
  of := fun _ _ e => ⟨_, fun _ _ z => (frM_at z).1, congrArg Prod.fst e, congrArg Prod.snd e, fun _ _ z => (frM_at z).2⟩
  keeps := fun _ _ _ ⟨K, c⟩ k => ⟨K, PySem.W.Frag.In.keeps c.kin k, c.d, c.e, c.sq⟩
theorem obsM_eq {n : Nat} {fa : List He.Fa} {fn : List He.DefD} {ex : PySem.W.Frag → Bool} {g : Addr → Option Obj} {s : Shared} (h : ∀ a, g a = s.heap.get? a) : obsM n fa fn ex g = (hookM n fa fn ex).obs s := by
  have e : g = s.heap.get? := funext h
  rw [e] <;> rfl
theorem walk_mi2 {P : List Fn} {i : Nat} {l : PySem.W.OpenLaw} {n k : Nat} {q : Program} {loose : List PySem.Str} {XP : (PySem.Str → Option Value) → Heap → Prop} {YP : World → Heap → Prop} {d : DefRec} {x : PySem.Str}
    (hn : l.most = some n) (hn2 : n ≤ sizeLine) (hdf : d.params.defaults = []) (hr : Room k callerA)
    (F : ∀ (w : World) (mg : PySem.Str → Option Value) (fa : Addr) (h : Heap), YP w h → h.Ns mainGlobals mg → mg d.name = some (.ref fa) →
      ∃ (_ : Cls) (K : PySem.W.Frag) (fd : FuncData), K.In h ∧ (∀ b o, K.lookup b = some o → isSeq o = false) ∧ (∀ (s : Shared) (u : Value), BindsTo s fd ⟨[u], []⟩ [(x, u)]) ∧
        ∀ base : Heap, K.In base → base.Ns mainGlobals mg → FnOk l.prog w K mg base (L2.CX l.prog w) k fa fd [x] (spN P k i))
    (hsp : ∀ ns : List Int, ns.length ≤ n → ∃ s', callN P k i [.ref 0] [.ro ns] = .ok (.bl true) s') :
    PySem.W.WalkO q loose XP YP l.row.toRowW d [] (fun f vs => PySem.call f vs) := by
  refine Att.attach_call hn hdf fun w s₀ s₁ mg mb fa o pm cd doc a vs ns G Y ho hd hcd hmg hobj hints hlen hg => ?_
  obtain ⟨cl, K, fd, KX, sq, hb, hF⟩ := F w mg fa _ Y G.T.g hmg
  refine law_call (CX := L2.CX l.prog w) KX G.T.g G.T.b G.T.builtins G.T.nolimit hg hobj hints (Nat.le_trans hlen hn2) hr (fun base h1 h2 => hF base h1 h2) hb (fun H hO hS => ?_) fun H e s' ⟨_, _, _, _, _, _, _, _, _, _, _, _, z⟩ => z
  rcases hS with hS | ⟨o2, its, m, e, _⟩
  · obtain ⟨s', hs⟩ := hsp ns hlen
    refine ⟨fun _ => False, [a], [.ro ns], [.ref 0], ⟨by simp, rfl, fun j b ob h1 h2 => ?_, fun b hb => ?_, fun _ z => z.elim, fun _ z => z.elim⟩, Rps.cons ?_ Rps.nil, ?_⟩
    · cases j with
      | zero =>
        simp at h1 h2
        subst h1; subst h2
        exact ⟨_, hS, by unfold iD; rw [List.length_map]; exact Nat.le_trans hlen hn2, rps_script ns⟩
      | succ j => simp at h1
    · simp at hb
      subst hb
      exact Rd.ne hS
    · simp only [Rp]
      exact ⟨a, rfl, rfl⟩
    · rw [hs]
      intro b H' ms' _ _ r
      have r : Rp H' _ ms' (.bl true) b := r
      simpa only [Rp] using r
  · have e2 := KX _ _ e
    rw [hobj] at e2
    cases e2
    have := sq _ _ e
    simp [isSeq] at this
structure Dd where
  d : He.DefD
  N : List PySem.Str
  ps : List PySem.Str
/-! ### errors' classes -/
def bnm (lk : Bool) : String := if lk then "LookupError" else "ValueError"
def tlOf (lk : Bool) : List Value := [.type (bnm lk), .type "Exception", .type "BaseException", .type "object"]
def nwOf (lk : Bool) : String := bnm lk ++ ".__new__"
def inOf (lk : Bool) : String := bnm lk ++ ".__init__"
theorem fb_of : ∀ lk, ExcBaseFacts (bnm lk) (nwOf lk) (inOf lk) (tlOf lk)
  | true => PySem.F.excBase_LookupError
  | false => PySem.F.excBase_ValueError
theorem sf_of : ∀ lk, StoreFacts (bnm lk) (tlOf lk) "object.__setattr__" "object"
  | true => PySem.F.store_LookupError
  | false => PySem.F.store_ValueError
def ercB (K : PySem.W.Frag) (C : Addr) (lk : Bool) : Bool :=
  PySem.W.keepIn K (.ref C) && decide (PySem.W.findIn K (.ref C) "__setattr__" = some (some (.builtin "object.__setattr__"))) && PySem.W.excOver K C (tlOf lk) && xfB K C && (PySem.W.clsIn K C).isSome &&
  decide (PySem.W.findIn K (.ref C) "__class__" = some (some (.builtin "object.__class__"))) && decide (PySem.W.specialIn K (.builtin "object.__class__") "__get__" = some (some (.builtin "getset_descriptor.__get__"))) &&
  decide (PySem.W.takesIn K (.builtin "object.__class__") = some true) && decide (PySem.W.mroIn K C (.type "object") = some true)
theorem ercB_ok {K : PySem.W.Frag} {C : Addr} {lk : Bool} (h : ercB K C lk = true) : ErC K C (bnm lk) (nwOf lk) (inOf lk) (tlOf lk) := by
  unfold ercB at h
  simp only [Bool.and_eq_true, decide_eq_true_eq] at h
  obtain ⟨⟨⟨⟨⟨⟨⟨⟨h1, h2⟩, h3⟩, h4⟩, h5⟩, h6⟩, h7⟩, h8⟩, h9⟩ := h
  exact ⟨fb_of lk, sf_of lk, h1, h2, h3, xfB_ok h4, h5, h6, h7, h8, h9⟩
/-- a class of errors: its name, the place of its def in the text of Mi, over LookupError, its field and its __init__ -/
structure Cr where
  nm : PySem.Str
  ix : Nat
  lk : Bool
  fo : Option (PySem.Str × Dd)
def Cr.fd (r : Cr) : Option PySem.Str := r.fo.map (·.1)
/-- what the head is asked of it -/
def crB (K : PySem.W.Frag) (r : Cr) : Bool := ercB K (He.ga K r.nm) r.lk && (decide (PySem.W.subIn K (.ref (He.ga K r.nm)) (.type "BaseException") = some true) && decide (PySem.W.typeIn K (.ref (He.ga K r.nm)) = some (.type "type"))) && match r.fo with
  | some (f, _) => PySem.W.excInitIn K (He.ga K r.nm) (tlOf r.lk) (nwOf r.lk) && decide (PySem.W.findIn K (.ref (He.ga K r.nm)) "__init__" = some (some (.ref (He.ma K (He.ga K r.nm) "__init__")))) &&
      PySem.W.isFn K (.ref (He.ma K (He.ga K r.nm) "__init__")) && decide (PySem.W.findIn K (.ref (He.ga K r.nm)) f = some none)
  | none => PySem.W.excIn K (He.ga K r.nm) (tlOf r.lk) (nwOf r.lk)
/-- isinstance against a name: of the classes (none) or a built-in type (some t) -/
structure Ir where
  nm : PySem.Str
  bt : Option String
  no : List Nat
  yes : List Nat
end Mi
end

section
set_option linter.all false
set_option maxRecDepth 100000
set_option autoImplicit false
/-! Mi: all defs of a law, at all levels. -/
namespace Mi
open PySem L2
def okSc (N P : List PySem.Str) (sc : Scope) : Bool :=
  (match sc.kind with | .function => true | _ => false) && !sc.isCoroutine && !sc.isGenerator && decide N.Nodup && decide (N.take P.length = P) && (P.all fun x => match sc.names.lookup x with | some .local => true | some .cell => true | _ => false) &&
    sc.names.all fun y => match y.2 with | .free => false | _ => true
theorem okSc_ok {N P : List PySem.Str} {sc : Scope} (h : okSc N P sc = true) : FnScope N P sc := by
  unfold okSc at h
  simp only [Bool.and_eq_true, decide_eq_true_eq, Bool.not_eq_true', List.all_eq_true] at h
  obtain ⟨⟨⟨⟨⟨⟨h1, h2⟩, h3⟩, h4⟩, h5⟩, h6⟩, h7⟩ := h
  refine ⟨?_, h2, h3, h4, h5, fun x hx => ?_, fun y hy => ?_⟩
  · split at h1
    · assumption
    · cases h1
  · have q := h6 x hx
    split at q
    · exact .inl (by assumption)
    · exact .inr (by assumption)
    · cases q
  · have q := h7 y hy
    intro z
    rw [z] at q
    cases q
abbrev Kw := List (PySem.Str × Nat × List PySem.Str × List Nat)
abbrev Erl := List (PySem.Str × Nat × Nat × Option PySem.Str)
abbrev Isl := List (PySem.Str × List Nat × List Nat)
def Dd.ct (bl : List PySem.Str) (fs : List (PySem.Str × Nat)) (kw : Kw) (er : Erl) (is : Isl) (D : Dd) : Ct := ⟨D.N, D.d.scope, none, bl, fs, kw, er, is, true⟩
def okD (bl : List PySem.Str) (fs : List (PySem.Str × Nat)) (kw : Kw) (er : Erl) (is : Isl) (D : Dd) (fn : Fn) : Bool :=
  okSc D.N D.ps D.d.scope && decide (fn.np = D.ps.length) && decide (fn.nn = D.N.length) && D.d.dfl.isEmpty && D.d.kwd.isEmpty && okSs (D.ct bl fs kw er is) D.d.body fn.body
def Bnd (D : Dd) : Prop := ∀ (kV doc pm : Value) (an : Option Addr) (cdv ct : Value) (us : List Value), us.length = D.ps.length → bindArgs (PySem.W.fnOf D.d.name D.d.qual D.d.params D.d.body D.d.scope .none kV doc pm an cdv ct) ⟨us, []⟩ = pure (D.ps.zip us)
/-- a call by name binds what it says -/
def KwBnd (D : Dd) (ks : List PySem.Str) (pm : List Nat) : Prop := ∀ (kV doc pmo : Value) (an : Option Addr) (cdv ct : Value) (ws : List Value), ws.length = ks.length → bindArgs (PySem.W.fnOf D.d.name D.d.qual D.d.params D.d.body D.d.scope .none kV doc pmo an cdv ct) ⟨[], ks.zip ws⟩ = pure (D.ps.zip (permV pm ws))
theorem kbn_of {K : PySem.W.Frag} {D : Dd} {f : Addr} {fd : FuncData} {ks : List PySem.Str} {pm : List Nat} (F : FunD K D.d.name D.d.qual D.d.params D.d.body D.d.scope [] [] f fd) (h : KwBnd D ks pm) : KBn K fd D.ps 0 ks (fun _ ws => permV pm ws) (fun _ zs => permV pm zs) := by
  obtain ⟨oc, od, dV, kV, doc, pmo, an, cdv, ct, osl, rfl, lk, hcd, hD, hK⟩ := F.ex
  rcases hD with ⟨_, rfl⟩ | ⟨e, _⟩
  · refine ⟨fun s us ws _ hu hw => ?_, fun _ r => permV_rel r pm⟩
    obtain rfl := List.length_eq_zero_iff.mp hu
    exact .of_eq (h kV doc pmo an cdv ct ws hw)
  · exact absurd rfl e
structure Tx where
  Ds : List Dd
  P : List Fn
  bl : List PySem.Str
  kw : Kw
  cl : List Cr
  is : List Ir
def Tx.fs (T : Tx) : List (PySem.Str × Nat) := (T.Ds.map fun D => D.d.name).zipIdx
def Tx.er (T : Tx) : Erl := T.cl.zipIdx.map fun q => (q.1.nm, q.1.ix, q.2, q.1.fd)
def Tx.isl (T : Tx) : Isl := T.is.map fun r => (r.nm, r.no, r.yes)
/-- where the classes lie -/
def Tx.ca (T : Tx) (K : PySem.W.Frag) (c : Nat) : Addr := match T.cl[c]? with
  | some r => He.ga K r.nm
  | none => 0
abbrev Tx.cls (T : Tx) (K : PySem.W.Frag) : Cls := ⟨T.ca K, fun c => match T.cl[c]? with
  | some r => r.fd.toList
  | none => []⟩
def irV (K : PySem.W.Frag) (r : Ir) : Value := match r.bt with
  | none => .ref (He.ga K r.nm)
  | some t => .type t
/-- a class that an except clause may name -/
def irX (T : Tx) (K : PySem.W.Frag) (r : Ir) : Bool := match r.bt with
  | some _ => true
  | none => (r.yes.all fun c => decide (PySem.W.exmOne K (.ref (T.ca K c)) (irV K r) = some true)) && r.no.all fun c => decide (PySem.W.exmOne K (.ref (T.ca K c)) (irV K r) = some false)
def irB (T : Tx) (K : PySem.W.Frag) (r : Ir) : Bool := irX T K r && ((r.yes.all fun c => decide (c < T.cl.length) && decide (PySem.W.kitOne K (.ref (T.ca K c)) (irV K r) = some true)) &&
  r.no.all fun c => decide (c < T.cl.length) && decide (PySem.W.kitOne K (.ref (T.ca K c)) (irV K r) = some false))
/-- what the head is asked -/
def Tx.ex (T : Tx) (K : PySem.W.Frag) : Bool := T.cl.all (crB K) && T.is.all (irB T K)
structure InitOk (nm f : PySem.Str) (D : Dd) : Prop where
  at_ : D.d.at_ = (nm, some ("__init__" : PySem.Str))
  N : D.N = D.ps
  sc : FnScope D.ps D.ps D.d.scope
  body : initB f D.ps D.d.body = true
  lc : ∀ y ∈ D.ps, D.d.scope.names.lookup y = some .local ∧ (y == ("__debug__" : PySem.Str)) = false ∧ (y == ("__classdict__" : PySem.Str)) = false
  dfl : D.d.dfl = [] ∧ D.d.kwd = []
  bp : ∀ (kV doc pm : Value) (an : Option Addr) (cdv ct u v : Value), bindArgs (PySem.W.fnOf D.d.name D.d.qual D.d.params D.d.body D.d.scope .none kV doc pm an cdv ct) ⟨[u, v], []⟩ = pure (D.ps.zip [u, v])
  bk : ∀ (kV doc pm : Value) (an : Option Addr) (cdv ct u v : Value), bindArgs (PySem.W.fnOf D.d.name D.d.qual D.d.params D.d.body D.d.scope .none kV doc pm an cdv ct) ⟨[u], [(f, v)]⟩ = pure (D.ps.zip [u, v])
structure Tx.Ok (T : Tx) : Prop where
  ok : ∀ (i : Nat) (D : Dd), T.Ds[i]? = some D → ∃ fn, T.P[i]? = some fn ∧ okD T.bl T.fs T.kw T.er T.isl D fn = true
  bnd : ∀ D ∈ T.Ds, Bnd D
  kw : ∀ q ∈ T.kw, ∃ D, T.Ds[q.2.1]? = some D ∧ D.d.name = q.1 ∧ KwBnd D q.2.2.1 q.2.2.2
  cl : ∀ (c : Nat) (r : Cr), T.cl[c]? = some r → ∃ j, T.P[r.ix]? = some (mkC j (if r.fd.isSome then 1 else 0)) ∧ T.P[j]? = some (mkE c (if r.fd.isSome then 1 else 0))
  init : ∀ r ∈ T.cl, ∀ f D, r.fo = some (f, D) → InitOk r.nm f D
  is : ∀ r ∈ T.is, (r.bt = none ∧ ∃ q ∈ T.cl, q.nm = r.nm) ∨ ∃ t, r.bt = some t ∧ bootBuiltins r.nm = some (.type t) ∧ r.nm ∈ T.bl
section
variable {T : Tx} {Pg : Program} {w : World} {K : PySem.W.Frag} {mg : PySem.Str → Option Value} {base : Heap}
theorem fs_mem {p : PySem.Str × Nat} (h : p ∈ T.fs) : ∃ D, T.Ds[p.2]? = some D ∧ D.d.name = p.1 := by
  unfold Tx.fs at h
  rw [List.mem_zipIdx_iff_getElem?] at h
  rw [List.getElem?_map] at h
  cases e : T.Ds[p.2]? with
  | none => rw [e] at h; cases h
  | some D => rw [e] at h; exact ⟨D, rfl, Option.some.inj h⟩
/-- what is known of a class at the head -/
structure Kn (T : Tx) (K : PySem.W.Frag) (mg : PySem.Str → Option Value) : Prop where
  mgc : ∀ r ∈ T.cl, mg r.nm = some (.ref (He.ga K r.nm))
  ex : T.ex K = true
  ini : ∀ r ∈ T.cl, ∀ f D, r.fo = some (f, D) → ∃ fd, FunD K D.d.name D.d.qual D.d.params D.d.body D.d.scope [] [] (He.ma K (He.ga K r.nm) "__init__") fd
  bl : ∀ x ∈ T.bl, mg x = none
theorem ca_of {c : Nat} {r : Cr} (h : T.cl[c]? = some r) : T.ca K c = He.ga K r.nm := by
  unfold Tx.ca
  rw [h]
theorem er_ok (ok : T.Ok) (kn : Kn T K mg) {q : PySem.Str × Nat × Nat × Option PySem.Str} (hq : q ∈ T.er) (X : Cx) (e1 : X.prog = Pg) (e2 : X.w = w) (e3 : X.K = K) (e4 : X.mg = mg) (e5 : X.base = base) : @ErX (T.cls K) T.P X q.1 q.2.1 q.2.2.1 q.2.2.2 := by
  letI := T.cls K
  unfold Tx.er at hq
  rw [List.mem_map] at hq
  obtain ⟨⟨r, c⟩, hr, rfl⟩ := hq
  rw [List.mem_zipIdx_iff_getElem?] at hr
  dsimp only at hr ⊢
  have hm := List.mem_of_getElem? hr
  have hx := kn.ex
  unfold Tx.ex at hx
  rw [Bool.and_eq_true, List.all_eq_true] at hx
  have hb := hx.1 r hm
  unfold crB at hb
  rw [Bool.and_eq_true] at hb
  obtain ⟨b1, b2⟩ := hb
  rw [Bool.and_eq_true] at b1
  obtain ⟨b1, b0⟩ := b1
  simp only [Bool.and_eq_true, decide_eq_true_eq] at b0
  have E0 := ercB_ok b1
  have eca : (Cls.ca c : Addr) = He.ga K r.nm := ca_of hr
  have efl : Cls.fl c = r.fd.toList := by
    show (match T.cl[c]? with | some r => r.fd.toList | none => []) = _
    rw [hr]
  have hfns := ok.cl c r hr
  have hxf : ErB X.K (Cls.ca c) := by
    rw [eca, e3]
    exact ⟨_, _, _, _, E0⟩
  have hrs : PySem.W.subIn X.K (.ref (Cls.ca c)) (.type "BaseException") = some true ∧ PySem.W.typeIn X.K (.ref (Cls.ca c)) = some (.type "type") := by
    rw [eca, e3]
    exact b0
  cases hf : r.fo with
  | none =>
    have hfd : r.fd = none := by unfold Cr.fd; rw [hf]; rfl
    rw [hf] at b2
    rw [hfd] at hfns efl ⊢
    refine ⟨hfns, ?_, hxf, hrs⟩
    show Er0 X r.nm (Cls.ca c) ∧ Cls.fl c = []
    rw [eca]
    exact ⟨⟨⟨_, _, _, _, fb_of r.lk, by rw [e3]; exact b2⟩, by rw [e4]; exact kn.mgc r hm, by rw [e3]; exact E0.kp⟩, efl⟩
  | some fD =>
    obtain ⟨f, D⟩ := fD
    have hfd : r.fd = some f := by unfold Cr.fd; rw [hf]; rfl
    rw [hf] at b2
    simp only [Bool.and_eq_true, decide_eq_true_eq] at b2
    obtain ⟨⟨⟨b2, b3⟩, b4⟩, b5⟩ := b2
    obtain ⟨fd, FD⟩ := kn.ini r hm f D hf
    have J := ok.init r hm f D hf
    rw [hfd] at hfns efl ⊢
    refine ⟨hfns, ?_, hxf, hrs⟩
    show Er1 X r.nm (Cls.ca c) f ∧ Cls.fl c = [f] ∧ PySem.W.findIn X.K (.ref (Cls.ca c)) f = some none
    rw [eca]
    refine ⟨⟨⟨_, _, _, _, _, fd, D.ps, by rw [e3]; exact E0, by rw [e3]; exact b2, by rw [e3]; exact b3, by rw [e3]; exact b4, ?_, ?_, ?_⟩, by rw [e4]; exact kn.mgc r hm, by rw [e3]; exact E0.kp⟩, efl, by rw [e3]; exact b5⟩
    · rw [e1, e2, e3, e4, e5]
      exact fn_er E0 b5 FD J.sc J.body J.lc
    · intro s u v
      obtain ⟨oc, od, dV, kV, doc, pm, an, cdv, ct, osl, rfl, lk, hcd, hD, hK⟩ := FD.ex
      rcases hD with ⟨_, rfl⟩ | ⟨e, _⟩
      · exact .of_eq (J.bp kV doc pm an cdv ct u v)
      · exact absurd rfl e
    · intro s u v
      obtain ⟨oc, od, dV, kV, doc, pm, an, cdv, ct, osl, rfl, lk, hcd, hD, hK⟩ := FD.ex
      rcases hD with ⟨_, rfl⟩ | ⟨e, _⟩
      · exact .of_eq (J.bk kV doc pm an cdv ct u v)
      · exact absurd rfl e
theorem erb_of (kn : Kn T K mg) {c : Nat} (h : c < T.cl.length) : ErB K (T.ca K c) := by
  have hr : T.cl[c]? = some T.cl[c] := List.getElem?_eq_getElem h
  have hx := kn.ex
  unfold Tx.ex at hx
  rw [Bool.and_eq_true, List.all_eq_true] at hx
  have hb := hx.1 _ (List.mem_of_getElem? hr)
  unfold crB at hb
  rw [Bool.and_eq_true, Bool.and_eq_true] at hb
  rw [ca_of hr]
  exact ⟨_, _, _, _, ercB_ok hb.1.1⟩
theorem is_ok (ok : T.Ok) (kn : Kn T K mg) {q : PySem.Str × List Nat × List Nat} (hq : q ∈ T.isl) (X : Cx) (e3 : X.K = K) (e4 : X.mg = mg) : @IsF (T.cls K) X q.1 q.2.1 q.2.2 := by
  letI := T.cls K
  unfold Tx.isl at hq
  rw [List.mem_map] at hq
  obtain ⟨r, hr, rfl⟩ := hq
  have hx := kn.ex
  unfold Tx.ex at hx
  rw [Bool.and_eq_true, List.all_eq_true, List.all_eq_true] at hx
  have hb := hx.2 r hr
  unfold irB at hb
  rw [Bool.and_eq_true] at hb
  obtain ⟨hx0, hb⟩ := hb
  simp only [Bool.and_eq_true, List.all_eq_true, decide_eq_true_eq] at hb
  refine ⟨⟨irV K r, ?_, fun c hc => ?_, fun c hc => ?_⟩, fun C hC => ?_⟩
  · rcases ok.is r hr with ⟨e, q, hq, en⟩ | ⟨t, e, hb, hbl⟩
    · refine .inl ⟨He.ga K r.nm, ?_, by unfold irV; rw [e]⟩
      rw [e4, ← en]
      exact kn.mgc q hq
    · exact .inr ⟨by rw [e4]; exact kn.bl _ hbl, t, hb, by unfold irV; rw [e]⟩
  · obtain ⟨h1, h2⟩ := hb.1 c hc
    rw [e3]
    exact ⟨erb_of kn h1, h2⟩
  · obtain ⟨h1, h2⟩ := hb.2 c hc
    rw [e3]
    exact ⟨erb_of kn h1, h2⟩
  · rcases ok.is r hr with ⟨e, q, hq, en⟩ | ⟨t, e, hb, hbl⟩
    · have h1 := kn.mgc q hq
      rw [en] at h1
      rw [e4] at hC
      dsimp only at hC
      rw [h1] at hC
      cases hC
      unfold irX at hx0
      rw [e] at hx0
      simp only [Bool.and_eq_true, List.all_eq_true, decide_eq_true_eq] at hx0
      have ev : irV K r = .ref (He.ga K r.nm) := by unfold irV; rw [e]
      rw [ev] at hx0
      rw [e3]
      exact hx0
    · rw [e4] at hC
      have h1 := kn.bl _ hbl
      dsimp only at hC
      rw [h1] at hC
      cases hC
theorem all_ok (ok : T.Ok) (kn : Kn T K mg) (fA : Nat → Addr) (fD : Nat → FuncData) (hF : ∀ (i : Nat) (D : Dd), T.Ds[i]? = some D → FunD K D.d.name D.d.qual D.d.params D.d.body D.d.scope [] [] (fA i) (fD i)) (hm : ∀ (i : Nat) (D : Dd), T.Ds[i]? = some D → mg D.d.name = some (.ref (fA i))) :
    ∀ (k i : Nat) (D : Dd), T.Ds[i]? = some D → FnOk Pg w K mg base (L2.CX Pg w) k (fA i) (fD i) D.ps (@spN (T.cls K) T.P k i)
  | 0, i, D, _ => by
    letI := T.cls K
    have no : ∀ {vs : List V} {H : Hp} {Q : VK} {E : XK}, ¬ spN T.P 0 i vs H Q E := fun {vs H Q E} ⟨F, ms, st, ds, sm, r, p⟩ => p
    exact ⟨fun vs H Q E h => (no h).elim, fun A outer s H args us vs Q E _ _ _ _ h => (no h).elim⟩
  | k + 1, i, D, h => by
    letI := T.cls K
    obtain ⟨fn, hP, hok⟩ := ok.ok i D h
    unfold okD at hok
    simp only [Bool.and_eq_true, decide_eq_true_eq] at hok
    obtain ⟨⟨⟨⟨⟨h1, h2⟩, h3⟩, _⟩, _⟩, h6⟩ := hok
    refine fn_up (G := D.ct T.bl T.fs T.kw T.er T.isl) (hF i D h) (okSc_ok h1) rfl rfl rfl hP h2 h3 h6 kn.bl (fun p hp => ?_) (fun q hq => ?_) (fun q hq X e1 e2 e3 e4 e5 => er_ok ok kn hq X e1 e2 e3 e4 e5) (fun q hq X e3 e4 => is_ok ok kn hq X e3 e4)
    · obtain ⟨D2, e1, e2⟩ := fs_mem hp
      have F2 := hF _ _ e1
      exact ⟨fA p.2, fD p.2, D2.ps, all_ok ok kn fA fD hF hm k p.2 D2 e1, by rw [← e2]; exact hm _ _ e1, F2.kp, F2.bindsN (ok.bnd D2 (List.mem_of_getElem? e1))⟩
    · obtain ⟨D2, e1, e2, e3⟩ := ok.kw q hq
      have F2 := hF _ _ e1
      exact ⟨fA q.2.1, fD q.2.1, D2.ps, all_ok ok kn fA fD hF hm k q.2.1 D2 e1, by rw [← e2]; exact hm _ _ e1, F2.kp, kbn_of F2 e3⟩
/-- what the head's facts give -/
theorem facts {fa : List He.Fa} {fn : List He.DefD} {h : Heap} (ok : T.Ok) (X : K.In h) (G : h.Ns mainGlobals mg) (c : He.SaysD fa fn K) (hex : T.ex K = true) (hfn : ∀ D ∈ T.Ds, D.d ∈ fn ∧ D.d.at_ = (D.d.name, none) ∧ He.Fa.glo D.d.name ∈ fa) (hcl : ∀ r ∈ T.cl, He.Fa.glo r.nm ∈ fa ∧ ∀ f D, r.fo = some (f, D) → D.d ∈ fn) (hbl : ∀ x ∈ T.bl, He.Fa.free x ∈ fa) :
    (∃ fA : Nat → Addr, ∃ fD : Nat → FuncData, (∀ (i : Nat) (D : Dd), T.Ds[i]? = some D → FunD K D.d.name D.d.qual D.d.params D.d.body D.d.scope [] [] (fA i) (fD i)) ∧ ∀ (i : Nat) (D : Dd), T.Ds[i]? = some D → mg D.d.name = some (.ref (fA i))) ∧ Kn T K mg := by
  have inF : ∀ {f : He.Fa}, f ∈ fa → f.ok K = true := fun {f} hf => by
    obtain ⟨i, hi⟩ := List.getElem?_of_mem hf
    exact c.fact i hi
  have def1 : ∀ (D : Dd), D.d ∈ fn → D.d.dfl = [] → D.d.kwd = [] → ∃ fd, FunD K D.d.name D.d.qual D.d.params D.d.body D.d.scope [] [] (He.fAd K D.d.at_) fd := fun D hD h1 h2 => by
    obtain ⟨j, hj⟩ := List.getElem?_of_mem hD
    obtain ⟨fd, F⟩ := c.def_ j hj
    have e1 : D.d.dvs K = [] := by unfold He.DefD.dvs; rw [h1]; rfl
    have e2 : D.d.kws K = [] := by unfold He.DefD.kws; rw [h2]; rfl
    rw [e1, e2] at F
    exact ⟨fd, F⟩
  have one : ∀ (i : Nat) (D : Dd), T.Ds[i]? = some D → ∃ fd, FunD K D.d.name D.d.qual D.d.params D.d.body D.d.scope [] [] (He.fAd K D.d.at_) fd := fun i D h => by
    obtain ⟨fn', _, hok⟩ := ok.ok i D h
    unfold okD at hok
    simp only [Bool.and_eq_true, List.isEmpty_iff] at hok
    exact def1 D (hfn D (List.mem_of_getElem? h)).1 hok.1.1.2 hok.1.2
  have all : ∀ i : Nat, ∃ fd : FuncData, ∀ D, T.Ds[i]? = some D → FunD K D.d.name D.d.qual D.d.params D.d.body D.d.scope [] [] (He.fAd K D.d.at_) fd := fun i => by
    cases h : T.Ds[i]? with
    | none => exact ⟨default, fun D e => nomatch e⟩
    | some D =>
      obtain ⟨fd, F⟩ := one i D h
      exact ⟨fd, fun D' e => by cases e; exact F⟩
  obtain ⟨fD, hfD⟩ := Classical.axiomOfChoice all
  refine ⟨⟨fun i => match T.Ds[i]? with | some D => He.fAd K D.d.at_ | none => 0, fD, fun i D h => ?_, fun i D h => ?_⟩, fun r hr => He.glo_ok X G (inF (hcl r hr).1), hex, fun r hr f D hf => ?_, fun x hx => He.free_ok X G (inF (hbl x hx))⟩
  · simp only [h]
    exact hfD i D h
  · simp only [h]
    obtain ⟨q1, q2, q3⟩ := hfn D (List.mem_of_getElem? h)
    rw [q2]
    exact He.glo_ok X G (inF q3)
  · have J := ok.init r hr f D hf
    obtain ⟨fd, F⟩ := def1 D ((hcl r hr).2 f D hf) J.dfl.1 J.dfl.2
    rw [J.at_] at F
    exact ⟨fd, F⟩
end
end Mi
end

section
set_option linter.all false
set_option maxRecDepth 100000
set_option autoImplicit false
/-! Mi: the mathematics of runs: single steps as equations. -/
namespace Mi
theorem bok {α β : Type} {a : α} {s : Sto} {f : α → Sto → Rs β} : (Rs.ok a s).bind f = f a s := rfl
theorem mok {α : Type} {a : α} {s : Sto} {ρ : Env} {f : α → Sto → Rs Fl} : (Rs.ok a s).stm ρ f = f a s := rfl
/-- a call whose body hands back d and leaves as many objects as there were -/
theorem call_rt {P : List Fn} {k f : Nat} {fn : Fn} {ds : List D} {s s1 : Sto} {d : D} (h1 : P[f]? = some fn) (h2 : ds.length = fn.np) (hl : s1.length = s.length)
    (h : evSs (callN P k) fn.body (ds.map some ++ List.replicate (fn.nn - fn.np) none) s = .ok (.rt d) s1) : callN P (k + 1) f ds s = .ok d s1 := by
  simp only [callN, h1, h2, h, if_true, Rs.bind, leave, hl]
/-- .. and leaves some of its own, to which nothing leads -/
theorem call_rt2 {P : List Fn} {k f : Nat} {fn : Fn} {ds : List D} {s s1 : Sto} {d : D} (h1 : P[f]? = some fn) (h2 : ds.length = fn.np) (hl : s1.length ≠ s.length) (hd : D.lowr s.length d = true) (ho : (s1.take s.length).all (Ob.lowr s.length) = true)
    (h : evSs (callN P k) fn.body (ds.map some ++ List.replicate (fn.nn - fn.np) none) s = .ok (.rt d) s1) : callN P (k + 1) f ds s = .ok d (s1.take s.length) := by
  simp only [callN, h1, h2, h, if_true, Rs.bind, leave, hl, if_false, hd, ho, Bool.and_self]
/-- .. and leaves some of its own, to which d may lead -/
theorem call_rt3 {P : List Fn} {k f : Nat} {fn : Fn} {ds : List D} {s s1 : Sto} {d : D} (h1 : P[f]? = some fn) (h2 : ds.length = fn.np) (hl : s1.length ≠ s.length) (hd : D.lowr s.length d = false)
    (h : evSs (callN P k) fn.body (ds.map some ++ List.replicate (fn.nn - fn.np) none) s = .ok (.rt d) s1) : callN P (k + 1) f ds s = .ok d s1 := by
  simp only [callN, h1, h2, h, if_true, Rs.bind, leave, hl, if_false, hd, Bool.false_and, Bool.false_eq_true]
/-- .. whatever it leaves -/
theorem call_any {P : List Fn} {k f : Nat} {fn : Fn} {ds : List D} {s s1 : Sto} {d : D} (h1 : P[f]? = some fn) (h2 : ds.length = fn.np)
    (h : evSs (callN P k) fn.body (ds.map some ++ List.replicate (fn.nn - fn.np) none) s = .ok (.rt d) s1) : ∃ s2, callN P (k + 1) f ds s = .ok d s2 := by
  by_cases hl : s1.length = s.length
  · exact ⟨_, call_rt h1 h2 hl h⟩
  · by_cases ho : (D.lowr s.length d && (s1.take s.length).all (Ob.lowr s.length)) = true
    · exact ⟨_, call_rt2 h1 h2 hl (Bool.and_eq_true_iff.mp ho).1 (Bool.and_eq_true_iff.mp ho).2 h⟩
    · refine ⟨s1, ?_⟩
      simp only [callN, h1, h2, h, if_true, Rs.bind, leave, hl, if_false, ho, Bool.false_eq_true]
section
variable {C : Nat → List D → Sto → Rs D} {ρ ρ1 : Env} {s s1 s2 : Sto} {rest a b : Ss} {c e : E} {d e' : D} {i : Nat}
theorem ss_ret (h : evE C e ρ s = .ok d s1) : evSs C (.cons (.ret e) rest) ρ s = .ok (.rt d) s1 := by
  simp only [evSs, evS, h, bok, mok]
theorem ss_set (h : evE C e ρ s = .ok d s1) : evSs C (.cons (.set i e) rest) ρ s = evSs C rest (ρ.set i (some d)) s1 := by
  simp only [evSs, evS, h, bok, mok]
theorem ss_expr (h : evE C e ρ s = .ok d s1) : evSs C (.cons (.expr e) rest) ρ s = evSs C rest ρ s1 := by
  simp only [evSs, evS, h, bok, mok]
theorem ss_unp {tg : List Nat} (h : evE C e ρ s = .ok d s1) (ht : tgtT tg d ρ = some ρ1) : evSs C (.cons (.unp tg e) rest) ρ s = evSs C rest ρ1 s1 := by
  simp only [evSs, evS, h, bok, mok, ht]
theorem ss_setix {o x : E} {v w : D} {s3 s4 : Sto} (h : evE C e ρ s = .ok d s1) (ho : evE C o ρ s1 = .ok v s2) (hx : evE C x ρ s2 = .ok w s3) (hs : setD s3 v w d = some s4) : evSs C (.cons (.setix o x e) rest) ρ s = evSs C rest ρ s4 := by
  simp only [evSs, evS, h, bok, mok, ho, hx, hs]
theorem ss_ifT (h : evE C c ρ s = .ok d s1) (ht : truth s1 d = some true) (ha : evSs C a ρ s1 = .ok (.rt e') s2) : evSs C (.cons (.ifs c a b) rest) ρ s = .ok (.rt e') s2 := by
  simp only [evSs, evS, h, tst, bok, mok, ht, lift, if_true, ha]
theorem ss_ifTn (h : evE C c ρ s = .ok d s1) (ht : truth s1 d = some true) (ha : evSs C a ρ s1 = .ok (.nx ρ1) s2) : evSs C (.cons (.ifs c a b) rest) ρ s = evSs C rest ρ1 s2 := by
  simp only [evSs, evS, h, tst, bok, mok, ht, lift, if_true, ha]
theorem ss_ifF (h : evE C c ρ s = .ok d s1) (ht : truth s1 d = some false) (hb : evSs C b ρ s1 = .ok (.rt e') s2) : evSs C (.cons (.ifs c a b) rest) ρ s = .ok (.rt e') s2 := by
  simp only [evSs, evS, h, tst, bok, mok, ht, lift, Bool.false_eq_true, if_false, hb]
theorem ss_ifFn (h : evE C c ρ s = .ok d s1) (ht : truth s1 d = some false) (hb : evSs C b ρ s1 = .ok (.nx ρ1) s2) : evSs C (.cons (.ifs c a b) rest) ρ s = evSs C rest ρ1 s2 := by
  simp only [evSs, evS, h, tst, bok, mok, ht, lift, Bool.false_eq_true, if_false, hb]
theorem ss_ifF0 (h : evE C c ρ s = .ok d s1) (ht : truth s1 d = some false) : evSs C (.cons (.ifs c a .nil) rest) ρ s = evSs C rest ρ s1 := ss_ifFn h ht rfl
theorem ss_for {tg : List Nat} {src : Sr} {xs : List D} (h : evR C src ρ s = .ok xs s1) (hf : forL tg (evSs C a) xs ρ s1 = .ok (.nx ρ1) s2) : evSs C (.cons (.for_ tg src a) rest) ρ s = evSs C rest ρ1 s2 := by
  simp only [evSs, evS, h, bok, mok, hf]
theorem rn_frz {n : Nat} {ds : List D} (h : ρ[i]? = some (some (.ref n))) (hs : s[n]? = some (.lst ds)) : evSs C (.cons (.frz i) rest) ρ s = evSs C rest (ρ.set i (some (.lst ds))) (s.set n .dead) := by
  simp only [evSs, evS, h, hs, bok, mok]
/-- a comprehension's turn -/
def cB (C : Nat → List D → Sto → Rs D) (elt : E) (tg : List Nat) (ifs : Es) (ρ : Env) (x : D) (s : Sto) : Rs (Option D) := match tgt tg x ρ with
  | some ρ1 => (evTs C ifs ρ1 s).bind fun t s2 => if t then (evE C elt ρ1 s2).bind fun y s3 => .ok (some y) s3 else .ok none s2
  | none => .stuck
theorem ev_comp {m : Bool} {elt : E} {tg own : List Nat} {src : Sr} {ifs : Es} {xs ys : List D} (h : evR C src ρ s = .ok xs s1) (hx : xs.length ≤ big) (hc : compL (cB C elt tg ifs ρ) xs s1 = .ok ys s2) : evE C (.comp m elt tg src ifs own) ρ s = newList m ys s2 := by
  rw [evE, h, bok, if_pos hx]
  exact congrArg (fun r => Rs.bind r fun ys s2 => newList m ys s2) hc
theorem cB_all {elt : E} {tg : List Nat} (ht : tgt tg d ρ = some ρ1) (he : evE C elt ρ1 s = .ok e' s1) : cB C elt tg .nil ρ d s = .ok (some e') s1 := by
  simp only [cB, ht, evTs, bok, mok, if_true, he]
theorem comp_map {f : D → Sto → Rs (Option D)} {g : D → D} {s : Sto} : ∀ (xs : List D), (∀ x ∈ xs, f x s = .ok (some (g x)) s) → compL f xs s = .ok (xs.map g) s
  | [], _ => rfl
  | x :: xs, h => by
    rw [compL, h x List.mem_cons_self]
    show ((compL f xs s).bind _) = _
    rw [comp_map xs fun y hy => h y (List.mem_cons_of_mem _ hy)]
    rfl
end
section
variable {s : Sto} {i j : Int}
theorem b_add : binD s .add (.int i) (.int j) = .ok (.int (i + j)) s := rfl
theorem b_sub : binD s .sub (.int i) (.int j) = .ok (.int (i - j)) s := rfl
theorem b_mulR (h : j.natAbs < 2 ^ 64) : binD s .mul (.int i) (.int j) = .ok (.int (i * j)) s :=
  if_pos (by rw [Bool.or_eq_true, decide_eq_true_eq, decide_eq_true_eq]; exact .inr h)
theorem b_mulL (h : i.natAbs < 2 ^ 64) : binD s .mul (.int i) (.int j) = .ok (.int (i * j)) s :=
  if_pos (by rw [Bool.or_eq_true, decide_eq_true_eq, decide_eq_true_eq]; exact .inl h)
theorem b_mod (h : 0 < j) : binD s .mod (.int i) (.int j) = .ok (.int (i % j)) s := if_pos h
theorem b_fdiv (h : 0 < j) (h2 : j < 1073741824) : binD s .fdiv (.int i) (.int j) = .ok (.int (i / j)) s := if_pos ⟨h, h2⟩
end
end Mi
end

section
set_option maxRecDepth 100000
set_option linter.all false
/-! the helpers that many laws share, as texts of Mi -/
namespace Mi
/-- _law_box -/
def boxF (c : Int) : Fn := ⟨2, 3, (.cons (.set 2 (.ite (.cmp .lt (.var 1) (.blt .len (.cons (.var 0) .nil))) (.ix (.var 0) (.var 1)) (.int 0)))
  (.cons (.ret (.lst true (.cons (.bin .mul (.blt .abs (.cons (.var 2) .nil)) (.blt .int (.cons (.cmp .ge (.blt .abs (.cons (.var 2) .nil)) (.bin .pow (.int 10) (.int 18))) .nil))) (.cons (.bin .add (.bin .add (.bin .mod (.blt .int (.cons (.var 2) .nil)) (.int 2305843009213693951)) (.bin .mul (.int 39373) (.var 1))) (.int c)) (.cons (.int 0) .nil)))))
  .nil))⟩
/-- _law_take -/
def takeF : Fn := ⟨2, 6, (.cons (.ifs (.cmp .gt (.ix (.var 0) (.int 0)) (.int 0))
 (.cons (.set 5 (.bin .mod (.blt .int (.cons (.ix (.var 0) (.int 0)) .nil)) (.var 1)))
  (.cons (.setix (.var 0) (.int 0) (.bin .fdiv (.ix (.var 0) (.int 0)) (.var 1)))
  (.cons (.ret (.var 5))
  .nil)))
 .nil)
  (.cons (.setix (.var 0) (.int 2) (.bin .add (.ix (.var 0) (.int 2)) (.int 1)))
  (.cons (.set 2 (.bin .mod (.blt .int (.cons (.bin .mul (.bin .add (.ix (.var 0) (.int 1)) (.bin .mul (.int 48271) (.ix (.var 0) (.int 2)))) (.bin .add (.int 39373) (.ix (.var 0) (.int 2)))) .nil)) (.int 2147483647)))
  (.cons (.set 3 (.bin .add (.bin .mod (.blt .int (.cons (.var 2) .nil)) (.int 40009)) (.int 7)))
  (.cons (.set 4 (.bin .mod (.blt .int (.cons (.bin .mul (.bin .add (.bin .add (.var 2) (.ix (.var 0) (.int 2))) (.bin .fdiv (.ix (.var 0) (.int 1)) (.int 1000003))) (.var 3)) .nil)) (.int 2147483629)))
  (.cons (.ret (.bin .mod (.blt .int (.cons (.bin .fdiv (.bin .mod (.blt .int (.cons (.bin .add (.bin .mul (.var 4) (.int 48271)) (.var 2)) .nil)) (.int 2147483587)) (.int 64)) .nil)) (.var 1)))
  .nil))))))⟩
/-- _law_cells -/
def cellsF : Fn := ⟨2, 6, (.cons (.set 2 (.or (.blt .listM (.cons (.sl (.var 0) .none (.some (.var 1))) .nil)) (.lst true (.cons (.int 0) .nil))))
  (.cons (.for_ [3, 4] (.enum (.sl (.var 0) (.some (.var 1)) (.some (.int 63))))
 (.cons (.set 5 (.bin .mod (.blt .int (.cons (.var 3) .nil)) (.var 1)))
  (.cons (.setix (.var 2) (.var 5) (.bin .add (.ix (.var 2) (.var 5)) (.bin .mul (.var 4) (.bin .add (.var 3) (.int 2)))))
  .nil)))
  (.cons (.frz 2)
  (.cons (.ret (.var 2))
  .nil))))⟩
/-- _law_of -/
def ofF (t : Nat) : Fn := ⟨2, 2, (.cons (.ret (.ix (.var 1) (.call t (.cons (.var 0) (.cons (.blt .len (.cons (.var 1) .nil)) .nil)))))
  .nil)⟩
/-- _law_pick -/
def pickF (t : Nat) : Fn := ⟨3, 6, (.cons (.unp [4, 5] (.tup (.cons (.blt .listM (.cons (.var 1) .nil)) (.cons (.lst true .nil) .nil))))
  (.cons (.for_ [3] (.rng (.blt .min (.cons (.var 2) (.cons (.blt .len (.cons (.var 4) .nil)) .nil))))
 (.cons (.expr (.mth .append (.var 5) (.cons (.mth .pop (.var 4) (.cons (.call t (.cons (.var 0) (.cons (.blt .len (.cons (.var 4) .nil)) .nil))) .nil)) .nil)))
  .nil))
  (.cons (.frz 5)
  (.cons (.ret (.var 5))
  .nil))))⟩
/-- _law_same -/
def sameF (s : Nat) : Fn := ⟨2, 4, (.cons (.ifs (.blt (.isinst [.list, .tuple]) (.cons (.var 1) .nil))
 (.cons (.ifs (.or (.cmp .ne (.blt (.isinst [.list]) (.cons (.var 0) .nil)) (.blt (.isinst [.list]) (.cons (.var 1) .nil))) (.cmp .ne (.blt (.isinst [.tuple]) (.cons (.var 0) .nil)) (.blt (.isinst [.tuple]) (.cons (.var 1) .nil))))
 (.cons (.ret (.bl false))
  .nil)
 .nil)
  (.cons (.ifs (.cmp .ne (.blt .len (.cons (.var 0) .nil)) (.blt .len (.cons (.var 1) .nil)))
 (.cons (.ret (.bl false))
  .nil)
 .nil)
  (.cons (.ret (.blt .all (.cons (.comp false (.call s (.cons (.var 2) (.cons (.var 3) .nil))) [2, 3] (.zip (.var 0) (.var 1)) .nil [2, 3]) .nil)))
  .nil)))
 .nil)
  (.cons (.ifs (.or (.cmp .isn (.var 1) .non) (.blt (.isinst [.bool, .str]) (.cons (.var 1) .nil)))
 (.cons (.ret (.and (.cmp .eq (.var 0) (.var 1)) (.and (.cmp .eq (.blt (.isinst [.bool]) (.cons (.var 0) .nil)) (.blt (.isinst [.bool]) (.cons (.var 1) .nil))) (.cmp .eq (.cmp .isn (.var 0) .non) (.cmp .isn (.var 1) .non)))))
  .nil)
 .nil)
  (.cons (.ret (.and (.blt (.isinst [.int]) (.cons (.var 0) .nil)) (.and (.not (.blt (.isinst [.bool]) (.cons (.var 0) .nil))) (.cmp .eq (.var 0) (.var 1)))))
  .nil)))⟩
/-- _law_lists -/
def listsF (l : Nat) : Fn := ⟨1, 2, (.cons (.ret (.ite (.blt (.isinst [.list, .tuple]) (.cons (.var 0) .nil)) (.comp false (.call l (.cons (.var 1) .nil)) [1] (.it (.var 0)) .nil [1]) (.var 0)))
  .nil)⟩
/-- _law_pairs -/
def pairsF : Fn := ⟨1, 4, (.cons (.set 1 (.lst false .nil))
  (.cons (.for_ [2] (.rng (.blt .len (.cons (.var 0) .nil)))
 (.cons (.set 1 (.bin .add (.var 1) (.comp false (.tup (.cons (.ix (.var 0) (.var 2)) (.cons (.var 3) .nil))) [3] (.it (.sl (.var 0) (.some (.bin .add (.var 2) (.int 1))) .none)) .nil [3])))
  .nil))
  (.cons (.ret (.var 1))
  .nil)))⟩
/-- _law_lots -/
def lotsF : Fn := ⟨1, 7, (.cons (.set 1 (.comp false (.lst false (.cons (.var 5) .nil)) [5] (.it (.ix (.var 0) (.int 0))) .nil [5]))
  (.cons (.for_ [2, 3] (.it (.ix (.var 0) (.int 1)))
 (.cons (.set 4 (.comp false (.var 6) [6] (.it (.var 1)) (.cons (.or (.cmp .isin (.var 2) (.var 6)) (.cmp .isin (.var 3) (.var 6))) .nil) [6]))
  (.cons (.set 1 (.bin .add (.comp false (.var 6) [6] (.it (.var 1)) (.cons (.cmp .notin (.var 6) (.var 4)) .nil) [6]) (.lst false (.cons (.blt .sorted (.cons (.blt .sumL (.cons (.var 4) (.cons (.lst false .nil) .nil))) .nil)) .nil))))
  .nil)))
  (.cons (.ret (.blt .sorted (.cons (.var 1) .nil)))
  .nil)))⟩
/-- _law_table -/
def tableF (t p pr lo : Nat) : Fn := ⟨2, 8, (.cons (.set 2 (.blt .sorted (.cons (.call p (.cons (.var 0) (.cons (.lst false (.cons (.str [97]) (.cons (.str [98]) (.cons (.str [99, 121]) (.cons (.str [100]) (.cons (.str [112]) (.cons (.str [113]) (.cons (.str [120]) (.cons (.str [122, 122, 122, 122, 122, 122, 122, 122]) .nil))))))))) (.cons (.bin .add (.int 1) (.call t (.cons (.var 0) (.cons (.var 1) .nil)))) .nil)))) .nil)))
  (.cons (.set 3 (.blt .tuple (.cons (.comp false (.var 6) [6] (.it (.call pr (.cons (.var 2) .nil))) (.cons (.cmp .eq (.call t (.cons (.var 0) (.cons (.int 6) .nil))) (.int 0)) .nil) [6]) .nil)))
  (.cons (.set 4 (.call lo (.cons (.tup (.cons (.var 2) (.cons (.var 3) (.cons (.tup .nil) .nil)))) .nil)))
  (.cons (.set 5 (.comp false (.var 6) [6] (.it (.call pr (.cons (.var 2) .nil))) (.cons (.cmp .eq (.comp false (.var 7) [7] (.it (.var 4)) (.cons (.and (.cmp .isin (.ix (.var 6) (.int 0)) (.var 7)) (.cmp .isin (.ix (.var 6) (.int 1)) (.var 7))) .nil) [7]) (.lst false .nil)) .nil) [6]))
  (.cons (.ret (.tup (.cons (.blt .tuple (.cons (.var 2) .nil)) (.cons (.var 3) (.cons (.blt .tuple (.cons (.comp false (.var 6) [6] (.it (.var 5)) (.cons (.cmp .eq (.call t (.cons (.var 0) (.cons (.int 4) .nil))) (.int 0)) .nil) [6]) .nil)) .nil)))))
  .nil)))))⟩
/-- _law_at -/
def atF : Fn := ⟨2, 3, (.cons (.ret (.ix (.comp false (.var 2) [2] (.it (.var 0)) (.cons (.cmp .isin (.var 1) (.var 2)) .nil) [2]) (.int 0)))
  .nil)⟩
/-- _law_fits -/
def fitsF (a : Nat) : Fn := ⟨2, 3, (.cons (.ifs (.cmp .ne (.comp false (.var 2) [2] (.it (.ix (.var 0) (.int 1))) (.cons (.cmp .notin (.ix (.var 2) (.int 1)) (.call a (.cons (.var 1) (.cons (.ix (.var 2) (.int 0)) .nil)))) .nil) [2]) (.lst false .nil))
 (.cons (.ret (.bl false))
  .nil)
 .nil)
  (.cons (.ret (.cmp .eq (.comp false (.var 2) [2] (.it (.ix (.var 0) (.int 2))) (.cons (.cmp .isin (.ix (.var 2) (.int 1)) (.call a (.cons (.var 1) (.cons (.ix (.var 2) (.int 0)) .nil)))) .nil) [2]) (.lst false .nil)))
  .nil))⟩
/-- _law_all -/
def allF (fi : Nat) : Fn := ⟨1, 6, (.cons (.set 1 (.lst false (.cons (.tup .nil) .nil)))
  (.cons (.for_ [2] (.it (.ix (.var 0) (.int 0)))
 (.cons (.set 3 (.lst true .nil))
  (.cons (.for_ [4] (.it (.var 1))
 (.cons (.expr (.mth .append (.var 3) (.cons (.bin .add (.var 4) (.tup (.cons (.tup (.cons (.var 2) .nil)) .nil))) .nil)))
  (.cons (.for_ [5] (.rng (.blt .len (.cons (.var 4) .nil)))
 (.cons (.expr (.mth .append (.var 3) (.cons (.bin .add (.bin .add (.sl (.var 4) .none (.some (.var 5))) (.tup (.cons (.bin .add (.ix (.var 4) (.var 5)) (.tup (.cons (.var 2) .nil))) .nil))) (.sl (.var 4) (.some (.bin .add (.var 5) (.int 1))) .none)) .nil)))
  .nil))
  .nil)))
  (.cons (.frz 3)
  (.cons (.set 1 (.var 3))
  .nil)))))
  (.cons (.ret (.blt .sorted (.cons (.comp false (.blt .tuple (.cons (.blt .sorted (.cons (.var 4) .nil)) .nil)) [4] (.it (.var 1)) (.cons (.call fi (.cons (.var 0) (.cons (.var 4) .nil))) .nil) [4]) .nil)))
  .nil)))⟩
/-- _law_deeds -/
def deedsF (t o p : Nat) : Fn := ⟨3, 6, (.cons (.unp [4, 5] (.tup (.cons (.call p (.cons (.var 0) (.cons (.lst false (.cons (.str [107]) (.cons (.str [108]) (.cons (.str [109]) (.cons (.str [110]) (.cons (.str [111]) (.cons (.str [115]) (.cons (.str [116]) (.cons (.str [122, 111, 101]) .nil))))))))) (.cons (.int 8) .nil)))) (.cons (.lst true .nil) .nil))))
  (.cons (.for_ [3] (.rng (.call t (.cons (.var 0) (.cons (.bin .add (.var 2) (.int 1)) .nil))))
 (.cons (.ifs (.cmp .lt (.call t (.cons (.var 0) (.cons (.int 5) .nil))) (.int 3))
 (.cons (.expr (.mth .append (.var 5) (.cons (.tup (.cons (.str [112, 117, 116]) (.cons (.call o (.cons (.var 0) (.cons (.ix (.var 1) (.int 0)) .nil))) (.cons (.call o (.cons (.var 0) (.cons (.lst false (.cons (.int 0) (.cons (.int 1) (.cons (.int 2) (.cons (.neg (.int 5)) .nil))))) .nil))) .nil)))) .nil)))
  .nil)
 (.cons (.expr (.mth .append (.var 5) (.cons (.tup (.cons (.str [103, 101, 116]) (.cons (.call o (.cons (.var 0) (.cons (.ix (.var 1) (.int 0)) .nil))) (.cons (.ix (.var 4) (.var 3)) .nil)))) .nil)))
  .nil))
  .nil))
  (.cons (.ret (.blt .tuple (.cons (.var 5) .nil)))
  .nil)))⟩
/-- _law_done -/
def doneF (a : Nat) : Fn := ⟨3, 9, (.cons (.unp [3, 4] (.tup (.cons (.dict0 true) (.cons (.lst true .nil) .nil))))
  (.cons (.for_ [5, 6, 7] (.it (.var 1))
 (.cons (.ifs (.cmp .eq (.var 5) (.str [112, 117, 116]))
 (.cons (.for_ [8] (.it (.call a (.cons (.var 2) (.cons (.var 6) .nil))))
 (.cons (.setix (.var 3) (.var 8) (.var 7))
  .nil))
  .nil)
 (.cons (.ifs (.cmp .isin (.var 6) (.var 3))
 (.cons (.expr (.mth .append (.var 4) (.cons (.tup (.cons (.var 7) (.cons (.ix (.var 3) (.var 6)) .nil))) .nil)))
  .nil)
 .nil)
  .nil))
  .nil))
  (.cons (.ret (.tup (.cons (.blt .tuple (.cons (.blt .sorted (.cons (.var 4) .nil)) .nil)) (.cons (.blt .tuple (.cons (.comp false (.tup (.cons (.var 6) (.cons (.ix (.var 3) (.var 6)) .nil))) [6] (.it (.ix (.var 0) (.int 0))) (.cons (.cmp .isin (.var 6) (.var 3)) .nil) [6]) .nil)) .nil))))
  .nil)))⟩
end Mi
end

section
set_option linter.all false
set_option maxRecDepth 100000
set_option autoImplicit false
/-! the helpers that many laws share: draws -/
namespace Mi
def Low (st : Sto) : Prop := ∀ n, st.all (Ob.lowr n) = true
/-- a box of draws lies at b, of which at most n were drawn -/
def Cell (st : Sto) (b n : Nat) : Prop := ∃ I J L : Int, st[b]? = some (.lst [.int I, .int J, .int L]) ∧ 0 ≤ L ∧ L ≤ n
/-- only the box at b moved on -/
def Mv (st st' : Sto) (b : Nat) : Prop := ∃ I J L : Int, st' = st.set b (.lst [.int I, .int J, .int L])
theorem all_set {α : Type} {p : α → Bool} {x : α} (hx : p x = true) : ∀ (l : List α) (i : Nat), l.all p = true → (l.set i x).all p = true
  | [], _, h => h
  | y :: l, 0, h => by
    rw [List.all_cons, Bool.and_eq_true] at h
    show (x :: l).all p = true
    rw [List.all_cons, hx, h.2]; rfl
  | y :: l, i + 1, h => by
    rw [List.all_cons, Bool.and_eq_true] at h
    show (y :: l.set i x).all p = true
    rw [List.all_cons, h.1, all_set hx l i h.2]; rfl
theorem Cell.lt {st : Sto} {b n : Nat} (h : Cell st b n) : b < st.length := by
  obtain ⟨_, _, _, h, _⟩ := h
  exact (List.getElem?_eq_some_iff.mp h).1
theorem Cell.mono {st : Sto} {b n m : Nat} (h : Cell st b n) (hm : n ≤ m) : Cell st b m := by
  obtain ⟨I, J, L, h, h1, h2⟩ := h
  exact ⟨I, J, L, h, h1, by omega⟩
theorem Mv.refl {st : Sto} {b n : Nat} (h : Cell st b n) : Mv st st b := by
  obtain ⟨I, J, L, h, _⟩ := h
  obtain ⟨h1, h2⟩ := List.getElem?_eq_some_iff.mp h
  exact ⟨I, J, L, by rw [← h2, List.set_getElem_self]⟩
theorem Mv.trans {st st1 st2 : Sto} {b : Nat} (h : Mv st st1 b) (h2 : Mv st1 st2 b) : Mv st st2 b := by
  obtain ⟨_, _, _, rfl⟩ := h
  obtain ⟨I, J, L, rfl⟩ := h2
  exact ⟨I, J, L, by rw [List.set_set]⟩
theorem Mv.len {st st' : Sto} {b : Nat} (h : Mv st st' b) : st'.length = st.length := by
  obtain ⟨_, _, _, rfl⟩ := h
  rw [List.length_set]
theorem Mv.low {st st' : Sto} {b : Nat} (h : Mv st st' b) (l : Low st) : Low st' := by
  obtain ⟨_, _, _, rfl⟩ := h
  exact fun n => all_set rfl st b (l n)
theorem Mv.get {st st' : Sto} {b i : Nat} (h : Mv st st' b) (hi : i ≠ b) : st'[i]? = st[i]? := by
  obtain ⟨_, _, _, rfl⟩ := h
  exact List.getElem?_set_ne (Ne.symm hi)
/-- .. with more objects behind -/
theorem Mv.pre {st ex st' : Sto} {b : Nat} (h : Mv (st ++ ex) st' b) (hb : b < st.length) : ∃ s, st' = s ++ ex ∧ Mv st s b := by
  obtain ⟨I, J, L, rfl⟩ := h
  exact ⟨_, List.set_append_left _ _ hb, I, J, L, rfl⟩
theorem Cell.app {st ex : Sto} {b n : Nat} (h : Cell st b n) : Cell (st ++ ex) b n := by
  have hb := h.lt
  obtain ⟨I, J, L, h, r⟩ := h
  exact ⟨I, J, L, by rw [List.getElem?_append_left hb]; exact h, r⟩
theorem Cell.of_app {st ex : Sto} {b n : Nat} (h : Cell (st ++ ex) b n) (hb : b < st.length) : Cell st b n := by
  obtain ⟨I, J, L, h, r⟩ := h
  exact ⟨I, J, L, by rw [List.getElem?_append_left hb] at h; exact h, r⟩
section
variable {P : List Fn} {t o p b n k : Nat} {st : Sto}
theorem take_ok {m : Int} (hP : P[t]? = some takeF) (hc : Cell st b n) (hn : n < 1000000000) (n0 : 0 < m) (n1 : m < 1073741824) :
    ∃ r st', callN P (k + 1) t [.ref b, .int m] st = .ok (.int r) st' ∧ Mv st st' b ∧ Cell st' b (n + 1) ∧ 0 ≤ r ∧ r < m := by
  have hlt := hc.lt
  obtain ⟨I, J, L, hb, l0, l1⟩ := hc
  have hset : ∀ x : Ob, (st.set b x)[b]? = some x := fun x => List.getElem?_set_self hlt
  by_cases hI : 0 < I
  · refine ⟨I % m, _, call_rt (s1 := st.set b (.lst [.int (I / m), .int J, .int L])) hP rfl (by simp) ?_, ⟨_, _, _, rfl⟩, ⟨_, _, _, hset _, l0, by omega⟩, Int.emod_nonneg _ (by omega), Int.emod_lt_of_pos _ n0⟩
    refine ss_ifT (d := .bl true) (s1 := st) ?_ rfl ?_
    · simp [takeF, evE, evEs, bok, ixD, seqOf, hb, ixN, lift, cmpD, ofB, hI]
    · refine (ss_set (d := .int (I % m)) (s1 := st) ?_).trans ?_
      · simp [takeF, evE, evEs, bok, ixD, seqOf, hb, ixN, lift, bltD, binD, n0]
      · refine (ss_setix (d := .int (I / m)) (s1 := st) (v := .ref b) (s2 := st) (w := .int 0) (s3 := st) (s4 := st.set b (.lst [.int (I / m), .int J, .int L])) ?_ rfl rfl ?_).trans ?_
        · simp [takeF, evE, evEs, bok, ixD, seqOf, hb, ixN, lift, bltD, binD, n0, n1]
        · simp [setD, hb, ixN]
        · exact ss_ret rfl
  · obtain ⟨L', hL⟩ : ∃ L', L' = L + 1 := ⟨_, rfl⟩
    have hb2 := hset (.lst [.int I, .int J, .int L'])
    have p2 : (39373 + L').natAbs < 2 ^ 64 := by omega
    obtain ⟨o, ho⟩ : ∃ o, o = ((J + 48271 * L') * (39373 + L')) % 2147483647 := ⟨_, rfl⟩
    obtain ⟨f, hf⟩ : ∃ f, f = o % 40009 + 7 := ⟨_, rfl⟩
    have p3 : f.natAbs < 2 ^ 64 := by omega
    obtain ⟨t1, ht⟩ : ∃ t, t = ((o + L' + J / 1000003) * f) % 2147483629 := ⟨_, rfl⟩
    refine ⟨(t1 * 48271 + o) % 2147483587 / 64 % m, _, call_rt (s1 := st.set b (.lst [.int I, .int J, .int L'])) hP rfl (by simp) ?_, ⟨_, _, _, rfl⟩, ⟨_, _, _, hset _, by omega, by omega⟩, Int.emod_nonneg _ (by omega), Int.emod_lt_of_pos _ n0⟩
    refine (ss_ifF0 (d := .bl false) (s1 := st) ?_ rfl).trans ?_
    · simp [takeF, evE, evEs, bok, ixD, seqOf, hb, ixN, lift, cmpD, ofB, hI]
    refine (ss_setix (d := .int L') (s1 := st) (v := .ref b) (s2 := st) (w := .int 2) (s3 := st) (s4 := st.set b (.lst [.int I, .int J, .int L'])) ?_ rfl rfl ?_).trans ?_
    · simp [takeF, evE, evEs, bok, ixD, seqOf, hb, ixN, lift, binD, hL]
    · simp [setD, hb, ixN]
    refine (ss_set (d := .int o) (s1 := st.set b (.lst [.int I, .int J, .int L'])) ?_).trans ?_
    · simp [takeF, evE, evEs, bok, ixD, seqOf, hb2, ixN, lift, bltD, b_add, b_mulL (i := 48271) (by decide), b_mulR p2, b_mod (j := 2147483647) (by decide), ho]
    refine (ss_set (d := .int f) (s1 := st.set b (.lst [.int I, .int J, .int L'])) ?_).trans ?_
    · simp [takeF, evE, evEs, bok, bltD, binD, hf]
    refine (ss_set (d := .int t1) (s1 := st.set b (.lst [.int I, .int J, .int L'])) ?_).trans ?_
    · simp [takeF, evE, evEs, bok, ixD, seqOf, hb2, ixN, lift, bltD, b_add, b_mulR p3, b_fdiv (j := 1000003) (by decide) (by decide), b_mod (j := 2147483629) (by decide), ht]
    refine ss_ret (d := .int ((t1 * 48271 + o) % 2147483587 / 64 % m)) ?_
    simp [takeF, evE, evEs, bok, bltD, binD, n0]
/-- a sequence by value -/
def seqV : D → Option (List D)
  | .lst ds => some ds
  | .tup ds => some ds
  | _ => none
theorem seqV_of {g : D} {ds : List D} (h : seqV g = some ds) (s : Sto) : seqOf s g = some ds := by
  cases g <;> first | (simp only [seqV, Option.some.injEq] at h; subst h; rfl) | (simp [seqV] at h)
theorem len_seq {g : D} {ds : List D} (h : seqV g = some ds) (s : Sto) : bltD s .len [g] = .ok (.int ds.length) s := by
  cases g <;> first | (simp only [seqV, Option.some.injEq] at h; subst h; rfl) | (simp [seqV] at h)
theorem ix_seq {g : D} {ds : List D} {i : Int} {d : D} (h : seqV g = some ds) (i0 : 0 ≤ i) (hd : ds[i.toNat]? = some d) (s : Sto) : ixD s g (.int i) = .ok d s := by
  have hl : i < ds.length := by
    have := (List.getElem?_eq_some_iff.mp hd).1
    omega
  cases g <;> first
    | (simp only [seqV, Option.some.injEq] at h; subst h; simp only [ixD, seqOf, ixN, i0, if_true, hl, hd, lift])
    | (simp [seqV] at h)
theorem of_ok {g : D} {ds : List D} (hT : P[t]? = some takeF) (hP : P[o]? = some (ofF t)) (hc : Cell st b n) (hn : n < 1000000000) (hg : seqV g = some ds) (d0 : ds ≠ []) (d1 : ds.length < 1000000000) :
    ∃ d st', callN P (k + 2) o [.ref b, g] st = .ok d st' ∧ Mv st st' b ∧ Cell st' b (n + 1) ∧ d ∈ ds := by
  have hpos := List.length_pos_iff.mpr d0
  obtain ⟨r, st', h, hm, hc', r0, r1⟩ := take_ok (k := k) (m := ds.length) hT hc hn (by omega) (by omega)
  have hr : r.toNat < ds.length := by omega
  refine ⟨ds[r.toNat], st', call_rt hP rfl hm.len (ss_ret ?_), hm, hc', List.getElem_mem hr⟩
  have e : evE (callN P (k + 1)) (.call t (.cons (.var 0) (.cons (.blt .len (.cons (.var 1) .nil)) .nil))) [some (.ref b), some g] st = .ok (.int r) st' := by
    have e1 : evE (callN P (k + 1)) (.blt .len (.cons (.var 1) .nil)) [some (.ref b), some g] st = .ok (.int ds.length) st := by
      rw [evE, evEs]
      show (bltD st .len [g]) = _
      exact len_seq hg st
    rw [evE, evEs]
    show ((Rs.bind (evEs _ (.cons (.blt .len (.cons (.var 1) .nil)) .nil) _ st) _).bind _) = _
    rw [evEs, e1]
    exact h
  show evE (callN P (k + 1)) (.ix (.var 1) (.call t _)) [some (.ref b), some g] st = _
  rw [evE]
  show (evE _ (.call t _) _ st).bind _ = _
  rw [e]
  exact ix_seq hg r0 (List.getElem?_eq_getElem hr) st'
end
end Mi
end

section
set_option linter.all false
set_option maxRecDepth 100000
set_option autoImplicit false
/-! the helpers that many laws share: picking -/
namespace Mi
section
variable {α : Type} {s : List α} {a c x : α}
theorem g0 : (s ++ [a, c])[s.length]? = some a := by simp
theorem g1 : (s ++ [a, c])[s.length + 1]? = some c := by simp
theorem u0 : (s ++ [a, c]).set s.length x = s ++ [x, c] := by simp
theorem u1 : (s ++ [a, c]).set (s.length + 1) x = s ++ [a, x] := by simp
end
theorem perm_erase {α : Type} : ∀ (l : List α) (i : Nat) (d : α), l[i]? = some d → (d :: l.eraseIdx i).Perm l
  | [], _, _, h => by simp at h
  | x :: l, 0, d, h => by simp at h; subst h; exact .refl _
  | x :: l, i + 1, d, h => (List.Perm.swap x d _).trans ((perm_erase l i d (by simpa using h)).cons x)
theorem lowrs_all (n : Nat) : ∀ l : List D, D.lowrs n l = l.all (D.lowr n)
  | [] => rfl
  | d :: l => by rw [D.lowrs, lowrs_all n l]; rfl
/-- no address within -/
def Nor (d : D) : Prop := ∀ n, D.lowr n d = true
theorem Nor.lst {l : List D} (h : ∀ d ∈ l, Nor d) : Nor (.lst l) := fun n => by
  rw [D.lowr, lowrs_all, List.all_eq_true]
  exact fun d hd => h d hd n
theorem Nor.tup {l : List D} (h : ∀ d ∈ l, Nor d) : Nor (.tup l) := fun n => by
  rw [D.lowr, lowrs_all, List.all_eq_true]
  exact fun d hd => h d hd n
theorem forL_nx {f : Env → Sto → Rs Fl} {tg : List Nat} {x : D} {xs : List D} {ρ ρ1 ρ2 : Env} {s s1 : Sto} (ht : tgt tg x ρ = some ρ1) (h : f ρ1 s = .ok (.nx ρ2) s1) : forL tg f (x :: xs) ρ s = forL tg f xs ρ2 s1 := by
  simp only [forL, ht, h, bok]
section
variable {P : List Fn} {t p b n k : Nat} {st : Sto}
def pickB (t : Nat) : Ss := .cons (.expr (.mth .append (.var 5) (.cons (.mth .pop (.var 4) (.cons (.call t (.cons (.var 0) (.cons (.blt .len (.cons (.var 4) .nil)) .nil))) .nil)) .nil))) .nil
theorem pick_turn {x1 x2 x3 : Option D} {left found : List D} (hT : P[t]? = some takeF) (hc : Cell st b n) (hn : n < 1000000000) (h0 : left ≠ []) (hl : left.length < 1000) (hf : found.length < 1000) :
    ∃ j d st', evSs (callN P (k + 1)) (pickB t) [some (.ref b), x1, x2, x3, some (.ref st.length), some (.ref (st.length + 1))] (st ++ [.lst left, .lst found]) = .ok (.nx [some (.ref b), x1, x2, x3, some (.ref st.length), some (.ref (st.length + 1))]) (st' ++ [.lst (left.eraseIdx j), .lst (found ++ [d])])
      ∧ Mv st st' b ∧ Cell st' b (n + 1) ∧ left[j]? = some d := by
  have hb := hc.lt
  have hpos := List.length_pos_iff.mpr h0
  obtain ⟨r, s', h, hm, hc', r0, r1⟩ := take_ok (k := k) (m := left.length) hT (hc.app (ex := [.lst left, .lst found])) hn (by omega) (by omega)
  obtain ⟨st', rfl, hm'⟩ := hm.pre hb
  have hln : st'.length = st.length := hm'.len
  have hj : r.toNat < left.length := by omega
  have hd : left[r.toNat]? = some left[r.toNat] := List.getElem?_eq_getElem hj
  have hix : ixN left.length r = some r.toNat := by
    unfold ixN
    rw [if_pos r0, if_pos (by omega)]
  refine ⟨r.toNat, left[r.toNat], st', (ss_expr (d := .non) ?_).trans rfl, hm', hc'.of_app (by rw [hln]; exact hb), hd⟩
  have e1 : evE (callN P (k + 1)) (.call t (.cons (.var 0) (.cons (.blt .len (.cons (.var 4) .nil)) .nil))) [some (.ref b), x1, x2, x3, some (.ref st.length), some (.ref (st.length + 1))] (st ++ [.lst left, .lst found]) = .ok (.int r) (st' ++ [.lst left, .lst found]) := by
    have e2 : evE (callN P (k + 1)) (.blt .len (.cons (.var 4) .nil)) [some (.ref b), x1, x2, x3, some (.ref st.length), some (.ref (st.length + 1))] (st ++ [.lst left, .lst found]) = .ok (.int left.length) (st ++ [.lst left, .lst found]) := by
      simp only [evE, evEs, List.getElem?_cons_succ, List.getElem?_cons_zero, bok, bltD, seqOf, g0]
    rw [evE, evEs]
    show ((Rs.bind (evEs _ (.cons (.blt .len (.cons (.var 4) .nil)) .nil) _ _) _).bind _) = _
    rw [evEs, e2]
    exact h
  have e3 : evE (callN P (k + 1)) (.mth .pop (.var 4) (.cons (.call t (.cons (.var 0) (.cons (.blt .len (.cons (.var 4) .nil)) .nil))) .nil)) [some (.ref b), x1, x2, x3, some (.ref st.length), some (.ref (st.length + 1))] (st ++ [.lst left, .lst found]) = .ok left[r.toNat] (st' ++ [.lst (left.eraseIdx r.toNat), .lst found]) := by
    rw [evE]
    show (if recv (st ++ [.lst left, .lst found]) .pop (.ref st.length) then _ else _) = _
    rw [if_pos (by simp only [recv, g0]), evEs, e1, bok, evEs, bok, bok]
    simp only [mthD]
    rw [← hln, g0]
    simp only [hix, hd, u0]
  rw [evE]
  show (if recv (st ++ [.lst left, .lst found]) .append (.ref (st.length + 1)) then _ else _) = _
  rw [if_pos (by simp only [recv, g1]), evEs, e3, bok, evEs, bok, bok]
  simp only [mthD]
  rw [← hln, g1]
  simp only
  rw [if_pos (by unfold big; omega), u1]
theorem pick_loop {x1 x2 : Option D} (hT : P[t]? = some takeF) : ∀ (zs : List D) (n : Nat) (st : Sto) (left found : List D) (x3 : Option D), Cell st b n → n + zs.length < 1000000000 → zs.length ≤ left.length → left.length + found.length < 1000 →
    ∃ left' found' x3' st', forL [3] (evSs (callN P (k + 1)) (pickB t)) zs [some (.ref b), x1, x2, x3, some (.ref st.length), some (.ref (st.length + 1))] (st ++ [.lst left, .lst found]) = .ok (.nx [some (.ref b), x1, x2, x3', some (.ref st.length), some (.ref (st.length + 1))]) (st' ++ [.lst left', .lst found'])
      ∧ Mv st st' b ∧ Cell st' b (n + zs.length) ∧ (found' ++ left').Perm (found ++ left) ∧ found'.length = found.length + zs.length
  | [], n, st, left, found, x3, hc, _, _, _ => ⟨left, found, x3, st, rfl, .refl hc, hc, .refl _, rfl⟩
  | z :: zs, n, st, left, found, x3, hc, hn, hl, hs => by
    rw [List.length_cons] at hn hl
    obtain ⟨j, d, s1, e, hm, hc1, hd⟩ := pick_turn (k := k) (x1 := x1) (x2 := x2) (x3 := some z) (left := left) (found := found) hT hc (by omega) (by intro h; rw [h] at hl; simp at hl) (by omega) (by omega)
    obtain ⟨hj, hd2⟩ := List.getElem?_eq_some_iff.mp hd
    have he : (left.eraseIdx j).length + 1 = left.length := by rw [List.length_eraseIdx, if_pos hj]; omega
    obtain ⟨l2, f2, y3, s2, e2, hm2, hc2, hp, hfl⟩ := pick_loop hT zs (n + 1) s1 (left.eraseIdx j) (found ++ [d]) (some z) hc1 (by omega) (by omega) (by rw [List.length_append]; simp only [List.length_cons, List.length_nil]; omega)
    rw [hm.len] at e2
    refine ⟨l2, f2, y3, s2, (forL_nx rfl e).trans e2, hm.trans hm2, by rw [List.length_cons]; exact hc2.mono (by omega), hp.trans ?_, by rw [hfl, List.length_append, List.length_cons]; simp only [List.length_cons, List.length_nil]; omega⟩
    rw [List.append_assoc]
    refine List.Perm.append_left _ ?_
    exact perm_erase left j d hd
theorem pick_ok {xs : List D} {m : Nat} (hT : P[t]? = some takeF) (hP : P[p]? = some (pickF t)) (hc : Cell st b n) (hlow : Low st) (hn : n + 1000 < 1000000000) (hx : xs.length < 500) (hm : m < 1000) (hxl : ∀ x ∈ xs, Nor x) :
    ∃ ys rest st', callN P (k + 2) p [.ref b, .lst xs, .int m] st = .ok (.lst ys) st' ∧ Mv st st' b ∧ Cell st' b (n + min m xs.length) ∧ (ys ++ rest).Perm xs ∧ ys.length = min m xs.length := by
  have hrng : (rngD 0 (min m xs.length)).length = min m xs.length := by unfold rngD; simp
  obtain ⟨left', found', x3', st', e, hmv, hc', hp, hl⟩ := pick_loop (k := k) (x1 := some (.lst xs)) (x2 := some (.int m)) hT (rngD 0 (min m xs.length)) n st xs [] none hc (by rw [hrng]; omega) (by rw [hrng]; omega) (by simp; omega)
  rw [hrng] at hc'
  refine ⟨found', left', st', ?_, hmv, hc', by simpa using hp, by rw [hl, hrng]; simp⟩
  have et : ((st' ++ [Ob.lst left', .dead]).take st.length) = st' := by rw [← hmv.len]; simp
  have hmem : ∀ y ∈ found', Nor y := fun y hy => hxl y (by
    have := hp.mem_iff.mp (List.mem_append_left left' hy)
    simpa using this)
  refine Eq.trans (call_rt2 (s1 := st' ++ [.lst left', .dead]) (d := .lst found') hP rfl (by rw [List.length_append, hmv.len]; simp) (Nor.lst hmem _) (by rw [et]; exact hmv.low hlow _) ?_) (by rw [et])
  refine (ss_unp (d := .tup [.ref st.length, .ref (st.length + 1)]) (s1 := st ++ [.lst xs, .lst []]) (ρ1 := [some (.ref b), some (.lst xs), some (.int m), none, some (.ref st.length), some (.ref (st.length + 1))]) ?_ rfl).trans ?_
  · simp [pickF, evE, evEs, bok, bltD, seqOf, newList, big]
  refine (ss_for (s1 := st ++ [.lst xs, .lst []]) (xs := rngD 0 (min m xs.length)) ?_ e).trans ?_
  · have e1 : evE (callN P (k + 1)) (.blt .min (.cons (.var 2) (.cons (.blt .len (.cons (.var 4) .nil)) .nil))) [some (.ref b), some (.lst xs), some (.int m), none, some (.ref st.length), some (.ref (st.length + 1))] (st ++ [.lst xs, .lst []]) = .ok (.int (min m xs.length : Nat)) (st ++ [.lst xs, .lst []]) := by
      simp only [evE, evEs, List.getElem?_cons_succ, List.getElem?_cons_zero, bok, bltD, seqOf, g0]
      congr 2
      split <;> omega
    rw [evR, e1]
    show (if _ then _ else _) = _
    rw [if_pos (by omega)]
    rfl
  refine (rn_frz (n := st.length + 1) (ds := found') rfl (by rw [← hmv.len]; exact g1)).trans ?_
  rw [← hmv.len, u1]
  exact ss_ret rfl
end
end Mi
end

section
set_option linter.all false
set_option maxRecDepth 100000
set_option autoImplicit false
/-! the helpers that many laws share: pairs, lists, same, boxes, cells -/
namespace Mi
def pairsD : List D → List D
  | [] => []
  | x :: r => r.map (fun y => .tup [x, y]) ++ pairsD r
theorem pairsD_len : ∀ r : List D, (pairsD r).length ≤ r.length * r.length
  | [] => Nat.le_refl _
  | x :: r => by
    have h := pairsD_len r
    rw [pairsD, List.length_append, List.length_map, List.length_cons, Nat.add_mul, Nat.mul_add]
    omega
theorem rngD_succ (lo : Int) (n : Nat) : rngD lo (n + 1) = .int lo :: rngD (lo + 1) n := by
  unfold rngD
  rw [List.range_succ_eq_map, List.map_cons, List.map_map]
  congr 1
  · simp
  · refine List.map_congr_left fun i _ => ?_
    simp only [Function.comp]
    congr 1
    omega
theorem cut_from {α : Type} (xs : List α) (j : Nat) : cut xs (some (j : Int)) none = xs.drop j := by
  have h1 : sIx xs.length 0 (some (j : Int)) = min j xs.length := by
    unfold sIx
    simp only
    rw [if_neg (by omega), Int.toNat_natCast]
  unfold cut
  rw [h1]
  show (xs.drop (min j xs.length)).take (xs.length - min j xs.length) = _
  by_cases h : j ≤ xs.length
  · rw [Nat.min_eq_left h, List.take_of_length_le (by rw [List.length_drop]; omega)]
  · rw [Nat.min_eq_right (by omega), List.drop_of_length_le (Nat.le_refl _), List.drop_of_length_le (by omega)]
    simp
section
variable {P : List Fn} {k : Nat} {st : Sto}
def pairsB : Ss := .cons (.set 1 (.bin .add (.var 1) (.comp false (.tup (.cons (.ix (.var 0) (.var 2)) (.cons (.var 3) .nil))) [3] (.it (.sl (.var 0) (.some (.bin .add (.var 2) (.int 1))) .none)) .nil [3]))) .nil
theorem pairs_loop {C : Nat → List D → Sto → Rs D} {tags : List D} (ht : tags.length ≤ 1000) : ∀ (r pre found : List D) (x2 x3 : Option D), tags = pre ++ r → (found ++ pairsD r).length ≤ big →
    ∃ y2, forL [2] (evSs C pairsB) (rngD pre.length r.length) [some (.lst tags), some (.lst found), x2, x3] st = .ok (.nx [some (.lst tags), some (.lst (found ++ pairsD r)), y2, x3]) st
  | [], pre, found, x2, x3, _, _ => ⟨x2, by simp [rngD, forL, pairsD]⟩
  | x :: r, pre, found, x2, x3, e, hl => by
    have hx : tags[pre.length]? = some x := by rw [e]; simp
    have hdrop : tags.drop (pre.length + 1) = r := by rw [e]; simp
    rw [List.length_cons, rngD_succ]
    have hl2 : (found ++ r.map (fun y => D.tup [x, y])).length ≤ big := by
      simp only [pairsD, List.length_append] at hl ⊢
      omega
    have c1 : evE C (.comp false (.tup (.cons (.ix (.var 0) (.var 2)) (.cons (.var 3) .nil))) [3] (.it (.sl (.var 0) (.some (.bin .add (.var 2) (.int 1))) .none)) .nil [3]) [some (.lst tags), some (.lst found), some (.int pre.length), x3] st = .ok (.lst (r.map (fun y => D.tup [x, y]))) st := by
      have hs : evR C (.it (.sl (.var 0) (.some (.bin .add (.var 2) (.int 1))) .none)) [some (.lst tags), some (.lst found), some (.int pre.length), x3] st = .ok r st := by
        have q := cut_from tags (pre.length + 1)
        rw [hdrop] at q
        simp only [evR, evE, evO, List.getElem?_cons_succ, List.getElem?_cons_zero, bok, b_add, slD]
        rw [show ((pre.length : Int) + 1) = ((pre.length + 1 : Nat) : Int) by omega, q]
        rfl
      have hr : r.length ≤ big := by
        have : tags.length = pre.length + (r.length + 1) := by rw [e]; simp
        unfold big; omega
      refine (ev_comp hs hr (comp_map (g := fun y => .tup [x, y]) r fun y hy => cB_all rfl ?_)).trans ?_
      · have e1 : ∀ ρ : Env, ρ[0]? = some (some (.lst tags)) → ρ[2]? = some (some (.int (pre.length : Nat))) → ρ[3]? = some (some y) → evE C (.tup (.cons (.ix (.var 0) (.var 2)) (.cons (.var 3) .nil))) ρ st = .ok (.tup [x, y]) st := fun ρ h0 h2 h3 => by
          have h4 := ix_seq (g := .lst tags) (ds := tags) (i := (pre.length : Nat)) (d := x) rfl (by omega) (by rw [Int.toNat_natCast]; exact hx) st
          simp only [evE, evEs, h0, h2, h3, bok, h4]
          rw [if_pos (by show 2 ≤ big; decide)]
        exact e1 _ rfl rfl rfl
      · unfold newList
        rw [if_pos (by rw [List.length_map]; exact hr)]
        rfl
    obtain ⟨y2, ih⟩ := pairs_loop (C := C) ht r (pre ++ [x]) (found ++ r.map (fun y => .tup [x, y])) (some (.int pre.length)) x3 (by rw [e]; simp) (by rw [List.append_assoc]; exact hl)
    refine ⟨y2, (forL_nx (s1 := st) (ρ2 := [some (.lst tags), some (.lst (found ++ r.map (fun y => .tup [x, y]))), some (.int pre.length), x3]) rfl ?_).trans ?_⟩
    · refine (ss_set (d := .lst (found ++ r.map (fun y => .tup [x, y]))) (s1 := st) ?_).trans rfl
      show evE C (.bin .add (.var 1) _) _ st = _
      rw [evE]
      show ((evE C (.comp _ _ _ _ _ _) [some (.lst tags), some (.lst found), some (.int pre.length), x3] st).bind _) = _
      rw [c1]
      show okList _ _ = _
      unfold okList
      rw [if_pos hl2]
    · rw [List.append_assoc] at ih
      rw [show ((pre ++ [x]).length : Int) = (pre.length : Int) + 1 by simp] at ih
      exact ih
theorem pairs_ok {pr : Nat} {tags : List D} (hP : P[pr]? = some pairsF) (ht : tags.length ≤ 1000) : callN P (k + 1) pr [.lst tags] st = .ok (.lst (pairsD tags)) st := by
  obtain ⟨y2, e⟩ := pairs_loop (C := callN P k) (st := st) ht tags [] [] none none rfl (by
    have := pairsD_len tags
    have h2 : tags.length * tags.length ≤ 1000 * 1000 := Nat.mul_le_mul ht ht
    unfold big
    simp only [List.nil_append]
    omega)
  refine call_rt hP rfl rfl ?_
  refine (ss_set (d := .lst []) (s1 := st) rfl).trans ?_
  refine (ss_for (s1 := st) (xs := rngD 0 tags.length) ?_ e).trans (ss_ret rfl)
  show evR (callN P k) (.rng (.blt .len (.cons (.var 0) .nil))) [some (.lst tags), some (.lst []), none, none] st = _
  rw [evR, show evE (callN P k) (.blt .len (.cons (.var 0) .nil)) [some (.lst tags), some (.lst []), none, none] st = .ok (.int tags.length) st from rfl, bok]
  show (if _ then _ else _) = _
  rw [if_pos (by omega), Int.toNat_natCast]
/-! ### lists, same -/
def Leaf (d : D) : Prop := d = .non ∨ (∃ b, d = .bl b) ∨ (∃ i, d = .int i) ∨ ∃ c, d = .str c ∧ (c.all fun x => Nat.blt x 1114112) = true
theorem lists_leaf {l : Nat} {d : D} (hP : P[l]? = some (listsF l)) (h : Leaf d) : callN P (k + 1) l [d] st = .ok d st := by
  refine call_rt hP rfl rfl (ss_ret ?_)
  rcases h with rfl | ⟨b, rfl⟩ | ⟨i, rfl⟩ | ⟨c, rfl, _⟩ <;> rfl
theorem lists_seq {l : Nat} {g : D} {ds : List D} {f : D → D} (hP : P[l]? = some (listsF l)) (hg : seqV g = some ds) (hl : ds.length ≤ big) (h : ∀ d ∈ ds, callN P k l [d] st = .ok (f d) st) : callN P (k + 1) l [g] st = .ok (.lst (ds.map f)) st := by
  refine call_rt hP rfl rfl (ss_ret ?_)
  have e1 : evE (callN P k) (.blt (.isinst [.list, .tuple]) (.cons (.var 0) .nil)) [some g, none] st = .ok (.bl true) st := by
    cases g <;> first | rfl | (simp [seqV] at hg)
  have e2 : evR (callN P k) (.it (.var 0)) [some g, none] st = .ok ds st := by
    cases g <;> first | (simp only [seqV, Option.some.injEq] at hg; subst hg; rfl) | (simp [seqV] at hg)
  show evE (callN P k) (.ite _ _ _) [some g, none] st = _
  rw [evE, e1]
  have a1 := ev_comp (C := callN P k) (m := false) (elt := .call l (.cons (.var 1) .nil)) (tg := [1]) (own := [1]) (ifs := .nil) e2 hl (comp_map (g := f) ds fun d hd => cB_all (ρ1 := [some g, some d]) rfl (h d hd))
  refine Eq.trans a1 ?_
  unfold newList
  rw [if_pos (by rw [List.length_map]; exact hl)]
  rfl
theorem same_leaf {s : Nat} {d : D} (hP : P[s]? = some (sameF s)) (h : Leaf d) : callN P (k + 1) s [d, d] st = .ok (.bl true) st := by
  refine call_rt hP rfl rfl ?_
  rcases h with rfl | ⟨b, rfl⟩ | ⟨i, rfl⟩ | ⟨c, rfl, hc⟩
  · rfl
  · cases b <;> rfl
  · refine (ss_ifF0 (d := .bl false) rfl rfl).trans ((ss_ifF0 (d := .bl false) rfl rfl).trans (ss_ret ?_))
    simp [evE, evEs, bok, truth, bltD, isInsts, isInst, typeOf, ofB, cmpD, D.pl, D.eqv]
  · refine (ss_ifF0 (d := .bl false) rfl rfl).trans (ss_ifT (d := .bl true) rfl rfl (ss_ret ?_))
    simp [evE, evEs, bok, truth, bltD, isInsts, isInst, typeOf, ofB, cmpD, D.pl, D.eqv, hc]
theorem bls_true : ∀ ds : List D, blsOf (ds.map fun _ => D.bl true) = some (ds.map fun _ => true)
  | [] => rfl
  | d :: ds => by simp only [List.map_cons, blsOf, bls_true ds, Option.map_some]
theorem zipDL : ∀ ds : List D, (zipD ds ds).length = ds.length
  | [] => rfl
  | d :: ds => by simp only [zipD, List.length_cons, zipDL ds]
theorem zipD_mem : ∀ {ds : List D} {z : D}, z ∈ zipD ds ds → ∃ d ∈ ds, z = .tup [d, d]
  | [], z, h => nomatch h
  | d :: ds, z, h => by
    rcases List.mem_cons.mp h with rfl | h
    · exact ⟨d, List.mem_cons_self, rfl⟩
    · obtain ⟨e, he, rfl⟩ := zipD_mem h
      exact ⟨e, List.mem_cons_of_mem _ he, rfl⟩
theorem same_seq {s : Nat} {g : D} {ds : List D} (hP : P[s]? = some (sameF s)) (hg : seqV g = some ds) (hl : ds.length ≤ big) (h : ∀ d ∈ ds, callN P k s [d, d] st = .ok (.bl true) st) : callN P (k + 1) s [g, g] st = .ok (.bl true) st := by
  refine call_rt hP rfl rfl ?_
  have e1 : evE (callN P k) (.blt (.isinst [.list, .tuple]) (.cons (.var 1) .nil)) [some g, some g, none, none] st = .ok (.bl true) st := by
    cases g <;> first | rfl | (simp [seqV] at hg)
  have e2 : evE (callN P k) (.or (.cmp .ne (.blt (.isinst [.list]) (.cons (.var 0) .nil)) (.blt (.isinst [.list]) (.cons (.var 1) .nil))) (.cmp .ne (.blt (.isinst [.tuple]) (.cons (.var 0) .nil)) (.blt (.isinst [.tuple]) (.cons (.var 1) .nil)))) [some g, some g, none, none] st = .ok (.bl false) st := by
    cases g <;> first | rfl | (simp [seqV] at hg)
  have e3 : evE (callN P k) (.cmp .ne (.blt .len (.cons (.var 0) .nil)) (.blt .len (.cons (.var 1) .nil))) [some g, some g, none, none] st = .ok (.bl false) st := by
    have q := len_seq hg st
    have q0 : evE (callN P k) (.blt .len (.cons (.var 0) .nil)) [some g, some g, none, none] st = .ok (.int ds.length) st := q
    have q1 : evE (callN P k) (.blt .len (.cons (.var 1) .nil)) [some g, some g, none, none] st = .ok (.int ds.length) st := q
    have q2 : cmpD st .ne (.int ds.length) (.int ds.length) = some false := by
      show (if (D.pl 60 (.int ds.length) && D.pl 60 (.int ds.length)) = true then some (!((ds.length : Int) == ds.length)) else none) = some false
      exact Eq.trans (if_pos rfl) (by rw [beq_self_eq_true]; rfl)
    rw [evE, q0, bok, q1, bok, q2]
    rfl
  have e4 : evR (callN P k) (.zip (.var 0) (.var 1)) [some g, some g, none, none] st = .ok (zipD ds ds) st := by
    cases g <;> first | (simp only [seqV, Option.some.injEq] at hg; subst hg; rfl) | (simp [seqV] at hg)
  refine ss_ifT (d := .bl true) e1 rfl ((ss_ifF0 (d := .bl false) e2 rfl).trans ((ss_ifF0 (d := .bl false) e3 rfl).trans (ss_ret ?_)))
  have a1 := ev_comp (C := callN P k) (m := false) (elt := .call s (.cons (.var 2) (.cons (.var 3) .nil))) (tg := [2, 3]) (own := [2, 3]) (ifs := .nil) e4 (by rw [zipDL]; exact hl) (comp_map (g := fun _ => .bl true) _ fun z hz => by
    obtain ⟨d, hd, rfl⟩ := zipD_mem hz
    refine cB_all (e' := .bl true) rfl ?_
    exact h d hd)
  rw [evE, evEs, a1]
  unfold newList
  rw [if_pos (by rw [List.length_map, zipDL]; exact hl)]
  simp only [Bool.false_eq_true, if_false, bok, evEs, bltD, lstOf, Option.bind_some, bls_true]
  simp
end
end Mi
end

section
set_option linter.all false
set_option maxRecDepth 100000
set_option autoImplicit false
/-! the helpers that many laws share: boxes, cells -/
namespace Mi
theorem set_last {α : Type} (l : List α) (x y : α) : (l ++ [x]).set l.length y = l ++ [y] := by simp
theorem get_last {α : Type} (l : List α) (x : α) : (l ++ [x])[l.length]? = some x := by simp
section
variable {P : List Fn}
theorem box_ok {k bx : Nat} {c0 : Int} {cs : List Int} {j : Nat} {st : Sto} (hP : P[bx]? = some (boxF c0)) (hj : j < cs.length) (hc : cs.length ≤ 3) (hl : Low st) :
    ∃ st', callN P (k + 1) bx [.lst (iD cs), .int j] st = .ok (.ref st.length) st' ∧ Cell st' st.length 0 ∧ Low st' ∧ st'.length = st.length + 1 := by
  obtain ⟨x, hx⟩ : ∃ x, cs[j]? = some x := ⟨_, List.getElem?_eq_getElem hj⟩
  have hx2 : (iD cs)[j]? = some (.int x) := by unfold iD; rw [List.getElem?_map, hx]; rfl
  have hlen : (iD cs).length = cs.length := by unfold iD; rw [List.length_map]
  obtain ⟨a, ha⟩ : ∃ a : Int, a = if x < 0 then -x else x := ⟨_, rfl⟩
  obtain ⟨g, hg⟩ : ∃ g : Bool, g = decide ((10 : Int) ^ 18 ≤ a) := ⟨_, rfl⟩
  obtain ⟨q, hq⟩ : ∃ q : Int, q = if g then 1 else 0 := ⟨_, rfl⟩
  have hq2 : q.natAbs < 2 ^ 64 := by rw [hq]; cases g <;> decide
  obtain ⟨J, hJ⟩ : ∃ J : Int, J = x % 2305843009213693951 + 39373 * j + c0 := ⟨_, rfl⟩
  refine ⟨st ++ [.lst [.int (a * q), .int J, .int 0]], call_rt3 hP rfl (by simp) ?_ ?_, ⟨a * q, J, 0, by simp, by omega, by omega⟩, ?_, by simp⟩
  · exact Bool.eq_false_iff.mpr fun h => Nat.lt_irrefl st.length (by simpa only [D.lowr, Nat.blt_eq] using h)
  · refine (ss_set (d := .int x) (s1 := st) ?_).trans (ss_ret ?_)
    · have c1 : evE (callN P k) (.cmp .lt (.var 1) (.blt .len (.cons (.var 0) .nil))) [some (.lst (iD cs)), some (.int j), none] st = .ok (.bl true) st := by
        simp [evE, evEs, bok, bltD, seqOf, cmpD, ofB, hlen]
        exact hj
      have c2 : evE (callN P k) (.ix (.var 0) (.var 1)) [some (.lst (iD cs)), some (.int j), none] st = .ok (.int x) st := by
        simp only [evE, List.getElem?_cons_zero, List.getElem?_cons_succ, bok, ixD, seqOf, ixN, hlen]
        rw [if_pos (by omega), if_pos (by omega)]
        show lift st (iD cs)[(j : Int).toNat]? = _
        rw [Int.toNat_natCast, hx2]
        rfl
      show evE (callN P k) (.ite _ _ _) [some (.lst (iD cs)), some (.int j), none] st = _
      rw [evE, c1]
      exact c2
    · have d1 : evE (callN P k) (.blt .abs (.cons (.var 2) .nil)) [some (.lst (iD cs)), some (.int j), some (.int x)] st = .ok (.int a) st := by rw [ha]; rfl
      have d2 : evE (callN P k) (.blt .int (.cons (.cmp .ge (.blt .abs (.cons (.var 2) .nil)) (.bin .pow (.int 10) (.int 18))) .nil)) [some (.lst (iD cs)), some (.int j), some (.int x)] st = .ok (.int q) st := by
        have d3 : evE (callN P k) (.cmp .ge (.blt .abs (.cons (.var 2) .nil)) (.bin .pow (.int 10) (.int 18))) [some (.lst (iD cs)), some (.int j), some (.int x)] st = .ok (.bl g) st := by
          rw [evE, d1, bok, show evE (callN P k) (.bin .pow (.int 10) (.int 18)) [some (.lst (iD cs)), some (.int j), some (.int x)] st = .ok (.int (10 ^ 18)) st by kernel_rfl, bok, hg]
          rfl
        rw [evE, evEs, d3, bok, hq]
        rfl
      have d4 : evE (callN P k) (.bin .mul (.blt .abs (.cons (.var 2) .nil)) (.blt .int (.cons (.cmp .ge (.blt .abs (.cons (.var 2) .nil)) (.bin .pow (.int 10) (.int 18))) .nil))) [some (.lst (iD cs)), some (.int j), some (.int x)] st = .ok (.int (a * q)) st := by
        rw [evE, d1, bok, d2, bok, b_mulR hq2]
      have d5 : evE (callN P k) (.bin .add (.bin .add (.bin .mod (.blt .int (.cons (.var 2) .nil)) (.int 2305843009213693951)) (.bin .mul (.int 39373) (.var 1))) (.int c0)) [some (.lst (iD cs)), some (.int j), some (.int x)] st = .ok (.int J) st := by
        simp [evE, evEs, bok, bltD, b_add, b_mod (j := 2305843009213693951) (by decide), b_mulL (i := 39373) (by decide), hJ]
      show evE (callN P k) (.lst true _) [some (.lst (iD cs)), some (.int j), some (.int x)] st = _
      rw [evE, evEs, d4, bok, evEs, d5]
      rfl
  · exact fun n => by rw [List.all_append, hl n]; rfl
/-! ### the cells -/
def cbody : Ss := (.cons (.set 5 (.bin .mod (.blt .int (.cons (.var 3) .nil)) (.var 1)))
  (.cons (.setix (.var 2) (.var 5) (.bin .add (.ix (.var 2) (.var 5)) (.bin .mul (.var 4) (.bin .add (.var 3) (.int 2))))) .nil))
theorem iD_len (cs : List Int) : (iD cs).length = cs.length := by unfold iD; rw [List.length_map]
theorem iD_set (cs : List Int) (i : Nat) (v : Int) : (iD cs).set i (.int v) = iD (cs.set i v) := by unfold iD; rw [List.map_set]
theorem cturn {C : Nat → List D → Sto → Rs D} {pre : Sto} {cs : List Int} {j : Nat} {v : Int} {r0 x5 : Option D} (hj : j < 1000) (hc : cs.length = 3) :
    ∃ cs' y5, cs'.length = 3 ∧ evSs C cbody [r0, some (.int 3), some (.ref pre.length), some (.int j), some (.int v), x5] (pre ++ [.lst (iD cs)]) = .ok (.nx [r0, some (.int 3), some (.ref pre.length), some (.int j), some (.int v), y5]) (pre ++ [.lst (iD cs')]) := by
  obtain ⟨i, hi⟩ : ∃ i : Int, i = (j : Int) % 3 := ⟨_, rfl⟩
  have i0 : 0 ≤ i := by omega
  have i3 : i < 3 := by omega
  obtain ⟨x, hx⟩ : ∃ x, cs[i.toNat]? = some x := ⟨_, List.getElem?_eq_getElem (by omega)⟩
  have hx2 : (iD cs)[i.toNat]? = some (.int x) := by unfold iD; rw [List.getElem?_map, hx]; rfl
  have p1 : ((j : Int) + 2).natAbs < 2 ^ 64 := by omega
  have hix : ixN (iD cs).length i = some i.toNat := by
    unfold ixN
    rw [iD_len, hc, if_pos i0, if_pos (by omega)]
  refine ⟨cs.set i.toNat (x + v * (j + 2)), some (.int i), by rw [List.length_set]; exact hc, ?_⟩
  refine (ss_set (d := .int i) (s1 := pre ++ [.lst (iD cs)]) ?_).trans ?_
  · rw [hi]
    simp [evE, evEs, bok, bltD, b_mod (j := 3) (by decide)]
  refine (ss_setix (d := .int (x + v * (j + 2))) (s1 := pre ++ [.lst (iD cs)]) (v := .ref pre.length) (s2 := pre ++ [.lst (iD cs)]) (w := .int i) (s3 := pre ++ [.lst (iD cs)]) (s4 := pre ++ [.lst (iD (cs.set i.toNat (x + v * (j + 2))))]) ?_ rfl rfl ?_).trans rfl
  · have e1 : ∀ ρ : Env, ρ[2]? = some (some (.ref pre.length)) → ρ[5]? = some (some (.int i)) → evE C (.ix (.var 2) (.var 5)) ρ (pre ++ [.lst (iD cs)]) = .ok (.int x) (pre ++ [.lst (iD cs)]) := fun ρ h2 h5 => by
      simp only [evE, h2, h5, bok, ixD, seqOf, get_last, hix, hx2, lift]
    have e2 := e1 ([r0, some (.int 3), some (.ref pre.length), some (.int j), some (.int v), x5].set 5 (some (.int i))) rfl rfl
    rw [evE, e2, bok]
    simp [evE, bok, b_add, b_mulR p1]
  · simp only [setD, get_last, hix, Option.map_some, set_last, iD_set]
theorem cloop {C : Nat → List D → Sto → Rs D} {pre : Sto} {r0 : Option D} : ∀ (vs : List Int) (j : Nat) (cs : List Int) (x3 x4 x5 : Option D), j + vs.length < 1000 → cs.length = 3 →
    ∃ cs' y3 y4 y5, cs'.length = 3 ∧ forL [3, 4] (evSs C cbody) (enumD j (iD vs)) [r0, some (.int 3), some (.ref pre.length), x3, x4, x5] (pre ++ [.lst (iD cs)]) = .ok (.nx [r0, some (.int 3), some (.ref pre.length), y3, y4, y5]) (pre ++ [.lst (iD cs')])
  | [], j, cs, x3, x4, x5, h, hc => ⟨cs, x3, x4, x5, hc, rfl⟩
  | v :: vs, j, cs, x3, x4, x5, h, hc => by
    rw [List.length_cons] at h
    obtain ⟨cs1, y5, h1, e1⟩ := cturn (C := C) (pre := pre) (cs := cs) (j := j) (v := v) (r0 := r0) (x5 := x5) (by omega) hc
    obtain ⟨cs2, z3, z4, z5, h2, e2⟩ := cloop vs (j + 1) cs1 (some (.int j)) (some (.int v)) y5 (by omega) h1
    exact ⟨cs2, z3, z4, z5, h2, (forL_nx (tg := [3, 4]) rfl e1).trans e2⟩
theorem iD_cut (ns : List Int) (lo hi : Option Int) : cut (iD ns) lo hi = iD (cut ns lo hi) := by
  unfold cut iD
  rw [List.length_map, List.map_take, List.map_drop]
theorem cells_ok {k ce : Nat} {ns : List Int} (hP : P[ce]? = some cellsF) (hn : ns.length ≤ 63) : ∃ cs : List Int, 1 ≤ cs.length ∧ cs.length ≤ 3 ∧ callN P (k + 1) ce [.ref 0, .int 3] [.ro ns] = .ok (.lst (iD cs)) [.ro ns] := by
  have sl1 : evE (callN P k) (.sl (.var 0) .none (.some (.var 1))) [some (.ref 0), some (.int 3), none, none, none, none] [.ro ns] = .ok (.lst (iD (cut ns none (some 3)))) [.ro ns] := by
    rw [← iD_cut]; rfl
  have sl2 : ∀ (s : Sto) (x2 : Option D), s[0]? = some (.ro ns) → evR (callN P k) (.enum (.sl (.var 0) (.some (.var 1)) (.some (.int 63)))) [some (.ref 0), some (.int 3), x2, none, none, none] s = .ok (enumD 0 (iD (cut ns (some 3) (some 63)))) s := fun s x2 hs => by
    rw [← iD_cut]
    simp [evR, evE, evO, bok, slD, hs]
  have fin : ∀ (pre : Sto) (s2 : Sto) (cs : List Int), pre.length = 1 ∨ pre.length = 2 → pre.take 1 = [.ro ns] → pre[0]? = some (.ro ns) → (cs.length = 3 ∨ cut ns (some 3) (some 63) = []) → 1 ≤ cs.length → cs.length ≤ 3 →
      evE (callN P k) (.or (.blt .listM (.cons (.sl (.var 0) .none (.some (.var 1))) .nil)) (.lst true (.cons (.int 0) .nil))) [some (.ref 0), some (.int 3), none, none, none, none] [.ro ns] = .ok (.ref pre.length) (pre ++ [.lst (iD cs)]) →
      ∃ cs : List Int, 1 ≤ cs.length ∧ cs.length ≤ 3 ∧ callN P (k + 1) ce [.ref 0, .int 3] [.ro ns] = .ok (.lst (iD cs)) [.ro ns] := fun pre s2 cs hp ht h0 hc c1 c3 he => by
    obtain ⟨cs', y3, y4, y5, c1', c3', hf⟩ : ∃ cs' y3 y4 y5, 1 ≤ cs'.length ∧ cs'.length ≤ 3 ∧ forL [3, 4] (evSs (callN P k) cbody) (enumD 0 (iD (cut ns (some 3) (some 63)))) [some (.ref 0), some (.int 3), some (.ref pre.length), none, none, none] (pre ++ [.lst (iD cs)]) = .ok (.nx [some (.ref 0), some (.int 3), some (.ref pre.length), y3, y4, y5]) (pre ++ [.lst (iD cs')]) := by
      rcases hc with hc | hc
      · obtain ⟨cs', y3, y4, y5, h1, h2⟩ := cloop (C := callN P k) (pre := pre) (r0 := some (.ref 0)) (cut ns (some 3) (some 63)) 0 cs none none none (by unfold cut; rw [List.length_take, List.length_drop]; omega) hc
        exact ⟨cs', y3, y4, y5, by omega, by omega, h2⟩
      · rw [hc]
        exact ⟨cs, none, none, none, c1, c3, rfl⟩
    refine ⟨cs', c1', c3', ?_⟩
    have et : (pre ++ [Ob.dead]).take 1 = [.ro ns] := by
      rw [List.take_append_of_le_length (by omega)]
      exact ht
    have lw : ∀ n (cs : List Int), D.lowr n (.lst (iD cs)) = true := fun n cs => by
      show D.lowrs n (iD cs) = true
      induction cs with
      | nil => rfl
      | cons a r ih => exact ih
    refine Eq.trans (call_rt2 (s1 := pre ++ [.dead]) (d := .lst (iD cs')) hP rfl (by rw [List.length_append]; show pre.length + 1 ≠ 1; omega) (lw _ _) (by show ((pre ++ [Ob.dead]).take 1).all _ = true; rw [et]; rfl) ?_) (by show Rs.ok _ ((pre ++ [Ob.dead]).take 1) = _; rw [et])
    refine (ss_set he).trans ?_
    refine (ss_for (sl2 _ _ (by rw [List.getElem?_append_left (by omega)]; exact h0)) hf).trans ?_
    refine (rn_frz (n := pre.length) (ds := iD cs') rfl (get_last _ _)).trans ?_
    rw [set_last]
    exact ss_ret rfl
  have hcl : (cut ns none (some 3)).length = min 3 ns.length := by
    unfold cut sIx
    simp only [List.length_take, List.length_drop]
    show min (min (3 : Int).toNat ns.length - 0) (ns.length - 0) = _
    simp
  by_cases h0 : ns = []
  · subst h0
    refine fin [.ro [], .lst []] [] [0] (.inr rfl) rfl rfl (.inr rfl) (by decide) (by decide) ?_
    kernel_rfl
  · have hpos : 0 < ns.length := List.length_pos_iff.mpr h0
    refine fin [.ro ns] [] (cut ns none (some 3)) (.inl rfl) rfl rfl ?_ (by rw [hcl]; omega) (by rw [hcl]; omega) ?_
    · by_cases h3 : 3 ≤ ns.length
      · exact .inl (by rw [hcl]; omega)
      · refine .inr (List.eq_nil_of_length_eq_zero ?_)
        unfold cut sIx
        simp only [List.length_take, List.length_drop, if_neg (show ¬ (3 : Int) < 0 by decide), show (3 : Int).toNat = 3 from rfl]
        omega
    · have hne : (iD (cut ns none (some 3))).isEmpty = false := by
        cases e : cut ns none (some 3) with
        | nil => rw [e] at hcl; simp at hcl; omega
        | cons a r => rfl
      rw [evE]
      have e1 : evE (callN P k) (.blt .listM (.cons (.sl (.var 0) .none (.some (.var 1))) .nil)) [some (.ref 0), some (.int 3), none, none, none, none] [.ro ns] = .ok (.ref 1) [.ro ns, .lst (iD (cut ns none (some 3)))] := by
        rw [evE, evEs, sl1, bok]
        rfl
      rw [e1, bok]
      have e2 : truth [.ro ns, .lst (iD (cut ns none (some 3)))] (.ref 1) = some true := by
        show some (!(iD (cut ns none (some 3))).isEmpty) = some true
        rw [hne]; rfl
      rw [e2]
      rfl
end
end Mi
end

section
set_option linter.all false
set_option maxRecDepth 100000
set_option autoImplicit false
/-! the helpers that many laws share: lots -/
namespace Mi
def okC (c : Cs) : Bool := c.all fun x => Nat.blt x 1114112
def strC (l : List Cs) : List D := l.map D.str
def lotD (l : List Cs) : D := .lst (strC l)
theorem pl_str {n : Nat} {c : Cs} (h : okC c = true) : D.pl n (.str c) = true := by
  cases n <;> exact h
theorem pls_all' (n : Nat) : ∀ l : List D, D.pls n l = l.all (D.pl n)
  | [] => rfl
  | d :: l => by rw [D.pls, pls_all' n l]; rfl
theorem pl_strs {n : Nat} {l : List Cs} (h : ∀ c ∈ l, okC c = true) : ∀ d ∈ strC l, D.pl n d = true := fun d hd => by
  obtain ⟨c, hc, rfl⟩ := List.mem_map.mp hd
  exact pl_str (h c hc)
theorem pl_lot {n : Nat} {l : List Cs} (h : ∀ c ∈ l, okC c = true) : D.pl (n + 1) (lotD l) = true := by
  show D.pls n (strC l) = true
  rw [pls_all', List.all_eq_true]
  exact pl_strs h
theorem eqvs_strs : ∀ a b : List Cs, D.eqvs (strC a) (strC b) = (a == b)
  | [], [] => rfl
  | [], _ :: _ => rfl
  | _ :: _, [] => rfl
  | x :: a, y :: b => by
    show (D.eqv (.str x) (.str y) && D.eqvs (strC a) (strC b)) = (x :: a == y :: b)
    rw [eqvs_strs a b]
    rfl
theorem eqv_lot (a b : List Cs) : D.eqv (lotD a) (lotD b) = (a == b) := eqvs_strs a b
section
variable {s : Sto}
/-- a text in a list or tuple of texts -/
theorem in_strs {g : D} {l : List Cs} {c : Cs} (hg : seqV g = some (strC l)) (hc : okC c = true) (hl : ∀ c ∈ l, okC c = true) : inD s (.str c) g = some (l.contains c) := by
  unfold inD
  rw [seqV_of hg s]
  show (if (D.pl 60 (.str c) && (strC l).all (D.pl 60)) = true then some ((strC l).any fun z => D.eqv z (.str c)) else none) = _
  rw [if_pos (by rw [pl_str hc, Bool.true_and, List.all_eq_true]; exact pl_strs hl)]
  congr 1
  unfold strC
  rw [List.any_map, List.contains_eq_any_beq]
  congr 1
  funext x
  show (x == c) = (c == x)
  exact Bool.eq_iff_iff.mpr ⟨fun h => by simpa using (by simpa using h : x = c).symm, fun h => by simpa using (by simpa using h : c = x).symm⟩
/-- a lot in a list of lots -/
theorem in_lots {l : List Cs} {L : List (List Cs)} (hl : ∀ c ∈ l, okC c = true) (hL : ∀ l ∈ L, ∀ c ∈ l, okC c = true) : inD s (lotD l) (.lst (L.map lotD)) = some (L.contains l) := by
  show (if (D.pl 60 (lotD l) && (L.map lotD).all (D.pl 60)) = true then some ((L.map lotD).any fun z => D.eqv z (lotD l)) else none) = _
  rw [if_pos (by
    rw [pl_lot hl, Bool.true_and, List.all_eq_true]
    intro d hd
    obtain ⟨m, hm, rfl⟩ := List.mem_map.mp hd
    exact pl_lot (hL m hm))]
  congr 1
  rw [List.any_map, List.contains_eq_any_beq]
  congr 1
  funext x
  show D.eqv (lotD x) (lotD l) = (l == x)
  rw [eqv_lot]
  exact Bool.eq_iff_iff.mpr ⟨fun h => by simpa using (by simpa using h : x = l).symm, fun h => by simpa using (by simpa using h : l = x).symm⟩
end
/-! ### sorted texts -/
def insC (x : Cs) : List Cs → List Cs
  | [] => [x]
  | y :: ys => if codeLt y x then y :: insC x ys else x :: y :: ys
def sortC : List Cs → List Cs
  | [] => []
  | x :: xs => insC x (sortC xs)
theorem insD_str (x : Cs) : ∀ l : List Cs, insD (.str x) (strC l) = strC (insC x l)
  | [] => rfl
  | y :: l => by
    show (if D.lt (.str y) (.str x) then D.str y :: insD (.str x) (strC l) else .str x :: .str y :: strC l) = strC (if codeLt y x then y :: insC x l else x :: y :: l)
    rw [show D.lt (.str y) (.str x) = codeLt y x by simp [D.lt], insD_str x l]
    split <;> rfl
theorem sortD_str : ∀ l : List Cs, sortD (strC l) = strC (sortC l)
  | [] => rfl
  | x :: l => by
    show insD (.str x) (sortD (strC l)) = _
    rw [sortD_str l, insD_str]
    rfl
theorem insC_perm (x : Cs) : ∀ l, (insC x l).Perm (x :: l)
  | [] => .refl _
  | y :: l => by
    unfold insC
    split
    · exact ((insC_perm x l).cons y).trans (.swap x y l)
    · exact .refl _
theorem sortC_perm : ∀ l, (sortC l).Perm l
  | [] => .refl _
  | x :: l => (insC_perm x _).trans ((sortC_perm l).cons x)
theorem alike_str (a b : Cs) : D.alike (.str a) (.str b) = true := by simp [D.alike]
theorem sortable_strs {l : List Cs} (h : ∀ c ∈ l, okC c = true) : sortable (strC l) = true := by
  unfold sortable
  simp only [Bool.and_eq_true, Bool.or_eq_true, List.all_eq_true]
  refine ⟨⟨pl_strs h, fun d hd e he => ?_⟩, .inr fun d hd => ?_⟩
  · obtain ⟨c, _, rfl⟩ := List.mem_map.mp hd
    obtain ⟨c', _, rfl⟩ := List.mem_map.mp he
    exact alike_str c c'
  · obtain ⟨c, _, rfl⟩ := List.mem_map.mp hd
    rfl
theorem alikes_strs : ∀ a b : List Cs, D.alikes (strC a) (strC b) = true
  | [], [] => by simp [strC, D.alikes]
  | [], _ :: _ => by simp [strC, D.alikes]
  | _ :: _, [] => by simp [strC, D.alikes]
  | x :: a, y :: b => by
    show D.alikes (.str x :: strC a) (.str y :: strC b) = true
    rw [D.alikes, alike_str, alikes_strs a b]
    rfl
theorem sortable_lots {L : List (List Cs)} (h : ∀ l ∈ L, ∀ c ∈ l, okC c = true) : sortable (L.map lotD) = true := by
  unfold sortable
  simp only [Bool.and_eq_true, Bool.or_eq_true, List.all_eq_true]
  refine ⟨⟨fun d hd => ?_, fun d hd e he => ?_⟩, .inr fun d hd => ?_⟩
  · obtain ⟨c, hc, rfl⟩ := List.mem_map.mp hd
    exact pl_lot (h c hc)
  · obtain ⟨c, _, rfl⟩ := List.mem_map.mp hd
    obtain ⟨c', _, rfl⟩ := List.mem_map.mp he
    show D.alike (.lst (strC c)) (.lst (strC c')) = true
    rw [D.alike]
    exact alikes_strs c c'
  · obtain ⟨c, _, rfl⟩ := List.mem_map.mp hd
    rfl
theorem insD_perm (x : D) : ∀ l, (insD x l).Perm (x :: l)
  | [] => .refl _
  | y :: l => by
    unfold insD
    split
    · exact ((insD_perm x l).cons y).trans (.swap x y l)
    · exact .refl _
theorem sortD_perm : ∀ l, (sortD l).Perm l
  | [] => .refl _
  | x :: l => (insD_perm x _).trans ((sortD_perm l).cons x)
/-! ### lots -/
def nearP (a b : Cs) (l : List Cs) : Bool := l.contains a || l.contains b
def lotStep (L : List (List Cs)) (p : Cs × Cs) : List (List Cs) := L.filter (fun l => !nearP p.1 p.2 l) ++ [sortC (L.filter (nearP p.1 p.2)).flatten]
structure LotsOk (tags : List Cs) (ones : List (Cs × Cs)) (L : List (List Cs)) : Prop where
  all : ∀ x ∈ tags, ∃ l ∈ L, x ∈ l
  sub : ∀ l ∈ L, ∀ x ∈ l, x ∈ tags
  one : ∀ l ∈ L, ∀ l' ∈ L, ∀ x, x ∈ l → x ∈ l' → l = l'
  ons : ∀ p ∈ ones, ∃ l ∈ L, p.1 ∈ l ∧ p.2 ∈ l
  sz : L.flatten.length = tags.length
theorem LotsOk.step {tags : List Cs} {ones : List (Cs × Cs)} {L : List (List Cs)} (h : LotsOk tags ones L) {p : Cs × Cs} (h1 : p.1 ∈ tags) (h2 : p.2 ∈ tags) : LotsOk tags (ones ++ [p]) (lotStep L p) := by
  have mM : ∀ x, x ∈ sortC (L.filter (nearP p.1 p.2)).flatten ↔ ∃ l ∈ L, nearP p.1 p.2 l = true ∧ x ∈ l := fun x => by
    rw [(sortC_perm _).mem_iff, List.mem_flatten]
    constructor
    · rintro ⟨l, hl, hx⟩
      obtain ⟨a, b⟩ := List.mem_filter.mp hl
      exact ⟨l, a, b, hx⟩
    · rintro ⟨l, a, b, hx⟩
      exact ⟨l, List.mem_filter.mpr ⟨a, b⟩, hx⟩
  have mL : ∀ l, l ∈ lotStep L p ↔ (l ∈ L ∧ nearP p.1 p.2 l = false) ∨ l = sortC (L.filter (nearP p.1 p.2)).flatten := fun l => by
    unfold lotStep
    rw [List.mem_append, List.mem_filter, List.mem_singleton, Bool.not_eq_true']
  have nr : ∀ l x, x ∈ l → x = p.1 ∨ x = p.2 → nearP p.1 p.2 l = true := fun l x hx e => by
    unfold nearP
    rw [Bool.or_eq_true, List.contains_iff_mem, List.contains_iff_mem]
    rcases e with rfl | rfl
    · exact .inl hx
    · exact .inr hx
  have key : ∀ x, (∃ l ∈ L, x ∈ l) → ∃ l ∈ lotStep L p, x ∈ l := fun x ⟨l, hl, hx⟩ => by
    cases e : nearP p.1 p.2 l with
    | true => exact ⟨_, (mL _).mpr (.inr rfl), (mM x).mpr ⟨l, hl, e, hx⟩⟩
    | false => exact ⟨l, (mL l).mpr (.inl ⟨hl, e⟩), hx⟩
  refine ⟨fun x hx => key x (h.all x hx), fun l hl x hx => ?_, fun l hl l' hl' x hx hx' => ?_, fun q hq => ?_, ?_⟩
  · rcases (mL l).mp hl with ⟨hl, _⟩ | rfl
    · exact h.sub l hl x hx
    · obtain ⟨l, hl, _, hx⟩ := (mM x).mp hx
      exact h.sub l hl x hx
  · rcases (mL l).mp hl with ⟨hl, e⟩ | rfl <;> rcases (mL l').mp hl' with ⟨hl', e'⟩ | rfl
    · exact h.one l hl l' hl' x hx hx'
    · obtain ⟨m, hm, em, hxm⟩ := (mM x).mp hx'
      rw [h.one l hl m hm x hx hxm, em] at e
      cases e
    · obtain ⟨m, hm, em, hxm⟩ := (mM x).mp hx
      rw [h.one l' hl' m hm x hx' hxm, em] at e'
      cases e'
    · rfl
  · rcases List.mem_append.mp hq with hq | hq
    · obtain ⟨l, hl, a, b⟩ := h.ons q hq
      cases e : nearP p.1 p.2 l with
      | true => exact ⟨_, (mL _).mpr (.inr rfl), (mM _).mpr ⟨l, hl, e, a⟩, (mM _).mpr ⟨l, hl, e, b⟩⟩
      | false => exact ⟨l, (mL l).mpr (.inl ⟨hl, e⟩), a, b⟩
    · rw [List.mem_singleton] at hq
      subst hq
      obtain ⟨l, hl, hx⟩ := h.all _ h1
      obtain ⟨m, hm, hy⟩ := h.all _ h2
      exact ⟨_, (mL _).mpr (.inr rfl), (mM _).mpr ⟨l, hl, nr l _ hx (.inl rfl), hx⟩, (mM _).mpr ⟨m, hm, nr m _ hy (.inr rfl), hy⟩⟩
  · rw [← h.sz]
    unfold lotStep
    rw [List.flatten_append, List.length_append]
    show _ + ([sortC _] : List (List Cs)).flatten.length = _
    rw [List.flatten_cons, List.flatten_nil, List.append_nil, (sortC_perm _).length_eq]
    clear mM mL nr key h h1 h2
    induction L with
    | nil => rfl
    | cons l L ih =>
      rw [List.filter_cons, List.filter_cons]
      cases e : nearP p.1 p.2 l with
      | true => simp only [Bool.not_true, Bool.false_eq_true, if_false, if_true, List.flatten_cons, List.length_append]; omega
      | false => simp only [Bool.not_false, Bool.false_eq_true, if_false, if_true, List.flatten_cons, List.length_append]; omega
end Mi
end

section
set_option linter.all false
set_option maxRecDepth 100000
set_option autoImplicit false
/-! the helpers that many laws share: lots run -/
namespace Mi
theorem comp_filter {α : Type} {f : D → Sto → Rs (Option D)} {h g : α → D} {q : α → Bool} {s : Sto} : ∀ (xs : List α), (∀ x ∈ xs, f (h x) s = .ok (if q x then some (g x) else none) s) → compL f (xs.map h) s = .ok ((xs.filter q).map g) s
  | [], _ => rfl
  | x :: xs, hh => by
    rw [List.map_cons, compL, hh x List.mem_cons_self]
    show ((compL f (xs.map h) s).bind _) = _
    rw [comp_filter xs fun y hy => hh y (List.mem_cons_of_mem _ hy)]
    rw [List.filter_cons]
    cases e : q x with
    | true => rfl
    | false => rfl
theorem cB_if {C : Nat → List D → Sto → Rs D} {ρ ρ1 : Env} {s : Sto} {elt c : E} {tg : List Nat} {d y : D} {t : Bool} (ht : tgt tg d ρ = some ρ1) (hc : evE C c ρ1 s = .ok (.bl t) s) (he : evE C elt ρ1 s = .ok y s) : cB C elt tg (.cons c .nil) ρ d s = .ok (if t then some y else none) s := by
  cases t with
  | true => simp only [cB, ht, evTs, hc, tst, bok, truth, lift, if_true, he]
  | false => simp only [cB, ht, evTs, hc, tst, bok, truth, lift, Bool.false_eq_true, if_false]
theorem sumL_ok : ∀ (L : List (List Cs)) (acc : List D), acc.length + L.flatten.length ≤ big → sumL acc (L.map lotD) = some (acc ++ strC L.flatten)
  | [], acc, _ => by simp [sumL, strC]
  | l :: L, acc, h => by
    rw [List.flatten_cons, List.length_append] at h
    have hl : (strC l).length = l.length := by unfold strC; rw [List.length_map]
    show (if (acc ++ strC l).length ≤ big then sumL (acc ++ strC l) (L.map lotD) else none) = _
    rw [if_pos (by rw [List.length_append, hl]; omega), sumL_ok L (acc ++ strC l) (by rw [List.length_append, hl]; omega), List.flatten_cons]
    unfold strC
    rw [List.map_append, List.append_assoc]
def prD (p : Cs × Cs) : D := .tup [.str p.1, .str p.2]
def lotsB : Ss := .cons (.set 4 (.comp false (.var 6) [6] (.it (.var 1)) (.cons (.or (.cmp .isin (.var 2) (.var 6)) (.cmp .isin (.var 3) (.var 6))) .nil) [6]))
  (.cons (.set 1 (.bin .add (.comp false (.var 6) [6] (.it (.var 1)) (.cons (.cmp .notin (.var 6) (.var 4)) .nil) [6]) (.lst false (.cons (.blt .sorted (.cons (.blt .sumL (.cons (.var 4) (.cons (.lst false .nil) .nil))) .nil)) .nil)))) .nil)
section
variable {C : Nat → List D → Sto → Rs D} {s : Sto}
theorem lots_turn {deck x5 x6 x4 : Option D} {L : List (List Cs)} {p : Cs × Cs} (h1 : okC p.1 = true) (h2 : okC p.2 = true) (hL : ∀ l ∈ L, ∀ c ∈ l, okC c = true) (hn : L.length ≤ 100000) (hf : L.flatten.length ≤ 100000) :
    evSs C lotsB [deck, some (.lst (L.map lotD)), some (.str p.1), some (.str p.2), x4, x5, x6] s = .ok (.nx [deck, some (.lst ((lotStep L p).map lotD)), some (.str p.1), some (.str p.2), some (.lst ((L.filter (nearP p.1 p.2)).map lotD)), x5, x6]) s := by
  have hlen : ∀ q : List Cs → Bool, ((L.filter q).map lotD).length ≤ big := fun q => by
    have := List.length_filter_le q L
    rw [List.length_map]
    unfold big
    omega
  have hmap : (L.map lotD).length ≤ big := by rw [List.length_map]; unfold big; omega
  have c1 : evE C (.comp false (.var 6) [6] (.it (.var 1)) (.cons (.or (.cmp .isin (.var 2) (.var 6)) (.cmp .isin (.var 3) (.var 6))) .nil) [6]) [deck, some (.lst (L.map lotD)), some (.str p.1), some (.str p.2), x4, x5, x6] s = .ok (.lst ((L.filter (nearP p.1 p.2)).map lotD)) s := by
    refine (ev_comp (s1 := s) (s2 := s) (xs := L.map lotD) rfl hmap (comp_filter (h := lotD) (g := lotD) (q := nearP p.1 p.2) L fun l hl => ?_)).trans ?_
    · refine cB_if (ρ1 := [deck, some (.lst (L.map lotD)), some (.str p.1), some (.str p.2), x4, x5, some (lotD l)]) rfl ?_ rfl
      have a1 : evE C (.cmp .isin (.var 2) (.var 6)) [deck, some (.lst (L.map lotD)), some (.str p.1), some (.str p.2), x4, x5, some (lotD l)] s = .ok (.bl (l.contains p.1)) s := by
        show ofB s (inD s (.str p.1) (lotD l)) = _
        rw [in_strs (g := lotD l) (l := l) rfl h1 (hL l hl)]
        rfl
      have a2 : evE C (.cmp .isin (.var 3) (.var 6)) [deck, some (.lst (L.map lotD)), some (.str p.1), some (.str p.2), x4, x5, some (lotD l)] s = .ok (.bl (l.contains p.2)) s := by
        show ofB s (inD s (.str p.2) (lotD l)) = _
        rw [in_strs (g := lotD l) (l := l) rfl h2 (hL l hl)]
        rfl
      rw [evE, a1, bok]
      unfold nearP
      cases e : l.contains p.1 with
      | true => rfl
      | false => exact a2
    · unfold newList
      rw [if_pos (hlen _)]
      rfl
  refine (ss_set c1).trans ?_
  have hnear : ∀ l ∈ L.filter (nearP p.1 p.2), ∀ c ∈ l, okC c = true := fun l hl => hL l (List.mem_filter.mp hl).1
  have hflat : (L.filter (nearP p.1 p.2)).flatten.length ≤ L.flatten.length := by
    clear hlen hmap c1 hnear hL hn hf
    induction L with
    | nil => exact Nat.le_refl _
    | cons l L ih =>
      rw [List.filter_cons]
      cases nearP p.1 p.2 l with
      | true => simp only [if_true, List.flatten_cons, List.length_append]; omega
      | false => simp only [Bool.false_eq_true, if_false, List.flatten_cons, List.length_append]; omega
  have c2 : evE C (.comp false (.var 6) [6] (.it (.var 1)) (.cons (.cmp .notin (.var 6) (.var 4)) .nil) [6]) [deck, some (.lst (L.map lotD)), some (.str p.1), some (.str p.2), some (.lst ((L.filter (nearP p.1 p.2)).map lotD)), x5, x6] s = .ok (.lst ((L.filter fun l => !nearP p.1 p.2 l).map lotD)) s := by
    refine (ev_comp (s1 := s) (s2 := s) (xs := L.map lotD) rfl hmap (comp_filter (h := lotD) (g := lotD) (q := fun l => !nearP p.1 p.2 l) L fun l hl => ?_)).trans ?_
    · refine cB_if (ρ1 := [deck, some (.lst (L.map lotD)), some (.str p.1), some (.str p.2), some (.lst ((L.filter (nearP p.1 p.2)).map lotD)), x5, some (lotD l)]) rfl ?_ rfl
      show ofB s ((inD s (lotD l) (.lst ((L.filter (nearP p.1 p.2)).map lotD))).map (!·)) = _
      rw [in_lots (hL l hl) hnear]
      have : (L.filter (nearP p.1 p.2)).contains l = nearP p.1 p.2 l := by
        rw [Bool.eq_iff_iff, List.contains_iff_mem, List.mem_filter]
        exact ⟨fun h => h.2, fun h => ⟨hl, h⟩⟩
      rw [this]
      rfl
    · unfold newList
      rw [if_pos (hlen _)]
      rfl
  have c3 : evE C (.lst false (.cons (.blt .sorted (.cons (.blt .sumL (.cons (.var 4) (.cons (.lst false .nil) .nil))) .nil)) .nil)) [deck, some (.lst (L.map lotD)), some (.str p.1), some (.str p.2), some (.lst ((L.filter (nearP p.1 p.2)).map lotD)), x5, x6] s = .ok (.lst [lotD (sortC (L.filter (nearP p.1 p.2)).flatten)]) s := by
    have d1 : evE C (.blt .sumL (.cons (.var 4) (.cons (.lst false .nil) .nil))) [deck, some (.lst (L.map lotD)), some (.str p.1), some (.str p.2), some (.lst ((L.filter (nearP p.1 p.2)).map lotD)), x5, x6] s = .ok (.lst (strC (L.filter (nearP p.1 p.2)).flatten)) s := by
      show (match sumL [] ((L.filter (nearP p.1 p.2)).map lotD) with | some l => Rs.ok (D.lst l) s | none => .stuck) = _
      rw [sumL_ok _ [] (by simp only [List.length_nil]; unfold big; omega)]
      rfl
    have d2 : evE C (.blt .sorted (.cons (.blt .sumL (.cons (.var 4) (.cons (.lst false .nil) .nil))) .nil)) [deck, some (.lst (L.map lotD)), some (.str p.1), some (.str p.2), some (.lst ((L.filter (nearP p.1 p.2)).map lotD)), x5, x6] s = .ok (lotD (sortC (L.filter (nearP p.1 p.2)).flatten)) s := by
      rw [evE, evEs, d1]
      show (if sortable (strC (L.filter (nearP p.1 p.2)).flatten) then Rs.ok (D.lst (sortD (strC (L.filter (nearP p.1 p.2)).flatten))) s else .stuck) = _
      rw [if_pos (sortable_strs fun c hc => by
        obtain ⟨l, hl, hx⟩ := List.mem_flatten.mp hc
        exact hnear l hl c hx), sortD_str]
      rfl
    rw [evE, evEs, d2]
    rfl
  refine (ss_set (d := .lst ((lotStep L p).map lotD)) (s1 := s) ?_).trans rfl
  show evE C (.bin .add _ _) [deck, some (.lst (L.map lotD)), some (.str p.1), some (.str p.2), some (.lst ((L.filter (nearP p.1 p.2)).map lotD)), x5, x6] s = _
  rw [evE, c2, bok, c3, bok]
  show okList _ s = _
  unfold okList
  rw [if_pos (by
    have := List.length_filter_le (fun l => !nearP p.1 p.2 l) L
    rw [List.length_append, List.length_map]
    simp only [List.length_cons, List.length_nil]
    unfold big
    omega)]
  unfold lotStep
  rw [List.map_append]
  rfl
end
end Mi
end

section
set_option linter.all false
set_option maxRecDepth 100000
set_option autoImplicit false
/-! the helpers that many laws share: sorting, lots -/
namespace Mi
section
variable {α : Type}
def insG (g : α → D) (x : α) : List α → List α
  | [] => [x]
  | y :: ys => if D.lt (g y) (g x) then y :: insG g x ys else x :: y :: ys
def sortG (g : α → D) : List α → List α
  | [] => []
  | x :: xs => insG g x (sortG g xs)
theorem insD_map (g : α → D) (x : α) : ∀ l : List α, insD (g x) (l.map g) = (insG g x l).map g
  | [] => rfl
  | y :: l => by
    show (if D.lt (g y) (g x) then g y :: insD (g x) (l.map g) else g x :: g y :: l.map g) = List.map g (if D.lt (g y) (g x) then y :: insG g x l else x :: y :: l)
    rw [insD_map g x l]
    split <;> rfl
theorem sortD_map (g : α → D) : ∀ l : List α, sortD (l.map g) = (sortG g l).map g
  | [] => rfl
  | x :: l => by
    show insD (g x) (sortD (l.map g)) = _
    rw [sortD_map g l, insD_map]
    rfl
theorem insG_perm (g : α → D) (x : α) : ∀ l, (insG g x l).Perm (x :: l)
  | [] => .refl _
  | y :: l => by
    unfold insG
    split
    · exact ((insG_perm g x l).cons y).trans (.swap x y l)
    · exact .refl _
theorem sortG_perm (g : α → D) : ∀ l, (sortG g l).Perm l
  | [] => .refl _
  | x :: l => (insG_perm g x _).trans ((sortG_perm g l).cons x)
theorem sortG_eq {g : α → D} {i : α → Cs} (h : ∀ a b, D.lt (g a) (g b) = codeLt (i a) (i b)) : ∀ l, (sortG g l).map i = sortC (l.map i)
  | [] => rfl
  | x :: l => by
    have key : ∀ l : List α, (insG g x l).map i = insC (i x) (l.map i) := fun l => by
      induction l with
      | nil => rfl
      | cons y l ih =>
        rw [insG, h, List.map_cons, insC]
        split
        · rw [List.map_cons, ih]
        · rfl
    show (insG g x (sortG g l)).map i = insC (i x) (sortC (l.map i))
    rw [key, sortG_eq h l]
end
/-! ### codeLt -/
theorem codeLt_irr : ∀ a : Cs, codeLt a a = false
  | [] => rfl
  | x :: a => by rw [codeLt, if_pos rfl]; exact codeLt_irr a
theorem codeLt_tr : ∀ {a b c : Cs}, codeLt a b = true → codeLt b c = true → codeLt a c = true
  | [], [], _, h, _ => by cases h
  | [], _ :: _, [], _, h => by cases h
  | [], _ :: _, _ :: _, _, _ => rfl
  | _ :: _, [], _, h, _ => by cases h
  | _ :: _, _ :: _, [], _, h => by cases h
  | x :: a, y :: b, z :: c, h, h2 => by
    rw [codeLt] at h h2 ⊢
    by_cases e : x = y
    · subst e
      rw [if_pos rfl] at h
      by_cases e2 : x = z
      · subst e2
        rw [if_pos rfl] at h2
        rw [if_pos rfl]
        exact codeLt_tr h h2
      · rw [if_neg e2] at h2
        rw [if_neg e2]
        exact h2
    · rw [if_neg e] at h
      by_cases e2 : y = z
      · subst e2
        rw [if_neg e]
        exact h
      · rw [if_neg e2] at h2
        simp only [decide_eq_true_eq] at h h2
        rw [if_neg (by omega)]
        simp only [decide_eq_true_eq]
        omega
theorem codeLt_as {a b : Cs} (h : codeLt a b = true) : codeLt b a = false := by
  cases e : codeLt b a with
  | false => rfl
  | true => have := codeLt_tr h e; rw [codeLt_irr] at this; cases this
theorem codeLt_tot : ∀ {a b : Cs}, codeLt a b = false → codeLt b a = false → a = b
  | [], [], _, _ => rfl
  | [], _ :: _, h, _ => by cases h
  | _ :: _, [], _, h => by cases h
  | x :: a, y :: b, h, h2 => by
    rw [codeLt] at h h2
    by_cases e : x = y
    · subst e
      rw [if_pos rfl] at h h2
      rw [codeLt_tot h h2]
    · rw [if_neg e] at h
      rw [if_neg (Ne.symm e)] at h2
      simp only [decide_eq_false_iff_not] at h h2
      omega
theorem insC_comm (x y : Cs) : ∀ l, insC x (insC y l) = insC y (insC x l)
  | [] => by
    cases e : codeLt y x with
    | true =>
      have e2 := codeLt_as e
      simp only [insC, e, e2, if_true, Bool.false_eq_true, if_false]
    | false =>
      cases e2 : codeLt x y with
      | true => simp only [insC, e, e2, if_true, Bool.false_eq_true, if_false]
      | false => rw [codeLt_tot e e2]
  | z :: l => by
    by_cases hxy : x = y
    · rw [hxy]
    have ih := insC_comm x y l
    cases e1 : codeLt z x with
    | true =>
      cases e2 : codeLt z y with
      | true => simp only [insC, e1, e2, if_true, ih]
      | false =>
        have e3 : codeLt y x = true := by
          cases e : codeLt y x with
          | true => rfl
          | false =>
            cases e4 : codeLt x y with
            | true => rw [codeLt_tr e1 e4] at e2; cases e2
            | false => exact absurd (codeLt_tot e4 e) hxy
        simp only [insC, e1, e2, e3, if_true, Bool.false_eq_true, if_false]
    | false =>
      cases e2 : codeLt z y with
      | true =>
        have e3 : codeLt x y = true := by
          cases e : codeLt x y with
          | true => rfl
          | false =>
            cases e4 : codeLt y x with
            | true => rw [codeLt_tr e2 e4] at e1; cases e1
            | false => exact absurd (codeLt_tot e e4) hxy
        simp only [insC, e1, e2, e3, if_true, Bool.false_eq_true, if_false]
      | false =>
        cases e3 : codeLt x y with
        | true =>
          have e4 := codeLt_as e3
          simp only [insC, e1, e2, e3, e4, if_true, Bool.false_eq_true, if_false]
        | false =>
          cases e4 : codeLt y x with
          | true => simp only [insC, e1, e2, e3, e4, if_true, Bool.false_eq_true, if_false]
          | false => exact absurd (codeLt_tot e3 e4) hxy
theorem sortC_of_perm {a b : List Cs} (h : a.Perm b) : sortC a = sortC b := by
  induction h with
  | nil => rfl
  | cons x _ ih => show insC x _ = insC x _; rw [ih]
  | swap x y l => exact insC_comm y x _
  | trans _ _ h1 h2 => exact h1.trans h2
def SortedC (l : List Cs) : Prop := l.Pairwise fun a b => codeLt b a = false
theorem insC_sorted {x : Cs} : ∀ {l : List Cs}, SortedC l → SortedC (insC x l)
  | [], _ => List.pairwise_singleton _ _
  | y :: l, h => by
    obtain ⟨h1, h2⟩ := List.pairwise_cons.mp h
    unfold insC
    cases e : codeLt y x with
    | true =>
      rw [if_pos rfl]
      refine List.pairwise_cons.mpr ⟨fun z hz => ?_, insC_sorted h2⟩
      rcases List.mem_cons.mp ((insC_perm x l).mem_iff.mp hz) with rfl | hz
      · exact codeLt_as e
      · exact h1 z hz
    | false =>
      rw [if_neg (by decide)]
      refine List.pairwise_cons.mpr ⟨fun z hz => ?_, h⟩
      rcases List.mem_cons.mp hz with rfl | hz
      · exact e
      · cases e2 : codeLt z x with
        | false => rfl
        | true =>
          have h3 := h1 z hz
          cases e3 : codeLt y z with
          | true => rw [codeLt_tr e3 e2] at e; cases e
          | false => rw [codeLt_tot e3 h3, e2] at e; cases e
theorem sortC_sorted : ∀ l, SortedC (sortC l)
  | [] => List.Pairwise.nil
  | x :: l => insC_sorted (sortC_sorted l)
theorem sortC_id : ∀ {l : List Cs}, SortedC l → sortC l = l
  | [], _ => rfl
  | x :: l, h => by
    obtain ⟨h1, h2⟩ := List.pairwise_cons.mp h
    show insC x (sortC l) = _
    rw [sortC_id h2]
    cases l with
    | nil => rfl
    | cons y l => rw [insC, h1 y List.mem_cons_self, if_neg (by decide)]
theorem sortC_pick {a tags : List Cs} {q : Cs → Bool} (h : a.Perm tags) (ht : SortedC tags) : sortC (a.filter q) = tags.filter q := by
  rw [sortC_of_perm (h.filter q)]
  exact sortC_id (List.Pairwise.filter q ht)
/-! ### lots -/
structure Lots (tags : List Cs) (ones : List (Cs × Cs)) (L : List (List Cs)) : Prop where
  all : ∀ x ∈ tags, ∃ l ∈ L, x ∈ l
  sub : ∀ l ∈ L, ∀ x ∈ l, x ∈ tags
  one : ∀ l ∈ L, ∀ l' ∈ L, ∀ x, x ∈ l → x ∈ l' → l = l'
  ons : ∀ p ∈ ones, ∃ l ∈ L, p.1 ∈ l ∧ p.2 ∈ l
theorem LotsOk.lots {tags : List Cs} {ones : List (Cs × Cs)} {L L' : List (List Cs)} (h : LotsOk tags ones L) (hp : L'.Perm L) : Lots tags ones L' :=
  ⟨fun x hx => let ⟨l, a, b⟩ := h.all x hx; ⟨l, hp.mem_iff.mpr a, b⟩, fun l hl => h.sub l (hp.mem_iff.mp hl), fun l hl l' hl' => h.one l (hp.mem_iff.mp hl) l' (hp.mem_iff.mp hl'), fun p q => let ⟨l, a, b⟩ := h.ons p q; ⟨l, hp.mem_iff.mpr a, b⟩⟩
theorem walk_of {g : D} {ds : List D} (h : seqV g = some ds) : walkD g = some ds := by
  cases g <;> first | (simp only [seqV, Option.some.injEq] at h; subst h; rfl) | (simp [seqV] at h)
section
variable {C : Nat → List D → Sto → Rs D} {s : Sto}
theorem lots_loop {deck : Option D} {tags : List Cs} (ht : ∀ c ∈ tags, okC c = true) (hn : tags.length ≤ 1000) : ∀ (zs : List (Cs × Cs)) (done : List (Cs × Cs)) (L : List (List Cs)) (x2 x3 x4 x5 x6 : Option D), LotsOk tags done L → (∀ p ∈ zs, p.1 ∈ tags ∧ p.2 ∈ tags) → L.length + zs.length ≤ 100000 →
    ∃ L' y2 y3 y4 y5 y6, forL [2, 3] (evSs C lotsB) (zs.map prD) [deck, some (.lst (L.map lotD)), x2, x3, x4, x5, x6] s = .ok (.nx [deck, some (.lst (L'.map lotD)), y2, y3, y4, y5, y6]) s ∧ LotsOk tags (done ++ zs) L' ∧ L'.length ≤ 100000
  | [], done, L, x2, x3, x4, x5, x6, h, _, hl => ⟨L, x2, x3, x4, x5, x6, rfl, by rw [List.append_nil]; exact h, by simpa using hl⟩
  | p :: zs, done, L, x2, x3, x4, x5, x6, h, hz, hl => by
    rw [List.length_cons] at hl
    obtain ⟨h1, h2⟩ := hz p List.mem_cons_self
    have hL : ∀ l ∈ L, ∀ c ∈ l, okC c = true := fun l a c b => ht c (h.sub l a c b)
    have e := lots_turn (C := C) (s := s) (deck := deck) (x5 := x5) (x6 := x6) (x4 := x4) (L := L) (p := p) (ht _ h1) (ht _ h2) hL (by omega) (by rw [h.sz]; omega)
    have hlen : (lotStep L p).length ≤ L.length + 1 := by
      unfold lotStep
      rw [List.length_append]
      have := List.length_filter_le (fun l => !nearP p.1 p.2 l) L
      simp only [List.length_cons, List.length_nil]
      omega
    obtain ⟨L', y2, y3, y4, y5, y6, e2, h3, h4⟩ := lots_loop ht hn zs (done ++ [p]) (lotStep L p) (some (.str p.1)) (some (.str p.2)) (some (.lst ((L.filter (nearP p.1 p.2)).map lotD))) x5 x6 (h.step h1 h2) (fun q hq => hz q (List.mem_cons_of_mem _ hq)) (by omega)
    rw [List.append_assoc] at h3
    exact ⟨L', y2, y3, y4, y5, y6, (forL_nx rfl e).trans e2, h3, h4⟩
end
theorem LotsOk.init {tags : List Cs} : LotsOk tags [] (tags.map fun c => [c]) := by
  refine ⟨fun x hx => ⟨[x], List.mem_map.mpr ⟨x, hx, rfl⟩, List.mem_singleton.mpr rfl⟩, fun l hl x hx => ?_, fun l hl l' hl' x hx hx' => ?_, fun _ h => absurd h List.not_mem_nil, ?_⟩
  · obtain ⟨c, hc, rfl⟩ := List.mem_map.mp hl
    rw [List.mem_singleton.mp hx]
    exact hc
  · obtain ⟨c, hc, rfl⟩ := List.mem_map.mp hl
    obtain ⟨c', hc', rfl⟩ := List.mem_map.mp hl'
    rw [← List.mem_singleton.mp hx, ← List.mem_singleton.mp hx']
  · induction tags with
    | nil => rfl
    | cons c t ih => rw [List.map_cons, List.flatten_cons, List.length_append, ih, List.length_cons]; simp; omega
theorem lots_ok {P : List Fn} {k lo : Nat} {st : Sto} {g0 g1 g2 : D} {tags : List Cs} {ones : List (Cs × Cs)} (hP : P[lo]? = some lotsF) (h0 : seqV g0 = some (strC tags)) (h1 : seqV g1 = some (ones.map prD)) (ht : ∀ c ∈ tags, okC c = true) (hn : tags.length ≤ 1000) (ho : ∀ p ∈ ones, p.1 ∈ tags ∧ p.2 ∈ tags) (hl : ones.length ≤ 50000) :
    ∃ L, callN P (k + 1) lo [.tup [g0, g1, g2]] st = .ok (.lst (L.map lotD)) st ∧ Lots tags ones L ∧ L.length ≤ 100000 := by
  obtain ⟨L, y2, y3, y4, y5, y6, e, hL, hLn⟩ := lots_loop (C := callN P k) (s := st) (deck := some (.tup [g0, g1, g2])) ht hn ones [] (tags.map fun c => [c]) none none none none none .init ho (by rw [List.length_map]; omega)
  refine ⟨sortG lotD L, ?_, hL.lots (sortG_perm _ _), by rw [(sortG_perm _ _).length_eq]; exact hLn⟩
  refine call_rt hP rfl rfl ?_
  have hs : (strC tags).length = tags.length := by unfold strC; rw [List.length_map]
  refine (ss_set (d := .lst ((tags.map fun c => [c]).map lotD)) (s1 := st) ?_).trans ((ss_for (s1 := st) (xs := ones.map prD) ?_ e).trans (ss_ret ?_))
  · have er : evR (callN P k) (.it (.ix (.var 0) (.int 0))) [some (.tup [g0, g1, g2]), none, none, none, none, none, none] st = .ok (strC tags) st := by
      show lift st (walkD g0) = _
      rw [walk_of h0]; rfl
    refine (ev_comp (s1 := st) (s2 := st) (ys := (tags.map fun c => [c]).map lotD) er (by rw [hs]; unfold big; omega) ?_).trans ?_
    · have q := comp_map (s := st) (f := cB (callN P k) (.lst false (.cons (.var 5) .nil)) [5] .nil [some (.tup [g0, g1, g2]), none, none, none, none, none, none]) (g := fun d => .lst [d]) (strC tags) fun d hd => cB_all (ρ1 := [some (.tup [g0, g1, g2]), none, none, none, none, some d, none]) rfl rfl
      rw [q]
      unfold strC
      rw [List.map_map, List.map_map]
      rfl
    · unfold newList
      rw [if_pos (by rw [List.length_map, List.length_map]; unfold big; omega)]
      rfl
  · show lift st (walkD g1) = _
    rw [walk_of h1]; rfl
  · show (if sortable (L.map lotD) then Rs.ok (D.lst (sortD (L.map lotD))) st else .stuck) = _
    rw [if_pos (sortable_lots fun l a c b => ht c (hL.sub l a c b)), sortD_map]
end Mi
end

section
set_option linter.all false
set_option maxRecDepth 100000
set_option autoImplicit false
/-! the helpers that many laws share: at, fits, table -/
namespace Mi
def cellD (l : List Cs) : D := .tup (strC l)
def ownD (o : List (List Cs)) : D := .tup (o.map cellD)
def deckD (tags : List Cs) (ones ap : List (Cs × Cs)) : D := .tup [.tup (strC tags), .tup (ones.map prD), .tup (ap.map prD)]
theorem pl_tupA {n : Nat} {ds : List D} (h : ∀ d ∈ ds, D.pl n d = true) : D.pl (n + 1) (.tup ds) = true := by
  show D.pls n ds = true
  rw [pls_all', List.all_eq_true]
  exact h
theorem pl_lstA {n : Nat} {ds : List D} (h : ∀ d ∈ ds, D.pl n d = true) : D.pl (n + 1) (.lst ds) = true := by
  show D.pls n ds = true
  rw [pls_all', List.all_eq_true]
  exact h
theorem pl_cell {n : Nat} {l : List Cs} (h : ∀ c ∈ l, okC c = true) : D.pl (n + 1) (cellD l) = true := pl_tupA (pl_strs h)
theorem pl_pr {n : Nat} {p : Cs × Cs} (h1 : okC p.1 = true) (h2 : okC p.2 = true) : D.pl (n + 1) (prD p) = true := pl_tupA fun d hd => by
  rcases List.mem_cons.mp hd with rfl | hd
  · exact pl_str h1
  · rw [List.mem_singleton.mp hd]; exact pl_str h2
/-- the first cell with t -/
def owC (o : List (List Cs)) (t : Cs) : List Cs := ((o.filter (·.contains t)).head?).getD []
theorem ownOf_spec {o : List (List Cs)} {t : Cs} (h : ∃ l ∈ o, t ∈ l) : ∃ r, o.filter (·.contains t) = owC o t :: r ∧ owC o t ∈ o ∧ t ∈ owC o t := by
  unfold owC
  cases e : o.filter (·.contains t) with
  | nil =>
    obtain ⟨l, hl, ht⟩ := h
    have : l ∈ o.filter (·.contains t) := List.mem_filter.mpr ⟨hl, by rw [List.contains_iff_mem]; exact ht⟩
    rw [e] at this
    cases this
  | cons a r =>
    have : a ∈ o.filter (·.contains t) := by rw [e]; exact List.mem_cons_self
    obtain ⟨h1, h2⟩ := List.mem_filter.mp this
    exact ⟨r, rfl, h1, by rw [List.contains_iff_mem] at h2; exact h2⟩
theorem empty_ne {α : Type} {g : α → D} {xs : List α} {s : Sto} (h : ∀ x ∈ xs, D.pl 59 (g x) = true) : cmpD s .ne (.lst (xs.map g)) (.lst []) = some (!xs.isEmpty) := by
  show (if (D.pl 60 (.lst (xs.map g)) && D.pl 60 (.lst [])) = true then some (!D.eqvs (xs.map g) []) else none) = _
  rw [if_pos (by
    rw [show D.pl 60 (.lst []) = true from rfl, Bool.and_true]
    exact pl_lstA (n := 59) fun d hd => by obtain ⟨x, hx, rfl⟩ := List.mem_map.mp hd; exact h x hx)]
  cases xs <;> rfl
theorem empty_eq {α : Type} {g : α → D} {xs : List α} {s : Sto} (h : ∀ x ∈ xs, D.pl 59 (g x) = true) : cmpD s .eq (.lst (xs.map g)) (.lst []) = some xs.isEmpty := by
  show (if (D.pl 60 (.lst (xs.map g)) && D.pl 60 (.lst [])) = true then some (D.eqvs (xs.map g) []) else none) = _
  rw [if_pos (by
    rw [show D.pl 60 (.lst []) = true from rfl, Bool.and_true]
    exact pl_lstA (n := 59) fun d hd => by obtain ⟨x, hx, rfl⟩ := List.mem_map.mp hd; exact h x hx)]
  cases xs <;> rfl
section
variable {P : List Fn} {k : Nat} {st : Sto}
theorem at_ok {a : Nat} {o : List (List Cs)} {t : Cs} (hP : P[a]? = some atF) (ho : ∀ l ∈ o, ∀ c ∈ l, okC c = true) (hn : o.length ≤ 100000) (ht : okC t = true) (h : ∃ l ∈ o, t ∈ l) :
    callN P (k + 1) a [ownD o, .str t] st = .ok (cellD (owC o t)) st := by
  obtain ⟨r, e, _, _⟩ := ownOf_spec h
  refine call_rt hP rfl rfl (ss_ret ?_)
  have c1 : evE (callN P k) (.comp false (.var 2) [2] (.it (.var 0)) (.cons (.cmp .isin (.var 1) (.var 2)) .nil) [2]) [some (ownD o), some (.str t), none] st = .ok (.lst ((o.filter (·.contains t)).map cellD)) st := by
    refine (ev_comp (s1 := st) (s2 := st) (xs := o.map cellD) rfl (by rw [List.length_map]; unfold big; omega) (comp_filter (h := cellD) (g := cellD) (q := fun l => l.contains t) o fun l hl => ?_)).trans ?_
    · refine cB_if (ρ1 := [some (ownD o), some (.str t), some (cellD l)]) rfl ?_ rfl
      show ofB st (inD st (.str t) (cellD l)) = _
      rw [in_strs (g := cellD l) (l := l) rfl ht (ho l hl)]
      rfl
    · unfold newList
      have := List.length_filter_le (fun l : List Cs => l.contains t) o
      rw [if_pos (by rw [List.length_map]; unfold big; omega)]
      rfl
  rw [evE]
  show (evE (callN P k) (.comp false (.var 2) [2] (.it (.var 0)) (.cons (.cmp .isin (.var 1) (.var 2)) .nil) [2]) [some (ownD o), some (.str t), none] st).bind _ = _
  rw [c1, e]
  exact ix_seq (g := .lst _) rfl (by decide) rfl st
def fitB (ones ap : List (Cs × Cs)) (o : List (List Cs)) : Bool := (ones.filter fun p => !(owC o p.1).contains p.2).isEmpty && (ap.filter fun p => (owC o p.1).contains p.2).isEmpty
theorem fits_ok {a f : Nat} {o : List (List Cs)} {tags : List Cs} {ones ap : List (Cs × Cs)} (hA : P[a]? = some atF) (hP : P[f]? = some (fitsF a)) (ho : ∀ l ∈ o, ∀ c ∈ l, okC c = true) (hn : o.length ≤ 100000)
    (ht : ∀ c ∈ tags, okC c = true) (hc : ∀ t ∈ tags, ∃ l ∈ o, t ∈ l) (h1 : ∀ p ∈ ones, p.1 ∈ tags ∧ p.2 ∈ tags) (h2 : ∀ p ∈ ap, p.1 ∈ tags ∧ p.2 ∈ tags) (n1 : ones.length ≤ 100000) (n2 : ap.length ≤ 100000) :
    callN P (k + 2) f [deckD tags ones ap, ownD o] st = .ok (.bl (fitB ones ap o)) st := by
  have at1 : ∀ p : Cs × Cs, p.1 ∈ tags ∧ p.2 ∈ tags → ∀ x, evE (callN P (k + 1)) (.call a (.cons (.var 1) (.cons (.ix (.var 2) (.int 0)) .nil))) [x, some (ownD o), some (prD p)] st = .ok (cellD (owC o p.1)) st := fun p hp x => by
    rw [evE]
    show callN P (k + 1) a [ownD o, .str p.1] st = _
    exact at_ok hA ho hn (ht _ hp.1) (hc _ hp.1)
  have own_ok : ∀ p : Cs × Cs, p.1 ∈ tags ∧ p.2 ∈ tags → ∀ c ∈ owC o p.1, okC c = true := fun p hp => by
    obtain ⟨_, _, hm, _⟩ := ownOf_spec (hc _ hp.1)
    exact ho _ hm
  have c1 : ∀ (q : Bool) (ps : List (Cs × Cs)) (ix : Nat), (∀ p ∈ ps, p.1 ∈ tags ∧ p.2 ∈ tags) → ps.length ≤ 100000 → (∃ ds : List D, [D.tup (strC tags), .tup (ones.map prD), .tup (ap.map prD)] = ds ∧ ds[ix]? = some (.tup (ps.map prD))) →
      evE (callN P (k + 1)) (.comp false (.var 2) [2] (.it (.ix (.var 0) (.int ix))) (.cons (.cmp (if q then .isin else .notin) (.ix (.var 2) (.int 1)) (.call a (.cons (.var 1) (.cons (.ix (.var 2) (.int 0)) .nil)))) .nil) [2]) [some (deckD tags ones ap), some (ownD o), none] st = .ok (.lst ((ps.filter fun p => (owC o p.1).contains p.2 == q).map prD)) st := fun q ps ix hps hl hix => by
    obtain ⟨ds, e, hds⟩ := hix
    refine (ev_comp (s1 := st) (s2 := st) (xs := ps.map prD) ?_ (by rw [List.length_map]; unfold big; omega) (comp_filter (h := prD) (g := prD) (q := fun p => (owC o p.1).contains p.2 == q) ps fun p hp => ?_)).trans ?_
    · rw [evR]
      show ((ixD st (.tup _) (.int ix)).bind _) = _
      rw [e, ix_seq (g := .tup ds) rfl (by omega) (by rw [Int.toNat_natCast]; exact hds) st]
      rfl
    · refine cB_if (ρ1 := [some (deckD tags ones ap), some (ownD o), some (prD p)]) rfl ?_ rfl
      rw [evE]
      show ((evE (callN P (k + 1)) (.call a _) _ st).bind _) = _
      rw [at1 p (hps p hp), bok]
      show ofB st (cmpD st (if q then C2.isin else C2.notin) (.str p.2) (cellD (owC o p.1))) = _
      have e3 := in_strs (s := st) (g := cellD (owC o p.1)) (l := owC o p.1) (c := p.2) rfl (ht _ (hps p hp).2) (own_ok p (hps p hp))
      cases q with
      | true =>
        rw [if_pos rfl]
        show ofB st (inD st (.str p.2) (cellD (owC o p.1))) = _
        rw [e3]
        cases (owC o p.1).contains p.2 <;> rfl
      | false =>
        rw [if_neg (by decide)]
        show ofB st ((inD st (.str p.2) (cellD (owC o p.1))).map (!·)) = _
        rw [e3]
        cases (owC o p.1).contains p.2 <;> rfl
    · unfold newList
      have := List.length_filter_le (fun p : Cs × Cs => (owC o p.1).contains p.2 == q) ps
      rw [if_pos (by rw [List.length_map]; unfold big; omega)]
      rfl
  have plq : ∀ (q : Bool) (ps : List (Cs × Cs)), (∀ p ∈ ps, p.1 ∈ tags ∧ p.2 ∈ tags) → ∀ p ∈ ps.filter (fun p => (owC o p.1).contains p.2 == q), D.pl 59 (prD p) = true := fun q ps h p hp => by
    have hp := (List.mem_filter.mp hp).1
    exact pl_pr (ht _ (h p hp).1) (ht _ (h p hp).2)
  have a1 := c1 false ones 1 h1 n1 ⟨_, rfl, rfl⟩
  have a2 := c1 true ap 2 h2 n2 ⟨_, rfl, rfl⟩
  have f1 : (ones.filter fun p => (owC o p.1).contains p.2 == false) = ones.filter fun p => !(owC o p.1).contains p.2 := by
    congr 1; funext p; cases (owC o p.1).contains p.2 <;> rfl
  have f2 : (ap.filter fun p => (owC o p.1).contains p.2 == true) = ap.filter fun p => (owC o p.1).contains p.2 := by
    congr 1; funext p; cases (owC o p.1).contains p.2 <;> rfl
  have b1 : evE (callN P (k + 1)) (.cmp .ne (.comp false (.var 2) [2] (.it (.ix (.var 0) (.int 1))) (.cons (.cmp .notin (.ix (.var 2) (.int 1)) (.call a (.cons (.var 1) (.cons (.ix (.var 2) (.int 0)) .nil)))) .nil) [2]) (.lst false .nil)) [some (deckD tags ones ap), some (ownD o), none] st = .ok (.bl (!(ones.filter fun p => !(owC o p.1).contains p.2).isEmpty)) st := by
    rw [evE]
    refine Eq.trans (congrArg (fun r => Rs.bind r _) a1) ?_
    show ofB st (cmpD st .ne (.lst _) (.lst [])) = _
    rw [empty_ne (plq false ones h1), f1]
    rfl
  have b2 : evE (callN P (k + 1)) (.cmp .eq (.comp false (.var 2) [2] (.it (.ix (.var 0) (.int 2))) (.cons (.cmp .isin (.ix (.var 2) (.int 1)) (.call a (.cons (.var 1) (.cons (.ix (.var 2) (.int 0)) .nil)))) .nil) [2]) (.lst false .nil)) [some (deckD tags ones ap), some (ownD o), none] st = .ok (.bl (ap.filter fun p => (owC o p.1).contains p.2).isEmpty) st := by
    rw [evE]
    refine Eq.trans (congrArg (fun r => Rs.bind r _) a2) ?_
    show ofB st (cmpD st .eq (.lst _) (.lst [])) = _
    rw [empty_eq (plq true ap h2), f2]
    rfl
  refine call_rt hP rfl rfl ?_
  unfold fitB
  cases e : (ones.filter fun p => !(owC o p.1).contains p.2).isEmpty with
  | false =>
    rw [e] at b1
    exact ss_ifT b1 rfl (ss_ret rfl)
  | true =>
    rw [e] at b1
    exact (ss_ifF0 b1 rfl).trans (ss_ret b2)
end
end Mi
end

section
set_option linter.all false
set_option maxRecDepth 100000
set_option autoImplicit false
/-! the helpers that many laws share: table -/
namespace Mi
section
variable {C : Nat → List D → Sto → Rs D} {ρ : Env} {s s1 s2 : Sto} {e : E} {es : Es} {d : D} {ds : List D}
theorem es_nil : evEs C .nil ρ s = .ok [] s := rfl
theorem es_cons (h : evE C e ρ s = .ok d s1) (h2 : evEs C es ρ s1 = .ok ds s2) : evEs C (.cons e es) ρ s = .ok (d :: ds) s2 := by
  rw [evEs, h, bok, h2, bok]
theorem es1 (h : evE C e ρ s = .ok d s1) : evEs C (.cons e .nil) ρ s = .ok [d] s1 := es_cons h rfl
theorem ev_tup (h : evEs C es ρ s = .ok ds s1) (hl : ds.length ≤ 10000) : evE C (.tup es) ρ s = .ok (.tup ds) s1 := by
  rw [evE, h, bok, if_pos (by unfold big; omega)]
theorem ev_lst (h : evEs C es ρ s = .ok ds s1) (hl : ds.length ≤ 10000) : evE C (.lst false es) ρ s = .ok (.lst ds) s1 := by
  rw [evE, h, bok]
  unfold newList
  rw [if_pos (by unfold big; omega)]
  rfl
theorem ev_call {f : Nat} {r : Rs D} (h : evEs C es ρ s = .ok ds s1) (h2 : C f ds s1 = r) : evE C (.call f es) ρ s = r := by
  rw [evE, h, bok, h2]
theorem ev_blt {f : Bf} {r : Rs D} (h : evEs C es ρ s = .ok ds s1) (h2 : bltD s1 f ds = r) : evE C (.blt f es) ρ s = r := by
  rw [evE, h, bok, h2]
end
def namesC : List Cs := [[97], [98], [99, 121], [100], [112], [113], [120], [122, 122, 122, 122, 122, 122, 122, 122]]
theorem perm_map_inv {α β : Type} {f : α → β} {l l2 : List β} (h : l.Perm l2) : ∀ m : List α, l2 = m.map f → ∃ m' : List α, m'.Perm m ∧ l = m'.map f := by
  induction h with
  | nil => exact fun m e => ⟨m, .refl _, e⟩
  | cons x _ ih =>
    intro m e
    cases m with
    | nil => cases e
    | cons y m =>
      rw [List.map_cons, List.cons.injEq] at e
      obtain ⟨m', hp, rfl⟩ := ih m e.2
      exact ⟨y :: m', hp.cons y, by rw [List.map_cons, e.1]⟩
  | swap x y l =>
    intro m e
    match m, e with
    | a :: b :: m, e =>
      simp only [List.map_cons, List.cons.injEq] at e
      exact ⟨b :: a :: m, .swap a b m, by simp only [List.map_cons, e.1, e.2.1, e.2.2]⟩
  | trans _ _ h1 h2 =>
    intro m e
    obtain ⟨m', p1, e1⟩ := h2 m e
    obtain ⟨m'', p2, e2⟩ := h1 m' e1
    exact ⟨m'', p2.trans p1, e2⟩
def pairsC : List Cs → List (Cs × Cs)
  | [] => []
  | x :: r => r.map (fun y => (x, y)) ++ pairsC r
theorem pairsD_strs : ∀ l : List Cs, pairsD (strC l) = (pairsC l).map prD
  | [] => rfl
  | x :: l => by
    show (strC l).map _ ++ pairsD (strC l) = _
    rw [pairsD_strs l, pairsC, List.map_append, List.map_map]
    unfold strC
    rw [List.map_map]
    rfl
theorem pairsC_mem : ∀ {l : List Cs} {p : Cs × Cs}, p ∈ pairsC l → p.1 ∈ l ∧ p.2 ∈ l
  | x :: l, p, h => by
    rcases List.mem_append.mp h with h | h
    · obtain ⟨y, hy, rfl⟩ := List.mem_map.mp h
      exact ⟨List.mem_cons_self, List.mem_cons_of_mem _ hy⟩
    · exact ⟨List.mem_cons_of_mem _ (pairsC_mem h).1, List.mem_cons_of_mem _ (pairsC_mem h).2⟩
theorem comp_sub {f : D → Sto → Rs (Option D)} {Q : Nat → Sto → Prop} : ∀ (xs : List D) (i : Nat) (s : Sto), Q i s → (∀ x ∈ xs, ∀ j s, j ≤ i + xs.length → Q j s → ∃ (b : Bool) (s' : Sto), f x s = .ok (if b then some x else none) s' ∧ Q (j + 1) s') → ∃ ys s', compL f xs s = .ok ys s' ∧ ys.Sublist xs ∧ Q (i + xs.length) s'
  | [], i, s, q, _ => ⟨[], s, rfl, .refl _, q⟩
  | x :: xs, i, s, q, h => by
    obtain ⟨b, s1, e1, q1⟩ := h x List.mem_cons_self i s (by omega) q
    obtain ⟨ys, s2, e2, hs, q2⟩ := comp_sub xs (i + 1) s1 q1 fun y hy j s hj => h y (List.mem_cons_of_mem _ hy) j s (by rw [List.length_cons]; omega)
    refine ⟨if b then x :: ys else ys, s2, ?_, ?_, by rw [List.length_cons, show i + (xs.length + 1) = i + 1 + xs.length by omega]; exact q2⟩
    · rw [compL, e1]
      show ((compL f xs s1).bind _) = _
      rw [e2]
      cases b <;> rfl
    · cases b with
      | true => exact hs.cons_cons x
      | false => exact hs.cons x
structure Tab (m : Nat) (tags : List Cs) (ones ap : List (Cs × Cs)) : Prop where
  ne : tags ≠ []
  le : tags.length ≤ m
  sorted : SortedC tags
  nodup : tags.Nodup
  sub : ∀ c ∈ tags, c ∈ namesC
  ons : ∀ p ∈ ones, p.1 ∈ tags ∧ p.2 ∈ tags
  aps : ∀ p ∈ ap, p.1 ∈ tags ∧ p.2 ∈ tags
  on : ones.length ≤ 10000
  an : ap.length ≤ 10000
  lots : ∃ L, Lots tags ones L ∧ ∀ p ∈ ap, ∀ l ∈ L, ¬ (p.1 ∈ l ∧ p.2 ∈ l)
theorem names_ok : ∀ c ∈ namesC, okC c = true := by decide
theorem Tab.ok {m : Nat} {tags : List Cs} {ones ap : List (Cs × Cs)} (h : Tab m tags ones ap) : ∀ c ∈ tags, okC c = true := fun c hc => names_ok c (h.sub c hc)
section
variable {P : List Fn} {t p pr lo tb b n k : Nat} {st : Sto}
/-- a comprehension that draws -/
theorem drawn_ok {xs : List D} {sr : Sr} {z : Nat} {ρ : Env} {tg : Nat} {hd : Option D} (hT : P[t]? = some takeF) (hc : Cell st b n) (hn : n + xs.length < 1000000) (hz : 0 < z) (hz2 : z < 1000) (h0 : ρ[0]? = some (some (.ref b))) (htg : 0 < tg) (htl : tg < ρ.length)
    (hr : evR (callN P (k + 1)) sr ρ st = .ok xs st) (hx : xs.length ≤ 10000) :
    ∃ ys st', evE (callN P (k + 1)) (.comp false (.var tg) [tg] sr (.cons (.cmp .eq (.call t (.cons (.var 0) (.cons (.int z) .nil))) (.int 0)) .nil) [tg]) ρ st = .ok (.lst ys) st' ∧ ys.Sublist xs ∧ Mv st st' b ∧ Cell st' b (n + xs.length) := by
  obtain ⟨ys, s', e, hs, hm, hc'⟩ := comp_sub (Q := fun j s => Mv st s b ∧ Cell s b (n + j)) (f := cB (callN P (k + 1)) (.var tg) [tg] (.cons (.cmp .eq (.call t (.cons (.var 0) (.cons (.int z) .nil))) (.int 0)) .nil) ρ) xs 0 st ⟨.refl hc, hc⟩ fun x hx j s hj q => by
    obtain ⟨r, s1, e1, hm, hc1, _, _⟩ := take_ok (k := k) (m := z) hT q.2 (by omega) (by omega) (by omega)
    refine ⟨decide (r = 0), s1, ?_, q.1.trans hm, hc1⟩
    have ht : tgt [tg] x ρ = some (ρ.set tg (some x)) := rfl
    have g0 : (ρ.set tg (some x))[0]? = some (some (.ref b)) := by rw [List.getElem?_set_ne (by omega)]; exact h0
    have g1 : (ρ.set tg (some x))[tg]? = some (some x) := List.getElem?_set_self htl
    have c1 : evE (callN P (k + 1)) (.cmp .eq (.call t (.cons (.var 0) (.cons (.int z) .nil))) (.int 0)) (ρ.set tg (some x)) s = .ok (.bl (decide (r = 0))) s1 := by
      have c2 : evE (callN P (k + 1)) (.call t (.cons (.var 0) (.cons (.int z) .nil))) (ρ.set tg (some x)) s = .ok (.int r) s1 := by
        rw [evE, evEs, evE, g0]
        exact e1
      rw [evE, c2, bok]
      show ofB s1 (some (r == 0)) = _
      rfl
    have c3 : evE (callN P (k + 1)) (.var tg) (ρ.set tg (some x)) s1 = .ok x s1 := by rw [evE, g1]
    simp only [cB, ht, evTs, c1, tst, bok, truth, lift]
    cases decide (r = 0) with
    | true => simp only [if_true, bok, c3]
    | false => simp only [Bool.false_eq_true, if_false, bok]
  rw [Nat.zero_add] at hc'
  refine ⟨ys, s', (ev_comp hr (by unfold big; omega) e).trans ?_, hs, hm, hc'⟩
  unfold newList
  have := hs.length_le
  rw [if_pos (by unfold big; omega)]
  rfl
theorem sub_prs {ys : List D} {ps : List (Cs × Cs)} (h : ys.Sublist (ps.map prD)) : ∃ qs : List (Cs × Cs), qs.Sublist ps ∧ ys = qs.map prD := List.sublist_map_iff.mp h
theorem pairsC_len (l : List Cs) : (pairsC l).length ≤ l.length * l.length := by
  have h := pairsD_len (strC l)
  rw [pairsD_strs, List.length_map] at h
  unfold strC at h
  rw [List.length_map] at h
  exact h
theorem strs_len (l : List Cs) : (strC l).length = l.length := by unfold strC; rw [List.length_map]
theorem table_ok {m : Nat} (hT : P[t]? = some takeF) (hK : P[p]? = some (pickF t)) (hR : P[pr]? = some pairsF) (hL : P[lo]? = some lotsF) (hP : P[tb]? = some (tableF t p pr lo)) (hc : Cell st b n) (hlow : Low st) (hn : n < 100000) (hm0 : 0 < m) (hm : m ≤ 8) :
    ∃ tags ones ap st', callN P (k + 3) tb [.ref b, .int m] st = .ok (deckD tags ones ap) st' ∧ Tab m tags ones ap ∧ Mv st st' b ∧ Cell st' b (n + 1000) := by
  obtain ⟨r, s1, e1, m1, c1, r0, r1⟩ := take_ok (k := k + 1) (m := m) hT hc (by omega) (by omega) (by omega)
  have hl1 := m1.low hlow
  obtain ⟨N, hN⟩ : ∃ N : Nat, (N : Int) = 1 + r := ⟨(1 + r).toNat, by omega⟩
  have hnx : ∀ x ∈ strC namesC, Nor x := fun x hx => by
    obtain ⟨c, _, rfl⟩ := List.mem_map.mp hx
    exact fun _ => rfl
  obtain ⟨ys, rest, s2, e2, m2, c2, hp, hyl⟩ := pick_ok (k := k) (m := N) (xs := strC namesC) hT hK c1 hl1 (by omega) (by decide) (by omega) hnx
  obtain ⟨m', hp', e3⟩ := perm_map_inv (f := D.str) hp namesC rfl
  obtain ⟨yc, rc, e4, e5, e6⟩ := List.append_eq_map_iff.mp e3
  subst e4 e5 e6
  rw [List.length_map] at hyl
  have hyl : yc.length = N := by rw [hyl, strs_len]; show min N 8 = N; omega
  have hysub : ∀ c ∈ yc, c ∈ namesC := fun c h => hp'.mem_iff.mp (List.mem_append_left _ h)
  have hynd : yc.Nodup := (List.nodup_append.mp (hp'.nodup_iff.mpr (by decide))).1
  obtain ⟨tags, htg⟩ : ∃ tags, tags = sortC yc := ⟨_, rfl⟩
  have htp : tags.Perm yc := htg ▸ sortC_perm yc
  have hts : ∀ c ∈ tags, c ∈ namesC := fun c h => hysub c (htp.mem_iff.mp h)
  have htok : ∀ c ∈ tags, okC c = true := fun c h => names_ok c (hts c h)
  have htl : tags.length = N := by rw [htp.length_eq, hyl]
  have hN8 : N ≤ 8 := by omega
  have hl2 := m2.low hl1
  have hpl : (pairsC tags).length ≤ 64 := by
    have := pairsC_len tags
    have h2 : tags.length * tags.length ≤ 8 * 8 := Nat.mul_le_mul (by omega) (by omega)
    omega
  have hc2 : Cell s2 b (n + 9) := c2.mono (by rw [strs_len]; show n + 1 + min N 8 ≤ _; omega)
  -- the pairs
  have epr : ∀ s, callN P (k + 2) pr [.lst (strC tags)] s = .ok (.lst ((pairsC tags).map prD)) s := fun s => by
    rw [← pairsD_strs]
    exact pairs_ok hR (by rw [strs_len]; omega)
  have hr : ∀ s x3 x4 x5 x6 x7, evR (callN P (k + 2)) (.it (.call pr (.cons (.var 2) .nil))) [some (.ref b), some (.int m), some (.lst (strC tags)), x3, x4, x5, x6, x7] s = .ok ((pairsC tags).map prD) s := fun s x3 x4 x5 x6 x7 => by
    rw [evR, evE, evEs, evE]
    show ((callN P (k + 2) pr [.lst (strC tags)] s).bind _) = _
    rw [epr]
    rfl
  have lpr : ((pairsC tags).map prD).length = (pairsC tags).length := List.length_map _
  obtain ⟨os, s3, e7, hs7, m3, c3⟩ := drawn_ok (k := k + 1) (st := s2) (b := b) (n := n + 9) (z := 6) (tg := 6) (ρ := [some (.ref b), some (.int m), some (.lst (strC tags)), none, none, none, none, none]) (hd := none) hT hc2 (by rw [lpr]; omega) (by decide) (by decide) rfl (by decide) (by show 6 < 8; decide) (hr s2 _ _ _ _ _) (by rw [lpr]; omega)
  obtain ⟨ones, ho, rfl⟩ := sub_prs hs7
  have hom : ∀ p ∈ ones, p.1 ∈ tags ∧ p.2 ∈ tags := fun p hp => pairsC_mem (ho.subset hp)
  have hol : ones.length ≤ 64 := Nat.le_trans ho.length_le hpl
  obtain ⟨L, e8, hLo, hLl⟩ := lots_ok (k := k + 1) (st := s3) (g0 := .lst (strC tags)) (g1 := .tup (ones.map prD)) (g2 := .tup []) hL rfl rfl htok (by omega) hom (by omega)
  have hLok : ∀ l ∈ L, ∀ c ∈ l, okC c = true := fun l a c b => htok c (hLo.sub l a c b)
  obtain ⟨frees, hfr⟩ : ∃ frees : List (Cs × Cs), frees = (pairsC tags).filter fun q => (L.filter fun l => l.contains q.1 && l.contains q.2).isEmpty := ⟨_, rfl⟩
  have e9 : evE (callN P (k + 2)) (.comp false (.var 6) [6] (.it (.call pr (.cons (.var 2) .nil))) (.cons (.cmp .eq (.comp false (.var 7) [7] (.it (.var 4)) (.cons (.and (.cmp .isin (.ix (.var 6) (.int 0)) (.var 7)) (.cmp .isin (.ix (.var 6) (.int 1)) (.var 7))) .nil) [7]) (.lst false .nil)) .nil) [6]) [some (.ref b), some (.int m), some (.lst (strC tags)), some (.tup (ones.map prD)), some (.lst (L.map lotD)), none, none, none] s3 = .ok (.lst (frees.map prD)) s3 := by
    refine (ev_comp (hr s3 _ _ _ _ _) (by rw [lpr]; unfold big; omega) (comp_filter (h := prD) (g := prD) (q := fun q => (L.filter fun l => l.contains q.1 && l.contains q.2).isEmpty) (pairsC tags) fun q hq => ?_)).trans ?_
    · obtain ⟨q1, q2⟩ := pairsC_mem hq
      refine cB_if (ρ1 := [some (.ref b), some (.int m), some (.lst (strC tags)), some (.tup (ones.map prD)), some (.lst (L.map lotD)), none, some (prD q), none]) rfl ?_ rfl
      have d1 : evE (callN P (k + 2)) (.comp false (.var 7) [7] (.it (.var 4)) (.cons (.and (.cmp .isin (.ix (.var 6) (.int 0)) (.var 7)) (.cmp .isin (.ix (.var 6) (.int 1)) (.var 7))) .nil) [7]) [some (.ref b), some (.int m), some (.lst (strC tags)), some (.tup (ones.map prD)), some (.lst (L.map lotD)), none, some (prD q), none] s3 = .ok (.lst ((L.filter fun l => l.contains q.1 && l.contains q.2).map lotD)) s3 := by
        refine (ev_comp (s1 := s3) (s2 := s3) (xs := L.map lotD) rfl (by rw [List.length_map]; unfold big; omega) (comp_filter (h := lotD) (g := lotD) (q := fun l => l.contains q.1 && l.contains q.2) L fun l hl => ?_)).trans ?_
        · refine cB_if (ρ1 := [some (.ref b), some (.int m), some (.lst (strC tags)), some (.tup (ones.map prD)), some (.lst (L.map lotD)), none, some (prD q), some (lotD l)]) rfl ?_ rfl
          have f1 : evE (callN P (k + 2)) (.cmp .isin (.ix (.var 6) (.int 0)) (.var 7)) [some (.ref b), some (.int m), some (.lst (strC tags)), some (.tup (ones.map prD)), some (.lst (L.map lotD)), none, some (prD q), some (lotD l)] s3 = .ok (.bl (l.contains q.1)) s3 := by
            show ofB s3 (inD s3 (.str q.1) (lotD l)) = _
            rw [in_strs (g := lotD l) (l := l) rfl (htok _ q1) (hLok l hl)]
            rfl
          have f2 : evE (callN P (k + 2)) (.cmp .isin (.ix (.var 6) (.int 1)) (.var 7)) [some (.ref b), some (.int m), some (.lst (strC tags)), some (.tup (ones.map prD)), some (.lst (L.map lotD)), none, some (prD q), some (lotD l)] s3 = .ok (.bl (l.contains q.2)) s3 := by
            show ofB s3 (inD s3 (.str q.2) (lotD l)) = _
            rw [in_strs (g := lotD l) (l := l) rfl (htok _ q2) (hLok l hl)]
            rfl
          rw [evE, f1, bok]
          cases e : l.contains q.1 with
          | false => rfl
          | true => exact f2
        · unfold newList
          have := List.length_filter_le (fun l : List Cs => l.contains q.1 && l.contains q.2) L
          rw [if_pos (by rw [List.length_map]; unfold big; omega)]
          rfl
      rw [evE, d1, bok]
      show ofB s3 (cmpD s3 .eq (.lst _) (.lst [])) = _
      rw [empty_eq fun l hl => pl_lot (n := 58) (hLok l (List.mem_filter.mp hl).1)]
      rfl
    · unfold newList
      have := List.length_filter_le (fun q : Cs × Cs => (L.filter fun l => l.contains q.1 && l.contains q.2).isEmpty) (pairsC tags)
      rw [if_pos (by rw [List.length_map]; unfold big; omega), hfr]
      rfl
  have hfl : frees.length ≤ 64 := by
    rw [hfr]
    exact Nat.le_trans (List.length_filter_le _ _) hpl
  have lfr : (frees.map prD).length = frees.length := List.length_map _
  obtain ⟨as, s4, e10, hs10, m4, c4⟩ := drawn_ok (k := k + 1) (st := s3) (b := b) (n := n + 9 + ((pairsC tags).map prD).length) (z := 4) (tg := 6) (xs := frees.map prD) (sr := .it (.var 5)) (ρ := [some (.ref b), some (.int m), some (.lst (strC tags)), some (.tup (ones.map prD)), some (.lst (L.map lotD)), some (.lst (frees.map prD)), none, none]) (hd := none) hT c3 (by rw [lpr, lfr]; omega) (by decide) (by decide) rfl (by decide) (by show 6 < 8; decide) rfl (by rw [lfr]; omega)
  obtain ⟨ap, ha, rfl⟩ := sub_prs hs10
  have haf : ∀ p ∈ ap, p ∈ frees := fun p hp => ha.subset hp
  refine ⟨tags, ones, ap, s4, ?_, ⟨?_, by omega, htg ▸ sortC_sorted yc, htp.nodup_iff.mpr hynd, hts, hom, fun p hp => ?_, by omega, ?_, L, hLo, fun p hp l hl hh => ?_⟩, m1.trans (m2.trans (m3.trans m4)), c4.mono (by rw [lpr, lfr]; omega)⟩
  · have hlen := (m1.trans (m2.trans (m3.trans m4))).len
    refine call_rt hP rfl hlen ?_
    have t1 : evE (callN P (k + 2)) (.bin .add (.int 1) (.call t (.cons (.var 0) (.cons (.var 1) .nil)))) [some (.ref b), some (.int m), none, none, none, none, none, none] st = .ok (.int N) s1 := by
      have : evE (callN P (k + 2)) (.call t (.cons (.var 0) (.cons (.var 1) .nil))) [some (.ref b), some (.int m), none, none, none, none, none, none] st = .ok (.int r) s1 := e1
      rw [evE]
      show ((evE (callN P (k + 2)) (.call t _) _ st).bind _) = _
      rw [this, hN]
      rfl
    have t2 : evE (callN P (k + 2)) (.call p (.cons (.var 0) (.cons (.lst false (.cons (.str [97]) (.cons (.str [98]) (.cons (.str [99, 121]) (.cons (.str [100]) (.cons (.str [112]) (.cons (.str [113]) (.cons (.str [120]) (.cons (.str [122, 122, 122, 122, 122, 122, 122, 122]) .nil))))))))) (.cons (.bin .add (.int 1) (.call t (.cons (.var 0) (.cons (.var 1) .nil)))) .nil)))) [some (.ref b), some (.int m), none, none, none, none, none, none] st = .ok (.lst (yc.map D.str)) s2 := by
      rw [evE, evEs]
      show ((Rs.bind (Rs.bind (Rs.ok (D.lst (strC namesC)) st) fun d s1 => (evEs (callN P (k + 2)) (.cons (.bin .add (.int 1) (.call t (.cons (.var 0) (.cons (.var 1) .nil)))) .nil) _ s1).bind fun ds s2 => .ok (d :: ds) s2) _).bind _) = _
      rw [bok, evEs, t1]
      exact e2
    refine (ss_set (d := .lst (strC tags)) (s1 := s2) ?_).trans ?_
    · rw [evE, evEs]
      refine Eq.trans (congrArg (fun z => Rs.bind (Rs.bind z _) _) t2) ?_
      show (if sortable (strC yc) then Rs.ok (D.lst (sortD (strC yc))) s2 else .stuck) = _
      rw [if_pos (sortable_strs fun c h => names_ok c (hysub c h)), sortD_str, htg]
    refine (ss_set (d := .tup (ones.map prD)) (s1 := s3) ?_).trans ?_
    · rw [evE, evEs]
      refine Eq.trans (congrArg (fun z => Rs.bind (Rs.bind z _) _) e7) ?_
      rfl
    refine (ss_set (d := .lst (L.map lotD)) (s1 := s3) (by rw [evE]; exact e8)).trans ?_
    refine (ss_set (d := .lst (frees.map prD)) (s1 := s3) e9).trans (ss_ret ?_)
    have t3 : evE (callN P (k + 2)) (.blt .tuple (.cons (.comp false (.var 6) [6] (.it (.var 5)) (.cons (.cmp .eq (.call t (.cons (.var 0) (.cons (.int 4) .nil))) (.int 0)) .nil) [6]) .nil)) [some (.ref b), some (.int m), some (.lst (strC tags)), some (.tup (ones.map prD)), some (.lst (L.map lotD)), some (.lst (frees.map prD)), none, none] s3 = .ok (.tup (ap.map prD)) s4 := by
      rw [evE, evEs]
      refine Eq.trans (congrArg (fun z => Rs.bind (Rs.bind z _) _) e10) ?_
      rfl
    exact ev_tup (es_cons (s1 := s3) (d := .tup (strC tags)) rfl (es_cons (s1 := s3) (d := .tup (ones.map prD)) rfl (es1 t3))) (by show 3 ≤ 10000; decide)
  · intro h
    rw [h] at htl
    simp at htl
    omega
  · have := haf p hp
    rw [hfr] at this
    exact pairsC_mem (List.mem_filter.mp this).1
  · have := ha.length_le
    omega
  · have h1 := haf p hp
    rw [hfr] at h1
    have h2 := (List.mem_filter.mp h1).2
    rw [List.isEmpty_iff] at h2
    have h3 : l ∈ L.filter fun l => l.contains p.1 && l.contains p.2 := List.mem_filter.mpr ⟨hl, by rw [Bool.and_eq_true, List.contains_iff_mem, List.contains_iff_mem]; exact hh⟩
    rw [h2] at h3
    cases h3
end
end Mi
end

section
set_option linter.all false
set_option maxRecDepth 100000
set_option autoImplicit false
/-! the helpers that many laws share: all -/
namespace Mi
section
variable {C : Nat → List D → Sto → Rs D} {ρ : Env} {s s1 s2 : Sto} {e a b : E} {es : Es} {d : D} {ds x y : List D} {rest : Ss} {i n : Nat}
theorem ss_app (h : ρ[i]? = some (some (.ref n))) (hs : s[n]? = some (.lst ds)) (he : evE C e ρ s = .ok d s) (hl : ds.length < 1000000) :
    evSs C (.cons (.expr (.mth .append (.var i) (.cons e .nil))) rest) ρ s = evSs C rest ρ (s.set n (.lst (ds ++ [d]))) := by
  refine ss_expr (d := .non) ?_
  rw [evE, evE, h]
  show (if recv s .append (.ref n) then _ else _) = _
  rw [if_pos (by simp only [recv, hs]), es1 he, bok]
  simp only [mthD, hs]
  rw [if_pos (by unfold big; omega)]
theorem ev_catT (ha : evE C a ρ s = .ok (.tup x) s) (hb : evE C b ρ s = .ok (.tup y) s) (hl : x.length + y.length ≤ 10000) : evE C (.bin .add a b) ρ s = .ok (.tup (x ++ y)) s := by
  rw [evE, ha, bok, hb, bok]
  show (if (x ++ y).length ≤ big then _ else _) = _
  rw [if_pos (by rw [List.length_append]; unfold big; omega)]
end
theorem cut_to {α : Type} (xs : List α) (j : Nat) : cut xs none (some (j : Int)) = xs.take j := by
  have h1 : sIx xs.length xs.length (some (j : Int)) = min j xs.length := by
    unfold sIx
    simp only
    rw [if_neg (by omega), Int.toNat_natCast]
  unfold cut
  rw [h1]
  show (xs.drop 0).take (min j xs.length - 0) = _
  rw [List.drop_zero, Nat.sub_zero]
  by_cases h : j ≤ xs.length
  · rw [Nat.min_eq_left h]
  · rw [Nat.min_eq_right (by omega), List.take_of_length_le (Nat.le_refl _), List.take_of_length_le (by omega)]
def growO (t : Cs) (o : List (List Cs)) (k : Nat) : List (List Cs) := o.take k ++ [(o[k]?).getD [] ++ [t]] ++ o.drop (k + 1)
def nextO (t : Cs) (o : List (List Cs)) : List (List (List Cs)) := (o ++ [[t]]) :: (List.range o.length).map (growO t o)
def allI : Ss := .cons (.expr (.mth .append (.var 3) (.cons (.bin .add (.bin .add (.sl (.var 4) .none (.some (.var 5))) (.tup (.cons (.bin .add (.ix (.var 4) (.var 5)) (.tup (.cons (.var 2) .nil))) .nil))) (.sl (.var 4) (.some (.bin .add (.var 5) (.int 1))) .none)) .nil))) .nil
def allM : Ss := .cons (.expr (.mth .append (.var 3) (.cons (.bin .add (.var 4) (.tup (.cons (.tup (.cons (.var 2) .nil)) .nil))) .nil)))
  (.cons (.for_ [5] (.rng (.blt .len (.cons (.var 4) .nil))) allI) .nil)
def allO : Ss := .cons (.set 3 (.lst true .nil)) (.cons (.for_ [4] (.it (.var 1)) allM) (.cons (.frz 3) (.cons (.set 1 (.var 3)) .nil)))
section
variable {C : Nat → List D → Sto → Rs D} {pre : Sto} {deck x1 : Option D} {t : Cs}
theorem all_in {o : List (List Cs)} (ho : o.length ≤ 100) (hol : ∀ l ∈ o, l.length ≤ 100) : ∀ (ks : List Nat) (F : List (List (List Cs))) (x5 : Option D), (∀ k ∈ ks, k < o.length) → F.length + ks.length ≤ 500000 →
    ∃ y5, forL [5] (evSs C allI) (ks.map fun (k : Nat) => D.int (0 + (k : Int))) [deck, x1, some (.str t), some (.ref pre.length), some (ownD o), x5] (pre ++ [.lst (F.map ownD)]) = .ok (.nx [deck, x1, some (.str t), some (.ref pre.length), some (ownD o), y5]) (pre ++ [.lst ((F ++ ks.map (growO t o)).map ownD)])
  | [], F, x5, _, _ => ⟨x5, by simp [forL]⟩
  | k :: ks, F, x5, hk, hF => by
    rw [List.length_cons] at hF
    have hk0 := hk k List.mem_cons_self
    obtain ⟨l, hl⟩ : ∃ l, o[k]? = some l := ⟨_, List.getElem?_eq_getElem hk0⟩
    have hl2 : l.length ≤ 100 := hol l (List.mem_of_getElem? hl)
    have hl3 : (o.map cellD)[k]? = some (cellD l) := by rw [List.getElem?_map, hl]; rfl
    obtain ⟨y5, ih⟩ := all_in ho hol ks (F ++ [growO t o k]) (some (.int (0 + (k : Int)))) (fun j hj => hk j (List.mem_cons_of_mem _ hj)) (by rw [List.length_append]; simp only [List.length_cons, List.length_nil]; omega)
    refine ⟨y5, (forL_nx (ρ2 := [deck, x1, some (.str t), some (.ref pre.length), some (ownD o), some (.int (0 + (k : Int)))]) (s1 := pre ++ [.lst ((F ++ [growO t o k]).map ownD)]) rfl ?_).trans (by rw [ih, List.append_assoc]; first | done | rfl)⟩
    have h5 : ([deck, x1, some (.str t), some (.ref pre.length), some (ownD o), some (.int (0 + (k : Int)))] : Env)[5]? = some (some (.int (k : Int))) := by rw [Int.zero_add]; rfl
    have v4 : evE C (.var 4) [deck, x1, some (.str t), some (.ref pre.length), some (ownD o), some (.int (0 + (k : Int)))] (pre ++ [.lst (F.map ownD)]) = .ok (ownD o) (pre ++ [.lst (F.map ownD)]) := rfl
    have v5 : evE C (.var 5) [deck, x1, some (.str t), some (.ref pre.length), some (ownD o), some (.int (0 + (k : Int)))] (pre ++ [.lst (F.map ownD)]) = .ok (.int (k : Int)) (pre ++ [.lst (F.map ownD)]) := by rw [evE, h5]
    have a1 : evE C (.sl (.var 4) .none (.some (.var 5))) [deck, x1, some (.str t), some (.ref pre.length), some (ownD o), some (.int (0 + (k : Int)))] (pre ++ [.lst (F.map ownD)]) = .ok (.tup ((o.take k).map cellD)) (pre ++ [.lst (F.map ownD)]) := by
      simp only [evE, v4, v5, evO, bok, h5, List.getElem?_cons_succ, List.getElem?_cons_zero, ownD, slD]
      rw [Int.zero_add, cut_to, List.map_take]
    have a2 : evE C (.sl (.var 4) (.some (.bin .add (.var 5) (.int 1))) .none) [deck, x1, some (.str t), some (.ref pre.length), some (ownD o), some (.int (0 + (k : Int)))] (pre ++ [.lst (F.map ownD)]) = .ok (.tup ((o.drop (k + 1)).map cellD)) (pre ++ [.lst (F.map ownD)]) := by
      simp only [evE, v4, v5, evO, bok, h5, List.getElem?_cons_succ, List.getElem?_cons_zero, ownD, slD, b_add]
      rw [show (0 + (k : Int) + 1) = ((k + 1 : Nat) : Int) by omega, cut_from, List.map_drop]
    have a3 : evE C (.ix (.var 4) (.var 5)) [deck, x1, some (.str t), some (.ref pre.length), some (ownD o), some (.int (0 + (k : Int)))] (pre ++ [.lst (F.map ownD)]) = .ok (cellD l) (pre ++ [.lst (F.map ownD)]) := by
      rw [evE, v4, bok, v5, bok]
      exact ix_seq (g := .tup _) rfl (by omega) (by rw [Int.toNat_natCast]; exact hl3) _
    have a4 := ev_catT (C := C) (a := .ix (.var 4) (.var 5)) (b := .tup (.cons (.var 2) .nil)) (x := strC l) (y := [.str t]) a3 rfl (by rw [strs_len]; simp only [List.length_cons, List.length_nil]; omega)
    have a5 := ev_tup (es1 a4) (by show 1 ≤ 10000; decide)
    have a6 := ev_catT a1 a5 (by rw [List.length_map, List.length_take]; simp only [List.length_cons, List.length_nil]; omega)
    have a7 := ev_catT a6 a2 (by rw [List.length_append, List.length_map, List.length_map, List.length_take, List.length_drop]; simp only [List.length_cons, List.length_nil]; omega)
    refine (ss_app (n := pre.length) (ds := F.map ownD) rfl (get_last _ _) a7 (by rw [List.length_map]; omega)).trans ?_
    rw [set_last]
    have e1 : (D.tup ((o.take k).map cellD ++ [D.tup (strC l ++ [.str t])] ++ (o.drop (k + 1)).map cellD)) = ownD (growO t o k) := by
      unfold ownD growO
      rw [hl, List.map_append, List.map_append]
      have : D.tup (strC l ++ [.str t]) = cellD (l ++ [t]) := by
        unfold cellD strC
        rw [List.map_append]
        rfl
      rw [this]
      rfl
    rw [e1, List.map_append]
    rfl
theorem all_mid : ∀ (os F : List (List (List Cs))) (x4 x5 : Option D), (∀ o ∈ os, o.length ≤ 100 ∧ ∀ l ∈ o, l.length ≤ 100) → F.length + (os.flatMap (nextO t)).length ≤ 500000 →
    ∃ y4 y5, forL [4] (evSs C allM) (os.map ownD) [deck, x1, some (.str t), some (.ref pre.length), x4, x5] (pre ++ [.lst (F.map ownD)]) = .ok (.nx [deck, x1, some (.str t), some (.ref pre.length), y4, y5]) (pre ++ [.lst ((F ++ os.flatMap (nextO t)).map ownD)])
  | [], F, x4, x5, _, _ => ⟨x4, x5, by simp [forL]⟩
  | o :: os, F, x4, x5, ho, hF => by
    rw [List.flatMap_cons, List.length_append] at hF
    have hnx : (nextO t o).length = o.length + 1 := by unfold nextO; simp
    rw [hnx] at hF
    obtain ⟨h1, h2⟩ := ho o List.mem_cons_self
    obtain ⟨y5, e1⟩ := all_in (C := C) (pre := pre) (deck := deck) (x1 := x1) (t := t) h1 h2 (List.range o.length) (F ++ [o ++ [[t]]]) x5 (fun k hk => List.mem_range.mp hk) (by rw [List.length_append, List.length_range]; simp only [List.length_cons, List.length_nil]; omega)
    obtain ⟨z4, z5, ih⟩ := all_mid os (F ++ nextO t o) (some (ownD o)) y5 (fun q hq => ho q (List.mem_cons_of_mem _ hq)) (by rw [List.length_append, hnx]; omega)
    refine ⟨z4, z5, (forL_nx (ρ2 := [deck, x1, some (.str t), some (.ref pre.length), some (ownD o), y5]) (s1 := pre ++ [.lst ((F ++ nextO t o).map ownD)]) rfl ?_).trans (by rw [ih, List.flatMap_cons, List.append_assoc])⟩
    have a1 := ev_catT (C := C) (ρ := [deck, x1, some (.str t), some (.ref pre.length), some (ownD o), x5]) (s := pre ++ [.lst (F.map ownD)]) (a := .var 4) (b := .tup (.cons (.tup (.cons (.var 2) .nil)) .nil)) (x := o.map cellD) (y := [.tup [.str t]]) rfl rfl (by rw [List.length_map]; simp only [List.length_cons, List.length_nil]; omega)
    refine (ss_app (n := pre.length) (ds := F.map ownD) rfl (get_last _ _) a1 (by rw [List.length_map]; omega)).trans ?_
    rw [set_last]
    have e2 : F.map ownD ++ [D.tup (o.map cellD ++ [.tup [.str t]])] = (F ++ [o ++ [[t]]]).map ownD := by
      rw [List.map_append]
      show _ = F.map ownD ++ [D.tup ((o ++ [[t]]).map cellD)]
      rw [List.map_append]
      rfl
    rw [e2]
    refine (ss_for (s1 := pre ++ [.lst ((F ++ [o ++ [[t]]]).map ownD)]) (xs := (List.range o.length).map fun (k : Nat) => D.int (0 + (k : Int))) ?_ e1).trans ?_
    · have e3 : evE C (.blt .len (.cons (.var 4) .nil)) [deck, x1, some (.str t), some (.ref pre.length), some (ownD o), x5] (pre ++ [.lst ((F ++ [o ++ [[t]]]).map ownD)]) = .ok (.int o.length) (pre ++ [.lst ((F ++ [o ++ [[t]]]).map ownD)]) := by
        rw [← List.length_map (f := cellD) (as := o)]
        rfl
      rw [evR, e3, bok]
      show (if _ then _ else _) = _
      rw [if_pos (by omega), Int.toNat_natCast]
      rfl
    · rw [List.append_assoc]
      rfl
end
end Mi
end

section
set_option linter.all false
set_option maxRecDepth 100000
set_option autoImplicit false
/-! the helpers that many laws share: all -/
namespace Mi
theorem call_keep {P : List Fn} {k f : Nat} {fn : Fn} {ds : List D} {s junk : Sto} {d : D} (h1 : P[f]? = some fn) (h2 : ds.length = fn.np) (hd : Nor d) (hlow : Low s)
    (h : evSs (callN P k) fn.body (ds.map some ++ List.replicate (fn.nn - fn.np) none) s = .ok (.rt d) (s ++ junk)) : callN P (k + 1) f ds s = .ok d s := by
  cases junk with
  | nil => rw [List.append_nil] at h; exact call_rt h1 h2 rfl h
  | cons o r =>
    have et : (s ++ o :: r).take s.length = s := by simp
    have := call_rt2 h1 h2 (by simp) (hd _) (by rw [et]; exact hlow _) h
    rw [et] at this
    exact this
def stepF (F : List (List (List Cs))) (t : Cs) : List (List (List Cs)) := F.flatMap (nextO t)
/-- a parting of the names so far -/
structure Part (tags : List Cs) (o : List (List Cs)) : Prop where
  perm : o.flatten.Perm tags
  ne : ∀ l ∈ o, l ≠ []
theorem growO_eq {t : Cs} {o : List (List Cs)} {k : Nat} {l : List Cs} (h : o[k]? = some l) : growO t o k = o.set k (l ++ [t]) := by
  unfold growO
  obtain ⟨hk, _⟩ := List.getElem?_eq_some_iff.mp h
  rw [h, List.set_eq_take_append_cons_drop, if_pos hk]
  simp
theorem growO_perm {t : Cs} : ∀ {o : List (List Cs)} {k : Nat} {l : List Cs}, o[k]? = some l → (o.set k (l ++ [t])).flatten.Perm (o.flatten ++ [t])
  | [], _, _, h => by simp at h
  | x :: o, 0, l, h => by
    simp at h
    subst h
    show ((x ++ [t]) :: o).flatten.Perm _
    rw [List.flatten_cons, List.flatten_cons, List.append_assoc, List.append_assoc]
    exact List.Perm.append_left _ List.perm_append_comm
  | x :: o, k + 1, l, h => by
    show (x :: o.set k (l ++ [t])).flatten.Perm _
    rw [List.flatten_cons, List.flatten_cons, List.append_assoc]
    exact List.Perm.append_left _ (growO_perm (by simpa using h))
theorem nextO_mem {t : Cs} {o o' : List (List Cs)} : o' ∈ nextO t o ↔ o' = o ++ [[t]] ∨ ∃ k l, o[k]? = some l ∧ o' = o.set k (l ++ [t]) := by
  unfold nextO
  rw [List.mem_cons, List.mem_map]
  constructor
  · rintro (h | ⟨k, hk, rfl⟩)
    · exact .inl h
    · have hk := List.mem_range.mp hk
      exact .inr ⟨k, o[k], List.getElem?_eq_getElem hk, growO_eq (List.getElem?_eq_getElem hk)⟩
  · rintro (h | ⟨k, l, hk, rfl⟩)
    · exact .inl h
    · exact .inr ⟨k, List.mem_range.mpr (List.getElem?_eq_some_iff.mp hk).1, growO_eq hk⟩
theorem Part.next {tags : List Cs} {o o' : List (List Cs)} {t : Cs} (h : Part tags o) (h2 : o' ∈ nextO t o) : Part (tags ++ [t]) o' ∧ o'.length ≤ o.length + 1 := by
  rcases nextO_mem.mp h2 with rfl | ⟨k, l, hk, rfl⟩
  · refine ⟨⟨?_, fun l hl => ?_⟩, by simp⟩
    · rw [List.flatten_append]
      exact h.perm.append_right _
    · rcases List.mem_append.mp hl with hl | hl
      · exact h.ne l hl
      · rw [List.mem_singleton.mp hl]; simp
  · refine ⟨⟨(growO_perm hk).trans (h.perm.append_right _), fun m hm => ?_⟩, by simp⟩
    rcases List.mem_or_eq_of_mem_set hm with hm | rfl
    · exact h.ne m hm
    · simp
theorem flatMap_len {F : List (List (List Cs))} {t : Cs} {m : Nat} (h : ∀ o ∈ F, o.length ≤ m) : (F.flatMap (nextO t)).length ≤ F.length * (m + 1) := by
  induction F with
  | nil => simp
  | cons o F ih =>
    have h1 := h o List.mem_cons_self
    have h2 := ih fun q hq => h q (List.mem_cons_of_mem _ hq)
    have h3 : (nextO t o).length = o.length + 1 := by unfold nextO; simp
    rw [List.flatMap_cons, List.length_append, List.length_cons, Nat.add_mul]
    omega
/-! ### one that keeps classes -/
section
variable {κ : Type} {f : Cs → κ}
def Rep (f : Cs → κ) (o : List (List Cs)) : Prop := ∀ (i j : Nat) (ci cj : List Cs), o[i]? = some ci → o[j]? = some cj → ∀ a ∈ ci, ∀ b ∈ cj, (i = j ↔ f a = f b)
theorem Rep.next {o : List (List Cs)} {t : Cs} (h : Rep f o) : ∃ o' ∈ nextO t o, Rep f o' := by
  by_cases e : ∃ (i : Nat) (ci : List Cs), o[i]? = some ci ∧ ∃ a ∈ ci, f a = f t
  · obtain ⟨i, ci, hi, a0, ha0, hf⟩ := e
    refine ⟨_, nextO_mem.mpr (.inr ⟨i, ci, hi, rfl⟩), ?_⟩
    have key : ∀ (j : Nat) (c : List Cs), (o.set i (ci ++ [t]))[j]? = some c → ∃ c0, o[j]? = some c0 ∧ ∀ a ∈ c, ∃ b ∈ c0, f b = f a := fun j c hj => by
      by_cases e : i = j
      · subst e
        rw [List.getElem?_set_self (List.getElem?_eq_some_iff.mp hi).1] at hj
        cases hj
        refine ⟨ci, hi, fun a ha => ?_⟩
        rcases List.mem_append.mp ha with ha | ha
        · exact ⟨a, ha, rfl⟩
        · rw [List.mem_singleton.mp ha]
          exact ⟨a0, ha0, hf⟩
      · rw [List.getElem?_set_ne e] at hj
        exact ⟨c, hj, fun a ha => ⟨a, ha, rfl⟩⟩
    intro j j' c c' hj hj' a ha b hb
    obtain ⟨c0, h0, k0⟩ := key j c hj
    obtain ⟨c1, h1, k1⟩ := key j' c' hj'
    obtain ⟨a', ha', ea⟩ := k0 a ha
    obtain ⟨b', hb', eb⟩ := k1 b hb
    rw [← ea, ← eb]
    exact h j j' c0 c1 h0 h1 a' ha' b' hb'
  · refine ⟨_, nextO_mem.mpr (.inl rfl), ?_⟩
    have key : ∀ (j : Nat) (c : List Cs), (o ++ [[t]])[j]? = some c → o[j]? = some c ∨ (j = o.length ∧ c = [t]) := fun j c hj => by
      by_cases hlt : j < o.length
      · rw [List.getElem?_append_left hlt] at hj
        exact .inl hj
      · rw [List.getElem?_append_right (by omega)] at hj
        have hz : j - o.length = 0 := by
          cases hz : j - o.length with
          | zero => rfl
          | succ n => rw [hz] at hj; simp at hj
        rw [hz] at hj
        exact .inr ⟨by omega, by simpa using hj.symm⟩
    intro j j' c c' hj hj' a ha b hb
    rcases key j c hj with h0 | ⟨e1, e2⟩ <;> rcases key j' c' hj' with h1 | ⟨e3, e4⟩
    · exact h j j' c c' h0 h1 a ha b hb
    · subst e4
      rw [List.mem_singleton.mp hb]
      have := (List.getElem?_eq_some_iff.mp h0).1
      exact ⟨fun q => by omega, fun q => absurd ⟨j, c, h0, a, ha, q⟩ e⟩
    · subst e2
      rw [List.mem_singleton.mp ha]
      have := (List.getElem?_eq_some_iff.mp h1).1
      exact ⟨fun q => by omega, fun q => absurd ⟨j', c', h1, b, hb, q.symm⟩ e⟩
    · subst e2 e4
      rw [List.mem_singleton.mp ha, List.mem_singleton.mp hb]
      exact ⟨fun _ => rfl, fun _ => by omega⟩
end
/-- what the loop over the names comes to -/
structure Founds {κ : Type} (f : Cs → κ) (m : Nat) (tags : List Cs) (F : List (List (List Cs))) : Prop where
  part : ∀ o ∈ F, Part tags o ∧ o.length ≤ m
  rep : ∃ o ∈ F, Rep f o
theorem Founds.step {κ : Type} {f : Cs → κ} {m : Nat} {tags : List Cs} {F : List (List (List Cs))} {t : Cs} (h : Founds f m tags F) : Founds f (m + 1) (tags ++ [t]) (stepF F t) := by
  refine ⟨fun o ho => ?_, ?_⟩
  · obtain ⟨q, hq, ho⟩ := List.mem_flatMap.mp ho
    obtain ⟨h1, h2⟩ := h.part q hq
    obtain ⟨h3, h4⟩ := h1.next ho
    exact ⟨h3, by omega⟩
  · obtain ⟨q, hq, hr⟩ := h.rep
    obtain ⟨o, ho, hr⟩ := hr.next (t := t)
    exact ⟨o, List.mem_flatMap.mpr ⟨q, hq, ho⟩, hr⟩
theorem pow7 {a b : Nat} (h : a ≤ b) : 7 ^ a ≤ 7 ^ b := Nat.pow_le_pow_right (by decide) h
theorem all_out {κ : Type} {f : Cs → κ} {C : Nat → List D → Sto → Rs D} {deck : Option D} : ∀ (zs done : List Cs) (F : List (List (List Cs))) (pre : Sto) (x2 x3 x4 x5 : Option D), Founds f done.length done F → F.length ≤ 7 ^ done.length → done.length + zs.length ≤ 6 →
    ∃ F' junk y2 y3 y4 y5, forL [2] (evSs C allO) (strC zs) [deck, some (.lst (F.map ownD)), x2, x3, x4, x5] pre = .ok (.nx [deck, some (.lst (F'.map ownD)), y2, y3, y4, y5]) (pre ++ junk) ∧ Founds f (done ++ zs).length (done ++ zs) F' ∧ F'.length ≤ 200000
  | [], done, F, pre, x2, x3, x4, x5, h, hl, hn => ⟨F, [], x2, x3, x4, x5, by simp [strC, forL], by rw [List.append_nil]; exact h, by
      have := pow7 (a := done.length) (b := 6) (by omega)
      have : 7 ^ 6 = 117649 := by decide
      omega⟩
  | t :: zs, done, F, pre, x2, x3, x4, x5, h, hl, hn => by
    rw [List.length_cons] at hn
    have hb : F.length * (done.length + 1) ≤ 7 ^ (done.length + 1) := by
      rw [Nat.pow_succ]
      exact Nat.mul_le_mul hl (by omega)
    have hfl : (F.flatMap (nextO t)).length ≤ 7 ^ (done.length + 1) := Nat.le_trans (flatMap_len fun o ho => (h.part o ho).2) hb
    have hb2 := pow7 (a := done.length + 1) (b := 6) (by omega)
    have hb3 : 7 ^ 6 = 117649 := by decide
    obtain ⟨y4, y5, e⟩ := all_mid (C := C) (pre := pre) (deck := deck) (x1 := some (.lst (F.map ownD))) (t := t) F [] x4 x5 (fun o ho => by
      obtain ⟨h1, h2⟩ := h.part o ho
      refine ⟨by omega, fun l hl => ?_⟩
      have h3 : l.length ≤ o.flatten.length := (List.sublist_flatten_of_mem hl).length_le
      have h4 := h1.perm.length_eq
      omega) (by simp only [List.length_nil]; omega)
    have h2 := h.step (t := t)
    have e1 : evSs C allO [deck, some (.lst (F.map ownD)), some (.str t), x3, x4, x5] pre = .ok (.nx [deck, some (.lst ((stepF F t).map ownD)), some (.str t), some (.lst ((stepF F t).map ownD)), y4, y5]) (pre ++ [.dead]) := by
      refine (ss_set (d := .ref pre.length) (s1 := pre ++ [.lst []]) rfl).trans ?_
      refine (ss_for (s1 := pre ++ [.lst []]) (xs := F.map ownD) rfl e).trans ?_
      refine (rn_frz (n := pre.length) rfl (get_last _ _)).trans ?_
      rw [set_last]
      exact (ss_set rfl).trans rfl
    obtain ⟨F', junk, z2, z3, z4, z5, e2, h3, h4⟩ := all_out (f := f) (C := C) (deck := deck) zs (done ++ [t]) (stepF F t) (pre ++ [.dead]) (some (.str t)) (some (.lst ((stepF F t).map ownD))) y4 y5 (by rw [List.length_append]; exact h2) (by rw [List.length_append]; exact hfl) (by rw [List.length_append]; simp only [List.length_cons, List.length_nil]; omega)
    refine ⟨F', .dead :: junk, z2, z3, z4, z5, ?_, by rw [List.append_assoc] at h3; exact h3, h4⟩
    refine (forL_nx (x := .str t) (xs := strC zs) rfl e1).trans (e2.trans ?_)
    rw [List.append_assoc]
    rfl
end Mi
end

section
set_option linter.all false
set_option maxRecDepth 100000
set_option autoImplicit false
/-! the helpers that many laws share: all -/
namespace Mi
theorem perm_flat {a b : List (List Cs)} (h : a.Perm b) : a.flatten.Perm b.flatten := by
  induction h with
  | nil => exact .refl _
  | cons x _ ih => rw [List.flatten_cons, List.flatten_cons]; exact ih.append_left x
  | swap x y l =>
    rw [List.flatten_cons, List.flatten_cons, List.flatten_cons, List.flatten_cons, ← List.append_assoc, ← List.append_assoc]
    exact List.perm_append_comm.append_right _
  | trans _ _ h1 h2 => exact h1.trans h2
theorem Part.sort {tags : List Cs} {o : List (List Cs)} (h : Part tags o) : Part tags (sortG cellD o) :=
  ⟨(perm_flat (sortG_perm cellD o)).trans h.perm, fun l hl => h.ne l ((sortG_perm cellD o).mem_iff.mp hl)⟩
theorem Part.okC {tags : List Cs} {o : List (List Cs)} (h : Part tags o) (ht : ∀ c ∈ tags, okC c = true) : ∀ l ∈ o, ∀ c ∈ l, okC c = true := fun l hl c hc => ht c (h.perm.mem_iff.mp (List.mem_flatten.mpr ⟨l, hl, hc⟩))
theorem Part.len {tags : List Cs} {o : List (List Cs)} (h : Part tags o) : o.length ≤ tags.length := by
  rw [← h.perm.length_eq]
  have := h.ne
  clear h
  induction o with
  | nil => exact Nat.zero_le _
  | cons l o ih =>
    rw [List.flatten_cons, List.length_append, List.length_cons]
    have h1 := ih fun q hq => this q (List.mem_cons_of_mem _ hq)
    have h2 := List.length_pos_iff.mpr (this l List.mem_cons_self)
    omega
theorem Part.in {tags : List Cs} {o : List (List Cs)} (h : Part tags o) : ∀ t ∈ tags, ∃ l ∈ o, t ∈ l := fun t ht => by
  obtain ⟨l, hl, hc⟩ := List.mem_flatten.mp (h.perm.mem_iff.mpr ht)
  exact ⟨l, hl, hc⟩
theorem Part.cells_ne {tags : List Cs} {o : List (List Cs)} (h : Part tags o) (ht : tags ≠ []) : o ≠ [] := fun e => by
  subst e
  have := h.perm.length_eq
  simp at this
  exact ht (List.eq_nil_of_length_eq_zero this.symm)
theorem sortable_cells {o : List (List Cs)} (h : ∀ l ∈ o, ∀ c ∈ l, okC c = true) (hn : ∀ l ∈ o, l ≠ []) : sortable (o.map cellD) = true := by
  unfold sortable
  simp only [Bool.and_eq_true, Bool.or_eq_true, List.all_eq_true]
  refine ⟨⟨fun d hd => ?_, fun d hd e he => ?_⟩, .inl fun d hd => ?_⟩
  · obtain ⟨c, hc, rfl⟩ := List.mem_map.mp hd
    exact pl_cell (h c hc)
  · obtain ⟨c, _, rfl⟩ := List.mem_map.mp hd
    obtain ⟨c', _, rfl⟩ := List.mem_map.mp he
    show D.alike (.tup (strC c)) (.tup (strC c')) = true
    rw [D.alike]
    exact alikes_strs c c'
  · obtain ⟨c, hc, rfl⟩ := List.mem_map.mp hd
    cases c with
    | nil => exact absurd rfl (hn _ hc)
    | cons a r => rfl
theorem alikes_cells : ∀ a b : List (List Cs), D.alikes (a.map cellD) (b.map cellD) = true
  | [], [] => by simp [D.alikes]
  | [], _ :: _ => by simp [D.alikes]
  | _ :: _, [] => by simp [D.alikes]
  | x :: a, y :: b => by
    rw [List.map_cons, List.map_cons, D.alikes, alikes_cells a b]
    show (D.alike (.tup (strC x)) (.tup (strC y)) && true) = true
    rw [D.alike, alikes_strs]
    rfl
theorem pl_own {n : Nat} {o : List (List Cs)} (h : ∀ l ∈ o, ∀ c ∈ l, okC c = true) : D.pl (n + 2) (ownD o) = true := pl_tupA fun d hd => by
  obtain ⟨l, hl, rfl⟩ := List.mem_map.mp hd
  exact pl_cell (h l hl)
theorem sortable_owns {G : List (List (List Cs))} (h : ∀ o ∈ G, ∀ l ∈ o, ∀ c ∈ l, okC c = true) (hn : ∀ o ∈ G, o ≠ []) : sortable (G.map ownD) = true := by
  unfold sortable
  simp only [Bool.and_eq_true, Bool.or_eq_true, List.all_eq_true]
  refine ⟨⟨fun d hd => ?_, fun d hd e he => ?_⟩, .inl fun d hd => ?_⟩
  · obtain ⟨c, hc, rfl⟩ := List.mem_map.mp hd
    exact pl_own (h c hc)
  · obtain ⟨c, _, rfl⟩ := List.mem_map.mp hd
    obtain ⟨c', _, rfl⟩ := List.mem_map.mp he
    show D.alike (.tup (c.map cellD)) (.tup (c'.map cellD)) = true
    rw [D.alike]
    exact alikes_cells c c'
  · obtain ⟨c, hc, rfl⟩ := List.mem_map.mp hd
    cases c with
    | nil => exact absurd rfl (hn _ hc)
    | cons a r => rfl
theorem Nor.strC (l : List Cs) : ∀ d ∈ strC l, Nor d := fun d hd => by
  obtain ⟨c, _, rfl⟩ := List.mem_map.mp hd
  exact fun _ => rfl
theorem Nor.own (o : List (List Cs)) : Nor (ownD o) := Nor.tup fun d hd => by
  obtain ⟨l, _, rfl⟩ := List.mem_map.mp hd
  exact Nor.tup (Nor.strC l)
/-- the lot of a name -/
def lotOf (L : List (List Cs)) (c : Cs) : Option (List Cs) := L.find? (·.contains c)
theorem lotOf_iff {tags : List Cs} {ones : List (Cs × Cs)} {L : List (List Cs)} (h : Lots tags ones L) {a b : Cs} (ha : a ∈ tags) (hb : b ∈ tags) : lotOf L a = lotOf L b ↔ ∃ l ∈ L, a ∈ l ∧ b ∈ l := by
  have key : ∀ c ∈ tags, ∃ l, lotOf L c = some l ∧ l ∈ L ∧ c ∈ l := fun c hc => by
    cases e : lotOf L c with
    | none =>
      obtain ⟨l, hl, hc⟩ := h.all c hc
      have := List.find?_eq_none.mp e l hl
      rw [List.contains_iff_mem] at this
      exact absurd hc this
    | some l => exact ⟨l, rfl, List.mem_of_find?_eq_some e, by have := List.find?_some e; rw [List.contains_iff_mem] at this; exact this⟩
  obtain ⟨l, e, hl, ha'⟩ := key a ha
  obtain ⟨m, e2, hm, hb'⟩ := key b hb
  rw [e, e2]
  constructor
  · intro q
    cases q
    exact ⟨l, hl, ha', hb'⟩
  · rintro ⟨n, hn, h1, h2⟩
    rw [h.one l hl n hn a ha' h1, h.one m hm n hn b hb' h2]
theorem fitB_rep {m : Nat} {tags : List Cs} {ones ap : List (Cs × Cs)} {L o : List (List Cs)} (h : Tab m tags ones ap) (hL : Lots tags ones L) (hA : ∀ p ∈ ap, ∀ l ∈ L, ¬ (p.1 ∈ l ∧ p.2 ∈ l)) (hp : Part tags o) (hr : Rep (lotOf L) o) : fitB ones ap o = true := by
  have key : ∀ a b, a ∈ tags → b ∈ tags → (b ∈ owC o a ↔ lotOf L a = lotOf L b) := fun a b ha hb => by
    obtain ⟨_, _, hm, hin⟩ := ownOf_spec (hp.in a ha)
    obtain ⟨i, hi⟩ := List.mem_iff_getElem?.mp hm
    obtain ⟨lb, hlb, hb'⟩ := hp.in b hb
    obtain ⟨j, hj⟩ := List.mem_iff_getElem?.mp hlb
    constructor
    · intro q
      exact (hr i i _ _ hi hi a hin b q).mp rfl
    · intro q
      have e := (hr i j _ _ hi hj a hin b hb').mpr q
      subst e
      rw [hi] at hj
      cases hj
      exact hb'
  unfold fitB
  rw [Bool.and_eq_true, List.isEmpty_iff, List.isEmpty_iff, List.filter_eq_nil_iff, List.filter_eq_nil_iff]
  refine ⟨fun p q => ?_, fun p q => ?_⟩
  · obtain ⟨h1, h2⟩ := h.ons p q
    have := (key p.1 p.2 h1 h2).mpr ((lotOf_iff hL h1 h2).mpr (hL.ons p q))
    rw [← List.contains_iff_mem] at this
    rw [this]
    simp
  · obtain ⟨h1, h2⟩ := h.aps p q
    rw [List.contains_iff_mem]
    intro hc
    obtain ⟨l, hl, hh⟩ := (lotOf_iff hL h1 h2).mp ((key p.1 p.2 h1 h2).mp hc)
    exact hA p q l hl hh
theorem allL_ok {P : List Fn} {a f al k m : Nat} {st : Sto} {tags : List Cs} {ones ap : List (Cs × Cs)} (hA : P[a]? = some atF) (hF : P[f]? = some (fitsF a)) (hP : P[al]? = some (allF f)) (h : Tab m tags ones ap) (hm : m ≤ 6) (hlow : Low st) :
    ∃ G : List (List (List Cs)), callN P (k + 3) al [deckD tags ones ap] st = .ok (.lst (G.map ownD)) st ∧ G ≠ [] ∧ G.length ≤ 200000 ∧ ∀ o ∈ G, Part tags o := by
  obtain ⟨L, hL, hA2⟩ := h.lots
  have h0 : Founds (lotOf L) 0 [] [[]] := ⟨fun o ho => by
    rw [List.mem_singleton.mp ho]
    exact ⟨⟨.refl _, fun _ h => absurd h List.not_mem_nil⟩, Nat.le_refl _⟩, [], List.mem_singleton.mpr rfl, fun i j ci cj hi => by simp at hi⟩
  have hle := h.le
  obtain ⟨F, junk, y2, y3, y4, y5, e, hFo, hFl⟩ := all_out (f := lotOf L) (C := callN P (k + 2)) (deck := some (deckD tags ones ap)) tags [] [[]] st none none none none h0 (by decide) (by simp only [List.length_nil]; omega)
  rw [List.nil_append] at hFo
  have htok := h.ok
  have hokF : ∀ o ∈ F, ∀ l ∈ o, ∀ c ∈ l, okC c = true := fun o ho => (hFo.part o ho).1.okC htok
  obtain ⟨G, hG⟩ : ∃ G, G = (F.filter (fitB ones ap)).map (sortG cellD) := ⟨_, rfl⟩
  have hGp : ∀ o ∈ G, Part tags o := fun o ho => by
    rw [hG] at ho
    obtain ⟨q, hq, rfl⟩ := List.mem_map.mp ho
    exact (hFo.part q (List.mem_filter.mp hq).1).1.sort
  have hGl : G.length ≤ 200000 := by
    rw [hG, List.length_map]
    exact Nat.le_trans (List.length_filter_le _ _) hFl
  have hGn : G ≠ [] := by
    obtain ⟨o, ho, hr⟩ := hFo.rep
    have := List.mem_map_of_mem (f := sortG cellD) (List.mem_filter.mpr ⟨ho, fitB_rep h hL hA2 (hFo.part o ho).1 hr⟩)
    rw [← hG] at this
    exact fun q => by rw [q] at this; cases this
  refine ⟨sortG ownD G, ?_, fun q => hGn (List.eq_nil_of_length_eq_zero (by rw [← (sortG_perm ownD G).length_eq, q]; rfl)), by rw [(sortG_perm ownD G).length_eq]; exact hGl, fun o ho => hGp o ((sortG_perm ownD G).mem_iff.mp ho)⟩
  refine call_keep (junk := junk) hP rfl (Nor.lst fun d hd => by obtain ⟨o, _, rfl⟩ := List.mem_map.mp hd; exact Nor.own o) hlow ?_
  refine (ss_set (d := .lst [.tup []]) (s1 := st) rfl).trans ?_
  refine (ss_for (s1 := st) (xs := strC tags) rfl e).trans (ss_ret ?_)
  have c1 : evE (callN P (k + 2)) (.comp false (.blt .tuple (.cons (.blt .sorted (.cons (.var 4) .nil)) .nil)) [4] (.it (.var 1)) (.cons (.call f (.cons (.var 0) (.cons (.var 4) .nil))) .nil) [4]) [some (deckD tags ones ap), some (.lst (F.map ownD)), y2, y3, y4, y5] (st ++ junk) = .ok (.lst (G.map ownD)) (st ++ junk) := by
    refine (ev_comp (s1 := st ++ junk) (s2 := st ++ junk) (xs := F.map ownD) rfl (by rw [List.length_map]; unfold big; omega) (comp_filter (h := ownD) (g := fun o => ownD (sortG cellD o)) (q := fitB ones ap) F fun o ho => ?_)).trans ?_
    · have hp := (hFo.part o ho).1
      refine cB_if (ρ1 := [some (deckD tags ones ap), some (.lst (F.map ownD)), y2, y3, some (ownD o), y5]) rfl ?_ ?_
      · rw [evE]
        show callN P (k + 2) f [deckD tags ones ap, ownD o] (st ++ junk) = _
        exact fits_ok hA hF (hokF o ho) (by have := hp.len; omega) htok hp.in h.ons h.aps (by have := h.on; omega) (by have := h.an; omega)
      · refine ev_blt (es1 (d := .lst ((sortG cellD o).map cellD)) (s1 := st ++ junk) (ev_blt (es1 (d := ownD o) (s1 := st ++ junk) rfl) ?_)) rfl
        show (if sortable (o.map cellD) then Rs.ok (D.lst (sortD (o.map cellD))) (st ++ junk) else .stuck) = _
        rw [if_pos (sortable_cells (hokF o ho) hp.ne), sortD_map]
    · unfold newList
      have := List.length_filter_le (fitB ones ap) F
      rw [if_pos (by rw [List.length_map]; unfold big; omega), hG, List.map_map]
      rfl
  refine ev_blt (es1 c1) ?_
  show (if sortable (G.map ownD) then Rs.ok (D.lst (sortD (G.map ownD))) (st ++ junk) else .stuck) = _
  rw [if_pos (sortable_owns (fun o ho => (hGp o ho).okC htok) fun o ho => (hGp o ho).cells_ne h.ne), sortD_map]
end Mi
end

section
set_option linter.all false
set_option maxRecDepth 100000
set_option autoImplicit false
/-! the helpers that many laws share: deeds -/
namespace Mi
inductive Deed where
  | put (t : Cs) (v : Int) | get (t s : Cs)
def putC : Cs := [112, 117, 116]
def getC : Cs := [103, 101, 116]
def spotsC : List Cs := [[107], [108], [109], [110], [111], [115], [116], [122, 111, 101]]
def Deed.l : Deed → List D
  | .put t v => [.str putC, .str t, .int v]
  | .get t s => [.str getC, .str t, .str s]
def deedD (d : Deed) : D := .tup d.l
def Deed.tag : Deed → Cs
  | .put t _ => t
  | .get t _ => t
def Deed.sp : Deed → Option Cs
  | .put _ _ => none
  | .get _ s => some s
def spotsOf (ds : List Deed) : List Cs := ds.filterMap Deed.sp
def deedsB (t o : Nat) : Ss := .cons (.ifs (.cmp .lt (.call t (.cons (.var 0) (.cons (.int 5) .nil))) (.int 3))
 (.cons (.expr (.mth .append (.var 5) (.cons (.tup (.cons (.str [112, 117, 116]) (.cons (.call o (.cons (.var 0) (.cons (.ix (.var 1) (.int 0)) .nil))) (.cons (.call o (.cons (.var 0) (.cons (.lst false (.cons (.int 0) (.cons (.int 1) (.cons (.int 2) (.cons (.neg (.int 5)) .nil))))) .nil))) .nil)))) .nil)))
  .nil)
 (.cons (.expr (.mth .append (.var 5) (.cons (.tup (.cons (.str [103, 101, 116]) (.cons (.call o (.cons (.var 0) (.cons (.ix (.var 1) (.int 0)) .nil))) (.cons (.ix (.var 4) (.var 3)) .nil)))) .nil)))
  .nil)) .nil
section
variable {P : List Fn} {t o p b n k : Nat} {st : Sto}
theorem ss_app2 {C : Nat → List D → Sto → Rs D} {ρ : Env} {s s1 : Sto} {e : E} {d : D} {ds : List D} {rest : Ss} {i n : Nat} (h : ρ[i]? = some (some (.ref n))) (hs0 : ∃ l, s[n]? = some (.lst l)) (he : evE C e ρ s = .ok d s1) (hs : s1[n]? = some (.lst ds)) (hl : ds.length < 1000000) :
    evSs C (.cons (.expr (.mth .append (.var i) (.cons e .nil))) rest) ρ s = evSs C rest ρ (s1.set n (.lst (ds ++ [d]))) := by
  obtain ⟨l, hs0⟩ := hs0
  refine ss_expr (d := .non) ?_
  rw [evE, evE, h]
  show (if recv s .append (.ref n) then _ else _) = _
  rw [if_pos (by simp only [recv, hs0]), es1 he, bok]
  simp only [mthD, hs]
  rw [if_pos (by unfold big; omega)]
theorem deeds_turn {tags sp : List Cs} {ones ap : List (Cs × Cs)} {x2 : Option D} {i : Nat} {ds : List Deed} (hT : P[t]? = some takeF) (hO : P[o]? = some (ofF t)) (hc : Cell st b n) (hn : n < 100000) (ht : tags ≠ []) (htl : tags.length ≤ 1000) (hi : i < sp.length) (hd : ds.length ≤ 1000) :
    ∃ d st', evSs (callN P (k + 2)) (deedsB t o) [some (.ref b), some (deckD tags ones ap), x2, some (.int i), some (.lst (strC sp)), some (.ref st.length)] (st ++ [.lst (ds.map deedD)]) = .ok (.nx [some (.ref b), some (deckD tags ones ap), x2, some (.int i), some (.lst (strC sp)), some (.ref st.length)]) (st' ++ [.lst ((ds ++ [d]).map deedD)])
      ∧ Mv st st' b ∧ Cell st' b (n + 3) ∧ d.tag ∈ tags ∧ (d.sp = none ∨ d.sp = sp[i]?) := by
  have hb := hc.lt
  obtain ⟨r, s', e1, hm, hc1, r0, r1⟩ := take_ok (k := k + 1) (m := 5) hT (hc.app (ex := [.lst (ds.map deedD)])) (by omega) (by decide) (by decide)
  obtain ⟨s1, rfl, hm1⟩ := hm.pre hb
  have hb1 : b < s1.length := by rw [hm1.len]; exact hb
  obtain ⟨d2, s', e2, hm, hc2, hd2⟩ := of_ok (k := k) (g := .tup (strC tags)) (ds := strC tags) hT hO hc1 (by omega) rfl (fun q => ht (by unfold strC at q; simpa using q)) (by rw [strs_len]; omega)
  obtain ⟨s2, rfl, hm2⟩ := hm.pre hb1
  have hb2 : b < s2.length := by rw [hm2.len]; exact hb1
  obtain ⟨tg, htg, rfl⟩ := List.mem_map.mp hd2
  have ec : evE (callN P (k + 2)) (.cmp .lt (.call t (.cons (.var 0) (.cons (.int 5) .nil))) (.int 3)) [some (.ref b), some (deckD tags ones ap), x2, some (.int i), some (.lst (strC sp)), some (.ref st.length)] (st ++ [.lst (ds.map deedD)]) = .ok (.bl (decide (r < 3))) (s1 ++ [.lst (ds.map deedD)]) := by
    have : evE (callN P (k + 2)) (.call t (.cons (.var 0) (.cons (.int 5) .nil))) [some (.ref b), some (deckD tags ones ap), x2, some (.int i), some (.lst (strC sp)), some (.ref st.length)] (st ++ [.lst (ds.map deedD)]) = .ok (.int r) (s1 ++ [.lst (ds.map deedD)]) := e1
    rw [evE, this]
    rfl
  have et : evE (callN P (k + 2)) (.call o (.cons (.var 0) (.cons (.ix (.var 1) (.int 0)) .nil))) [some (.ref b), some (deckD tags ones ap), x2, some (.int i), some (.lst (strC sp)), some (.ref st.length)] (s1 ++ [.lst (ds.map deedD)]) = .ok (.str tg) (s2 ++ [.lst (ds.map deedD)]) := e2
  have hlen1 : s1.length = st.length := hm1.len
  have hlen2 : s2.length = st.length := by rw [hm2.len, hlen1]
  by_cases hr : r < 3
  · obtain ⟨d3, s', e3, hm, hc3, hd3⟩ := of_ok (k := k) (g := .lst [.int 0, .int 1, .int 2, .int (-5)]) (ds := [.int 0, .int 1, .int 2, .int (-5)]) hT hO hc2 (by omega) rfl (by simp) (by decide)
    obtain ⟨s3, rfl, hm3⟩ := hm.pre hb2
    have hlen3 : s3.length = st.length := by rw [hm3.len, hlen2]
    obtain ⟨v, rfl⟩ : ∃ v, d3 = .int v := by
      simp only [List.mem_cons, List.not_mem_nil, or_false] at hd3
      rcases hd3 with rfl | rfl | rfl | rfl <;> exact ⟨_, rfl⟩
    refine ⟨.put tg v, s3, ?_, (hm1.trans hm2).trans hm3, hc3.of_app (by rw [hlen3]; exact hb), htg, .inl rfl⟩
    rw [decide_eq_true hr] at ec
    refine (ss_ifTn ec rfl (ρ1 := [some (.ref b), some (deckD tags ones ap), x2, some (.int i), some (.lst (strC sp)), some (.ref st.length)]) (s2 := s3 ++ [.lst ((ds ++ [Deed.put tg v]).map deedD)]) ?_).trans rfl
    have en : evE (callN P (k + 2)) (.call o (.cons (.var 0) (.cons (.lst false (.cons (.int 0) (.cons (.int 1) (.cons (.int 2) (.cons (.neg (.int 5)) .nil))))) .nil))) [some (.ref b), some (deckD tags ones ap), x2, some (.int i), some (.lst (strC sp)), some (.ref st.length)] (s2 ++ [.lst (ds.map deedD)]) = .ok (.int v) (s3 ++ [.lst (ds.map deedD)]) := e3
    refine (ss_app2 (n := st.length) (ds := ds.map deedD) rfl ⟨ds.map deedD, by rw [← hlen1]; exact get_last _ _⟩ (ev_tup (es_cons (d := .str putC) rfl (es_cons et (es1 en))) (by show 3 ≤ 10000; decide)) (by rw [← hlen3]; exact get_last _ _) (by rw [List.length_map]; omega)).trans ?_
    rw [← hlen3, set_last, List.map_append]
    rfl
  · have hsp : sp[i]? = some sp[i] := List.getElem?_eq_getElem hi
    refine ⟨.get tg sp[i], s2, ?_, hm1.trans hm2, (hc2.of_app (by rw [hlen2]; exact hb)).mono (by omega), htg, .inr hsp.symm⟩
    rw [decide_eq_false hr] at ec
    refine (ss_ifFn ec rfl (ρ1 := [some (.ref b), some (deckD tags ones ap), x2, some (.int i), some (.lst (strC sp)), some (.ref st.length)]) (s2 := s2 ++ [.lst ((ds ++ [Deed.get tg sp[i]]).map deedD)]) ?_).trans rfl
    have en : evE (callN P (k + 2)) (.ix (.var 4) (.var 3)) [some (.ref b), some (deckD tags ones ap), x2, some (.int i), some (.lst (strC sp)), some (.ref st.length)] (s2 ++ [.lst (ds.map deedD)]) = .ok (.str sp[i]) (s2 ++ [.lst (ds.map deedD)]) := by
      show ixD (s2 ++ [.lst (ds.map deedD)]) (.lst (strC sp)) (.int i) = _
      exact ix_seq (g := .lst _) rfl (by omega) (by rw [Int.toNat_natCast]; unfold strC; rw [List.getElem?_map, hsp]; rfl) _
    refine (ss_app2 (n := st.length) (ds := ds.map deedD) rfl ⟨ds.map deedD, by rw [← hlen1]; exact get_last _ _⟩ (ev_tup (es_cons (d := .str getC) rfl (es_cons et (es1 en))) (by show 3 ≤ 10000; decide)) (by rw [← hlen2]; exact get_last _ _) (by rw [List.length_map]; omega)).trans ?_
    rw [← hlen2, set_last, List.map_append]
    rfl
theorem deeds_loop {tags sp : List Cs} {ones ap : List (Cs × Cs)} {x2 : Option D} (hT : P[t]? = some takeF) (hO : P[o]? = some (ofF t)) (ht : tags ≠ []) (htl : tags.length ≤ 1000) (hsl : sp.length ≤ 100) : ∀ (c i n : Nat) (ds : List Deed) (st : Sto) (x3 : Option D), Cell st b n → n + 3 * c < 100000 → i + c ≤ sp.length → ds.length ≤ i → (spotsOf ds).Sublist (sp.take i) → (∀ d ∈ ds, d.tag ∈ tags) →
    ∃ ds' st' y3, forL [3] (evSs (callN P (k + 2)) (deedsB t o)) (rngD i c) [some (.ref b), some (deckD tags ones ap), x2, x3, some (.lst (strC sp)), some (.ref st.length)] (st ++ [.lst (ds.map deedD)]) = .ok (.nx [some (.ref b), some (deckD tags ones ap), x2, y3, some (.lst (strC sp)), some (.ref st.length)]) (st' ++ [.lst (ds'.map deedD)])
      ∧ Mv st st' b ∧ Cell st' b (n + 3 * c) ∧ ds'.length ≤ i + c ∧ (spotsOf ds').Sublist (sp.take (i + c)) ∧ (∀ d ∈ ds', d.tag ∈ tags)
  | 0, i, n, ds, st, x3, hc, hn, hi, hd, hs, hg => ⟨ds, st, x3, by simp [rngD, forL], .refl hc, hc, by omega, hs, hg⟩
  | c + 1, i, n, ds, st, x3, hc, hn, hi, hd, hs, hg => by
    obtain ⟨d, s1, e1, hm1, hc1, htg, hsp⟩ := deeds_turn (k := k) (ones := ones) (ap := ap) (x2 := x2) (i := i) (ds := ds) (sp := sp) hT hO hc (by omega) ht htl (by omega) (by omega)
    have hs' : (spotsOf (ds ++ [d])).Sublist (sp.take (i + 1)) := by
      unfold spotsOf at hs ⊢
      rw [List.filterMap_append, List.take_succ]
      rcases hsp with e | e
      · rw [List.filterMap_cons, e, List.filterMap_nil, List.append_nil]
        exact hs.trans (List.sublist_append_left _ _)
      · rw [← e]
        refine hs.append ?_
        rw [List.filterMap_cons]
        cases d.sp <;> exact .refl _
    obtain ⟨ds', s2, y3, e2, hm2, hc2, h4, h5, h6⟩ := deeds_loop hT hO ht htl hsl c (i + 1) (n + 3) (ds ++ [d]) s1 (some (.int i)) hc1 (by omega) (by omega) (by rw [List.length_append]; simp only [List.length_cons, List.length_nil]; omega) hs' (fun q hq => by
      rcases List.mem_append.mp hq with hq | hq
      · exact hg q hq
      · rw [List.mem_singleton.mp hq]; exact htg)
    refine ⟨ds', s2, y3, ?_, hm1.trans hm2, hc2.mono (by omega), by omega, by rw [show i + (c + 1) = i + 1 + c by omega]; exact h5, h6⟩
    rw [rngD_succ]
    rw [hm1.len] at e2
    rw [show ((i : Int) + 1) = ((i + 1 : Nat) : Int) by omega]
    exact (forL_nx rfl e1).trans e2
theorem deeds_ok {dd m : Nat} {tags : List Cs} {ones ap : List (Cs × Cs)} (hT : P[t]? = some takeF) (hO : P[o]? = some (ofF t)) (hK : P[p]? = some (pickF t)) (hP : P[dd]? = some (deedsF t o p)) (hc : Cell st b n) (hlow : Low st) (hn : n < 50000) (ht : tags ≠ []) (htl : tags.length ≤ 1000) (hm : m ≤ 8) :
    ∃ ds st', callN P (k + 3) dd [.ref b, deckD tags ones ap, .int m] st = .ok (.tup (ds.map deedD)) st' ∧ Mv st st' b ∧ Cell st' b (n + 100) ∧ ds.length ≤ 8 ∧ (spotsOf ds).Nodup ∧ (∀ s ∈ spotsOf ds, s ∈ spotsC) ∧ (∀ d ∈ ds, d.tag ∈ tags) := by
  have hb := hc.lt
  have hnx : ∀ x ∈ strC spotsC, Nor x := Nor.strC _
  obtain ⟨ys, rest, s1, e1, m1, c1, hp, hyl⟩ := pick_ok (k := k) (m := 8) (xs := strC spotsC) hT hK hc hlow (by omega) (by decide) (by omega) hnx
  obtain ⟨m', hp', e3⟩ := perm_map_inv (f := D.str) hp spotsC rfl
  obtain ⟨sp, rc, e4, e5, e6⟩ := List.append_eq_map_iff.mp e3
  subst e4 e5 e6
  rw [List.length_map] at hyl
  have hsl : sp.length = 8 := by rw [hyl]; rfl
  have hsub : ∀ c ∈ sp, c ∈ spotsC := fun c h => hp'.mem_iff.mp (List.mem_append_left _ h)
  have hnd : sp.Nodup := (List.nodup_append.mp (hp'.nodup_iff.mpr (by decide))).1
  have hb1 : b < s1.length := by rw [m1.len]; exact hb
  obtain ⟨r, s', e7, hm, hc2, r0, r1⟩ := take_ok (k := k + 1) (m := (m : Int) + 1) hT (c1.app (ex := [.lst []])) (by show n + 8 < _; omega) (by omega) (by omega)
  obtain ⟨s2, rfl, hm2⟩ := hm.pre hb1
  have hb2 : b < s2.length := by rw [hm2.len]; exact hb1
  obtain ⟨N, hN⟩ : ∃ N : Nat, (N : Int) = r := ⟨r.toNat, by omega⟩
  have hlen2 : s2.length = st.length := by rw [hm2.len, m1.len]
  have c2 : Cell s2 b (n + 9) := (hc2.of_app hb2).mono (by show n + 8 + 1 ≤ _; omega)
  obtain ⟨ds, s3, y3, e8, hm3, c3, hdl, hds, hdt⟩ := deeds_loop (k := k) (tags := tags) (sp := sp) (ones := ones) (ap := ap) (x2 := some (.int m)) hT hO ht htl (by omega) N 0 (n + 9) [] s2 none c2 (by omega) (by omega) (by simp) (List.nil_sublist _) (by simp)
  have hlen3 : s3.length = st.length := by rw [hm3.len, hlen2]
  have hmv := (m1.trans hm2).trans hm3
  have hsb : (spotsOf ds).Sublist sp := hds.trans (List.take_sublist _ _)
  refine ⟨ds, s3, ?_, hmv, c3.mono (by omega), by omega, hnd.sublist hsb, fun q hq => hsub q (hsb.subset hq), hdt⟩
  have et : ((s3 ++ [Ob.lst (ds.map deedD)]).take st.length) = s3 := by rw [← hlen3]; simp
  refine Eq.trans (call_rt2 (s1 := s3 ++ [.lst (ds.map deedD)]) (d := .tup (ds.map deedD)) hP rfl (by rw [List.length_append, hlen3]; simp) (Nor.tup (fun d hd => by
    obtain ⟨q, _, rfl⟩ := List.mem_map.mp hd
    cases q <;> exact fun _ => rfl) _) (by rw [et]; exact hmv.low hlow _) ?_) (by rw [et])
  have e9 : evE (callN P (k + 2)) (.call p (.cons (.var 0) (.cons (.lst false (.cons (.str [107]) (.cons (.str [108]) (.cons (.str [109]) (.cons (.str [110]) (.cons (.str [111]) (.cons (.str [115]) (.cons (.str [116]) (.cons (.str [122, 111, 101]) .nil))))))))) (.cons (.int 8) .nil)))) [some (.ref b), some (deckD tags ones ap), some (.int m), none, none, none] st = .ok (.lst (strC sp)) s1 := e1
  refine (ss_unp (d := .tup [.lst (strC sp), .ref st.length]) (s1 := s1 ++ [.lst []]) (ρ1 := [some (.ref b), some (deckD tags ones ap), some (.int m), none, some (.lst (strC sp)), some (.ref st.length)]) ?_ rfl).trans ?_
  · refine ev_tup (es_cons e9 (es1 ?_)) (by show 2 ≤ 10000; decide)
    rw [← m1.len]
    rfl
  have e10 : evR (callN P (k + 2)) (.rng (.call t (.cons (.var 0) (.cons (.bin .add (.var 2) (.int 1)) .nil)))) [some (.ref b), some (deckD tags ones ap), some (.int m), none, some (.lst (strC sp)), some (.ref st.length)] (s1 ++ [.lst []]) = .ok (rngD 0 N) (s2 ++ [.lst []]) := by
    have : evE (callN P (k + 2)) (.call t (.cons (.var 0) (.cons (.bin .add (.var 2) (.int 1)) .nil))) [some (.ref b), some (deckD tags ones ap), some (.int m), none, some (.lst (strC sp)), some (.ref st.length)] (s1 ++ [.lst []]) = .ok (.int r) (s2 ++ [.lst []]) := e7
    rw [evR, this, bok]
    show (if _ then _ else _) = _
    rw [if_pos (by omega), ← hN, Int.toNat_natCast]
  rw [hlen2] at e8
  refine (ss_for e10 e8).trans (ss_ret ?_)
  refine ev_blt (es1 (d := .ref st.length) (s1 := s3 ++ [.lst (ds.map deedD)]) rfl) ?_
  show (match seqOf _ _ with | some ds => _ | none => _) = _
  simp only [seqOf]
  rw [← hlen3, get_last]
end
end Mi
end

section
set_option linter.all false
set_option maxRecDepth 100000
set_option autoImplicit false
/-! the helpers that many laws share: done -/
namespace Mi
theorem look_repl (k k' : K2) (v : D) : ∀ (ks : List K2) (ds : List D), ks.length = ds.length → look k ks (repl k' v ks ds) = if k' ∈ ks ∧ k' = k then some v else look k ks ds
  | [], [], _ => by simp [look, repl]
  | j :: ks, d :: ds, h => by
    simp only [List.length_cons, Nat.add_right_cancel_iff] at h
    rw [repl, look, look, look_repl k k' v ks ds h]
    by_cases e : j = k
    · subst e
      rw [if_pos rfl, if_pos rfl]
      by_cases e2 : j = k'
      · subst e2
        rw [if_pos rfl, if_pos ⟨List.mem_cons_self, rfl⟩]
      · rw [if_neg e2, if_neg (fun q => e2 q.2.symm)]
    · rw [if_neg e, if_neg e]
      by_cases e2 : k' = k
      · subst e2
        by_cases e3 : k' ∈ ks
        · rw [if_pos ⟨e3, rfl⟩, if_pos ⟨List.mem_cons_of_mem _ e3, rfl⟩]
        · rw [if_neg (fun q => e3 q.1), if_neg (fun q => by
            rcases List.mem_cons.mp q.1 with h | h
            · exact e h.symm
            · exact e3 h)]
      · rw [if_neg (fun q => e2 q.2), if_neg (fun q => e2 q.2)]
  | [], _ :: _, h => by simp at h
  | _ :: _, [], h => by simp at h
theorem look_app (k : K2) : ∀ (a b : List K2) (da db : List D), a.length = da.length → look k (a ++ b) (da ++ db) = (look k a da).or (look k b db)
  | [], _, [], _, _ => rfl
  | j :: a, b, d :: da, db, h => by
    simp only [List.length_cons, Nat.add_right_cancel_iff] at h
    rw [List.cons_append, List.cons_append, look, look, look_app k a b da db h]
    split <;> rfl
  | [], _, _ :: _, _, h => by simp at h
  | _ :: _, _, [], _, h => by simp at h
theorem look_none {k : K2} : ∀ {ks : List K2} {ds : List D}, k ∉ ks → look k ks ds = none
  | [], _, _ => by simp [look]
  | j :: ks, [], _ => by simp [look]
  | j :: ks, d :: ds, h => by
    rw [look, if_neg (fun q => h (by rw [q]; exact List.mem_cons_self)), look_none fun q => h (List.mem_cons_of_mem _ q)]
theorem any_mem {k : K2} {ks : List K2} : ks.any (fun j => decide (j = k)) = true ↔ k ∈ ks := by
  rw [List.any_eq_true]
  constructor
  · rintro ⟨x, hx, e⟩
    rw [decide_eq_true_eq] at e
    exact e ▸ hx
  · exact fun h => ⟨k, h, decide_eq_true rfl⟩
theorem putK_new {k : K2} {v : D} {ks : List K2} {ds : List D} (h : k ∉ ks) : putK k v ks ds = (ks ++ [k], ds ++ [v]) := by
  unfold putK
  rw [if_neg (fun q => h (any_mem.mp q))]
theorem replL (k : K2) (v : D) : ∀ (ks : List K2) (ds : List D), (repl k v ks ds).length = ds.length
  | [], _ => by simp [repl]
  | _ :: _, [] => by simp [repl]
  | j :: ks, d :: ds => by simp only [repl, List.length_cons, replL k v ks ds]
theorem look_putK {k k' : K2} {v : D} {ks : List K2} {ds : List D} (h : ks.length = ds.length) : look k (putK k' v ks ds).1 (putK k' v ks ds).2 = (if k' = k then some v else look k ks ds) ∧ (putK k' v ks ds).1.length = (putK k' v ks ds).2.length ∧ (putK k' v ks ds).1.length ≤ ks.length + 1 := by
  by_cases e : k' ∈ ks
  · unfold putK
    rw [if_pos (any_mem.mpr e)]
    refine ⟨?_, by rw [replL]; exact h, by simp⟩
    rw [look_repl k k' v ks ds h]
    by_cases e2 : k' = k
    · rw [if_pos ⟨e, e2⟩, if_pos e2]
    · rw [if_neg (fun q => e2 q.2), if_neg e2]
  · rw [putK_new e]
    refine ⟨?_, by simp [h], by simp⟩
    show look k (ks ++ [k']) (ds ++ [v]) = _
    rw [look_app k ks [k'] ds [v] h]
    by_cases e2 : k' = k
    · subst e2
      rw [look_none e, if_pos rfl]
      simp [look]
    · rw [if_neg e2]
      simp [look, if_neg e2]
/-- a dict by names -/
def HD (h : Cs → Option Int) (ks : List K2) (ds : List D) : Prop := ks.length = ds.length ∧ ∀ c, look (.ks c) ks ds = (h c).map D.int
def setH (h : Cs → Option Int) (l : List Cs) (v : Int) : Cs → Option Int := fun c => if l.contains c then some v else h c
/-- the law's run of deeds -/
def runH (own : Cs → List Cs) : (Cs → Option Int) × List (Cs × Int) → Deed → (Cs → Option Int) × List (Cs × Int)
  | (h, T), .put t v => (setH h (own t) v, T)
  | (h, T), .get t s => (h, match h t with | some v => T ++ [(s, v)] | none => T)
def tD (p : Cs × Int) : D := .tup [.str p.1, .int p.2]
def doneI : Ss := .cons (.setix (.var 3) (.var 8) (.var 7)) .nil
def doneB (a : Nat) : Ss := .cons (.ifs (.cmp .eq (.var 5) (.str [112, 117, 116]))
 (.cons (.for_ [8] (.it (.call a (.cons (.var 2) (.cons (.var 6) .nil)))) doneI)
  .nil)
 (.cons (.ifs (.cmp .isin (.var 6) (.var 3))
 (.cons (.expr (.mth .append (.var 4) (.cons (.tup (.cons (.var 7) (.cons (.ix (.var 3) (.var 6)) .nil))) .nil)))
  .nil)
 .nil)
  .nil)) .nil
theorem eqv_str (a b : Cs) : D.eqv (.str a) (.str b) = (a == b) := by simp [D.eqv]
section
variable {P : List Fn} {k a : Nat} {st : Sto} {x0 x1 x5 x6 x7 x8 : Option D} {o : List (List Cs)}
theorem done_in {C : Nat → List D → Sto → Rs D} {x2 : Option D} {v : Int} {told : List D} : ∀ (cs : List Cs) (h : Cs → Option Int) (ks : List K2) (ds : List D) (x8 : Option D), HD h ks ds → ks.length + cs.length ≤ 100000 →
    ∃ ks' ds' y8, forL [8] (evSs C doneI) (strC cs) [x0, x1, x2, some (.ref st.length), some (.ref (st.length + 1)), x5, x6, some (.int v), x8] (st ++ [.dct ks ds, .lst told]) = .ok (.nx [x0, x1, x2, some (.ref st.length), some (.ref (st.length + 1)), x5, x6, some (.int v), y8]) (st ++ [.dct ks' ds', .lst told]) ∧ HD (setH h cs v) ks' ds' ∧ ks'.length ≤ ks.length + cs.length
  | [], h, ks, ds, x8, hh, hl => ⟨ks, ds, x8, rfl, hh, by simp⟩
  | c :: cs, h, ks, ds, x8, hh, hl => by
    rw [List.length_cons] at hl
    have hp := fun k => look_putK (k := k) (k' := .ks c) (v := .int v) hh.1
    have h1 : HD (setH h [c] v) (putK (.ks c) (.int v) ks ds).1 (putK (.ks c) (.int v) ks ds).2 := ⟨(hp (.ks c)).2.1, fun c' => by
      rw [(hp (.ks c')).1, hh.2 c']
      unfold setH
      by_cases e : c = c'
      · subst e
        rw [if_pos rfl, if_pos (by simp)]
        rfl
      · rw [if_neg (fun q => e (by cases q; rfl)), if_neg (by simp; exact fun q => e q.symm)]⟩
    have hl2 := (hp (.ks c)).2.2
    obtain ⟨ks', ds', y8, e, h2, hl3⟩ := done_in (C := C) (x2 := x2) (v := v) (told := told) cs (setH h [c] v) _ _ (some (.str c)) h1 (by omega)
    refine ⟨ks', ds', y8, ?_, ?_, by rw [List.length_cons]; omega⟩
    · refine (forL_nx (x := .str c) (xs := strC cs) (ρ2 := [x0, x1, x2, some (.ref st.length), some (.ref (st.length + 1)), x5, x6, some (.int v), some (.str c)]) (s1 := st ++ [.dct (putK (.ks c) (.int v) ks ds).1 (putK (.ks c) (.int v) ks ds).2, .lst told]) rfl ?_).trans e
      refine (ss_setix (d := .int v) (v := .ref st.length) (w := .str c) (s1 := st ++ [.dct ks ds, .lst told]) (s2 := st ++ [.dct ks ds, .lst told]) (s3 := st ++ [.dct ks ds, .lst told]) (s4 := st ++ [.dct (putK (.ks c) (.int v) ks ds).1 (putK (.ks c) (.int v) ks ds).2, .lst told]) rfl rfl rfl ?_).trans rfl
      simp only [setD, g0, K2.of]
      rw [if_pos (by unfold big; omega), u0]
    · have : setH (setH h [c] v) cs v = setH h (c :: cs) v := by
        funext c'
        have e1 : (c :: cs).contains c' = (c' == c || cs.contains c') := List.contains_cons
        have e2 : [c].contains c' = (c' == c) := by rw [List.contains_cons, List.contains_nil, Bool.or_false]
        unfold setH
        rw [e1, e2]
        cases c' == c <;> cases cs.contains c' <;> rfl
      rw [← this]
      exact h2
theorem done_turn {tags : List Cs} {told : List (Cs × Int)} {h : Cs → Option Int} {ks : List K2} {dv : List D} {d : Deed} (hA : P[a]? = some atF) (ho : ∀ l ∈ o, ∀ c ∈ l, okC c = true) (hn : o.length ≤ 1000) (ht : ∀ c ∈ tags, okC c = true) (hin : ∀ t ∈ tags, ∃ l ∈ o, t ∈ l) (hl : ∀ l ∈ o, l.length ≤ 1000)
    (hh : HD h ks dv) (hk : ks.length ≤ 50000) (htl : told.length ≤ 1000) (hd : d.tag ∈ tags) :
    ∃ ks' dv' y5 y6 y7 y8, (∀ ρ1, tgt [5, 6, 7] (deedD d) [x0, x1, some (ownD o), some (.ref st.length), some (.ref (st.length + 1)), x5, x6, x7, x8] = some ρ1 → evSs (callN P (k + 1)) (doneB a) ρ1 (st ++ [.dct ks dv, .lst (told.map tD)]) = .ok (.nx [x0, x1, some (ownD o), some (.ref st.length), some (.ref (st.length + 1)), y5, y6, y7, y8]) (st ++ [.dct ks' dv', .lst ((runH (owC o) (h, told) d).2.map tD)]))
      ∧ HD (runH (owC o) (h, told) d).1 ks' dv' ∧ ks'.length ≤ ks.length + 1000 := by
  cases d with
  | put t v =>
    have htt := hd
    have e1 : evE (callN P (k + 1)) (.call a (.cons (.var 2) (.cons (.var 6) .nil))) [x0, x1, some (ownD o), some (.ref st.length), some (.ref (st.length + 1)), some (.str putC), some (.str t), some (.int v), x8] (st ++ [.dct ks dv, .lst (told.map tD)]) = .ok (cellD (owC o t)) (st ++ [.dct ks dv, .lst (told.map tD)]) := by
      rw [evE]
      show callN P (k + 1) a [ownD o, .str t] _ = _
      exact at_ok hA ho (by omega) (ht t htt) (hin t htt)
    obtain ⟨_, _, hm, _⟩ := ownOf_spec (hin t htt)
    have hol := hl _ hm
    obtain ⟨ks', ds', y8, e2, h2, h3⟩ := done_in (C := callN P (k + 1)) (st := st) (x0 := x0) (x1 := x1) (x2 := some (ownD o)) (x5 := some (.str putC)) (x6 := some (.str t)) (v := v) (told := told.map tD) (owC o t) h ks dv x8 hh (by omega)
    refine ⟨ks', ds', some (.str putC), some (.str t), some (.int v), y8, fun ρ1 hρ => ?_, h2, by omega⟩
    cases hρ
    refine (ss_ifTn (d := .bl true) (s1 := st ++ [.dct ks dv, .lst (told.map tD)]) rfl rfl (ρ1 := [x0, x1, some (ownD o), some (.ref st.length), some (.ref (st.length + 1)), some (.str putC), some (.str t), some (.int v), y8]) (s2 := st ++ [.dct ks' ds', .lst (told.map tD)]) ?_).trans rfl
    refine (ss_for (s1 := st ++ [.dct ks dv, .lst (told.map tD)]) (xs := strC (owC o t)) ?_ e2).trans rfl
    rw [evR]
    exact (congrArg (fun z => Rs.bind z _) e1).trans rfl
  | get t s =>
    have hk1 : keyed (st ++ [.dct ks dv, .lst (told.map tD)]) (.str t) (.ref st.length) = some ((h t).map D.int) := by
      simp only [keyed, K2.of, dctOf, g0, hh.2]
    have hin2 : inD (st ++ [.dct ks dv, .lst (told.map tD)]) (.str t) (.ref st.length) = some (h t).isSome := by
      simp only [inD, seqOf, g0, hk1, Option.map_some, Option.isSome_map]
    refine ⟨ks, dv, some (.str getC), some (.str t), some (.str s), x8, fun ρ1 hρ => ?_, hh, by omega⟩
    cases hρ
    have ec : evE (callN P (k + 1)) (.cmp .isin (.var 6) (.var 3)) [x0, x1, some (ownD o), some (.ref st.length), some (.ref (st.length + 1)), some (.str getC), some (.str t), some (.str s), x8] (st ++ [.dct ks dv, .lst (told.map tD)]) = .ok (.bl (h t).isSome) (st ++ [.dct ks dv, .lst (told.map tD)]) := by
      show ofB _ (inD _ (.str t) (.ref st.length)) = _
      rw [hin2]
      rfl
    refine (ss_ifFn (d := .bl false) (s1 := st ++ [.dct ks dv, .lst (told.map tD)]) rfl rfl (ρ1 := [x0, x1, some (ownD o), some (.ref st.length), some (.ref (st.length + 1)), some (.str getC), some (.str t), some (.str s), x8]) (s2 := st ++ [.dct ks dv, .lst ((runH (owC o) (h, told) (.get t s)).2.map tD)]) ?_).trans rfl
    cases e : h t with
    | none =>
      rw [e] at ec
      have hR : runH (owC o) (h, told) (.get t s) = (h, told) := by simp only [runH, e]
      rw [hR]
      exact (ss_ifF0 ec rfl).trans rfl
    | some v =>
      rw [e] at ec hk1
      have hR : runH (owC o) (h, told) (.get t s) = (h, told ++ [(s, v)]) := by simp only [runH, e]
      rw [hR]
      refine (ss_ifTn ec rfl (ρ1 := [x0, x1, some (ownD o), some (.ref st.length), some (.ref (st.length + 1)), some (.str getC), some (.str t), some (.str s), x8]) (s2 := st ++ [.dct ks dv, .lst ((told ++ [(s, v)]).map tD)]) ?_).trans rfl
      have ev : evE (callN P (k + 1)) (.ix (.var 3) (.var 6)) [x0, x1, some (ownD o), some (.ref st.length), some (.ref (st.length + 1)), some (.str getC), some (.str t), some (.str s), x8] (st ++ [.dct ks dv, .lst (told.map tD)]) = .ok (.int v) (st ++ [.dct ks dv, .lst (told.map tD)]) := by
        show ixD (st ++ [.dct ks dv, .lst (told.map tD)]) (.ref st.length) (.str t) = _
        simp only [ixD, seqOf, g0, hk1, Option.map_some]
      refine (ss_app (n := st.length + 1) (ds := told.map tD) rfl g1 (ev_tup (es_cons (d := .str s) rfl (es1 ev)) (by show 2 ≤ 10000; decide)) (by rw [List.length_map]; omega)).trans ?_
      rw [u1, List.map_append]
      rfl
theorem runH_len (own : Cs → List Cs) (q : (Cs → Option Int) × List (Cs × Int)) (d : Deed) : (runH own q d).2.length ≤ q.2.length + 1 := by
  obtain ⟨h, T⟩ := q
  cases d with
  | put t v => simp [runH]
  | get t s =>
    cases e : h t <;> simp [runH, e]
theorem done_loop {tags : List Cs} (hA : P[a]? = some atF) (ho : ∀ l ∈ o, ∀ c ∈ l, okC c = true) (hn : o.length ≤ 1000) (ht : ∀ c ∈ tags, okC c = true) (hin : ∀ t ∈ tags, ∃ l ∈ o, t ∈ l) (hl : ∀ l ∈ o, l.length ≤ 1000) :
    ∀ (ds : List Deed) (told : List (Cs × Int)) (h : Cs → Option Int) (ks : List K2) (dv : List D) (x5 x6 x7 x8 : Option D), HD h ks dv → ks.length + 1000 * ds.length ≤ 50000 → told.length + ds.length ≤ 1000 → (∀ d ∈ ds, d.tag ∈ tags) →
    ∃ ks' dv' y5 y6 y7 y8, forL [5, 6, 7] (evSs (callN P (k + 1)) (doneB a)) (ds.map deedD) [x0, x1, some (ownD o), some (.ref st.length), some (.ref (st.length + 1)), x5, x6, x7, x8] (st ++ [.dct ks dv, .lst (told.map tD)]) = .ok (.nx [x0, x1, some (ownD o), some (.ref st.length), some (.ref (st.length + 1)), y5, y6, y7, y8]) (st ++ [.dct ks' dv', .lst ((ds.foldl (runH (owC o)) (h, told)).2.map tD)])
      ∧ HD (ds.foldl (runH (owC o)) (h, told)).1 ks' dv' ∧ (ds.foldl (runH (owC o)) (h, told)).2.length ≤ 1000
  | [], told, h, ks, dv, x5, x6, x7, x8, hh, hk, hq, hd => ⟨ks, dv, x5, x6, x7, x8, rfl, hh, by simpa using hq⟩
  | d :: ds, told, h, ks, dv, x5, x6, x7, x8, hh, hk, hq, hd => by
    rw [List.length_cons] at hk hq
    obtain ⟨ks1, dv1, z5, z6, z7, z8, e1, h1, h2⟩ := done_turn (k := k) (st := st) (x0 := x0) (x1 := x1) (x5 := x5) (x6 := x6) (x7 := x7) (x8 := x8) (told := told) hA ho hn ht hin hl hh (by omega) (by omega) (hd d List.mem_cons_self)
    have hlen := runH_len (owC o) (h, told) d
    obtain ⟨ks', dv', y5, y6, y7, y8, e2, h3, h4⟩ := done_loop hA ho hn ht hin hl ds (runH (owC o) (h, told) d).2 (runH (owC o) (h, told) d).1 ks1 dv1 z5 z6 z7 z8 h1 (by omega) (by simp only at hlen; omega) fun q hq => hd q (List.mem_cons_of_mem _ hq)
    refine ⟨ks', dv', y5, y6, y7, y8, ?_, h3, h4⟩
    rw [List.map_cons, List.foldl_cons]
    have : ∃ ρ1, tgt [5, 6, 7] (deedD d) [x0, x1, some (ownD o), some (.ref st.length), some (.ref (st.length + 1)), x5, x6, x7, x8] = some ρ1 := by cases d <;> exact ⟨_, rfl⟩
    obtain ⟨ρ1, hρ⟩ := this
    exact (forL_nx hρ (e1 ρ1 hρ)).trans e2
end
end Mi
end

section
set_option linter.all false
set_option maxRecDepth 100000
set_option autoImplicit false
/-! the helpers that many laws share: done -/
namespace Mi
theorem cB_no {C : Nat → List D → Sto → Rs D} {ρ ρ1 : Env} {s : Sto} {elt c : E} {tg : List Nat} {d : D} (ht : tgt tg d ρ = some ρ1) (hc : evE C c ρ1 s = .ok (.bl false) s) : cB C elt tg (.cons c .nil) ρ d s = .ok none s := by
  simp only [cB, ht, evTs, hc, tst, bok, truth, lift, Bool.false_eq_true, if_false]
theorem run_spots (own : Cs → List Cs) : ∀ (ds : List Deed) (q : (Cs → Option Int) × List (Cs × Int)), ∀ p ∈ (ds.foldl (runH own) q).2, p ∈ q.2 ∨ p.1 ∈ spotsOf ds
  | [], q, p, h => .inl h
  | d :: ds, (h, T), p, hp => by
    rw [List.foldl_cons] at hp
    have e : spotsOf (d :: ds) = (match d.sp with | some s => s :: spotsOf ds | none => spotsOf ds) := by
      unfold spotsOf
      rw [List.filterMap_cons]
      cases d.sp <;> rfl
    rcases run_spots own ds _ p hp with h1 | h1
    · cases d with
      | put t v => exact .inl h1
      | get t s =>
        cases e2 : h t with
        | none =>
          have hR : runH own (h, T) (.get t s) = (h, T) := by simp only [runH, e2]
          rw [hR] at h1
          exact .inl h1
        | some v =>
          have hR : runH own (h, T) (.get t s) = (h, T ++ [(s, v)]) := by simp only [runH, e2]
          rw [hR] at h1
          rcases List.mem_append.mp h1 with h1 | h1
          · exact .inl h1
          · rw [List.mem_singleton.mp h1, e]
            exact .inr List.mem_cons_self
    · right
      rw [e]
      cases d.sp with
      | none => exact h1
      | some s => exact List.mem_cons_of_mem _ h1
theorem sortable_tD {l : List (Cs × Int)} (h : ∀ q ∈ l, okC q.1 = true) : sortable (l.map tD) = true := by
  unfold sortable
  simp only [Bool.and_eq_true, Bool.or_eq_true, List.all_eq_true]
  refine ⟨⟨fun d hd => ?_, fun d hd e he => ?_⟩, .inl fun d hd => ?_⟩
  · obtain ⟨c, hc, rfl⟩ := List.mem_map.mp hd
    exact pl_tupA (n := 59) fun d hd => by
      rcases List.mem_cons.mp hd with rfl | hd
      · exact pl_str (h c hc)
      · rw [List.mem_singleton.mp hd]; rfl
  · obtain ⟨c, _, rfl⟩ := List.mem_map.mp hd
    obtain ⟨c', _, rfl⟩ := List.mem_map.mp he
    simp [tD, D.alike, D.alikes]
  · obtain ⟨c, hc, rfl⟩ := List.mem_map.mp hd
    rfl
/-- what a row of deeds tells and leaves, as the law sees it -/
def outD (tags : List Cs) (h : Cs → Option Int) (T : List (Cs × Int)) : D := .tup [.tup (sortD (T.map tD)), .tup ((tags.filter fun c => (h c).isSome).map fun c => tD (c, (h c).getD 0))]
theorem Nor.tD (p : Cs × Int) : Nor (tD p) := Nor.tup fun d hd => by
  rcases List.mem_cons.mp hd with rfl | hd
  · exact fun _ => rfl
  · rw [List.mem_singleton.mp hd]; exact fun _ => rfl
theorem Nor.out (tags : List Cs) (h : Cs → Option Int) (T : List (Cs × Int)) : Nor (outD tags h T) := Nor.tup fun d hd => by
  rcases List.mem_cons.mp hd with rfl | hd
  · refine Nor.tup fun d hd => ?_
    have := (sortD_perm (T.map Mi.tD)).mem_iff.mp hd
    obtain ⟨q, _, rfl⟩ := List.mem_map.mp this
    exact Nor.tD q
  · rw [List.mem_singleton.mp hd]
    refine Nor.tup fun d hd => ?_
    obtain ⟨c, _, rfl⟩ := List.mem_map.mp hd
    exact Nor.tD _
section
variable {P : List Fn} {k a dn : Nat} {st : Sto}
theorem done_ok {tags : List Cs} {ones ap : List (Cs × Cs)} {o : List (List Cs)} {ds : List Deed} (hA : P[a]? = some atF) (hP : P[dn]? = some (doneF a)) (hp : Part tags o) (ht : ∀ c ∈ tags, okC c = true) (htl : tags.length ≤ 1000) (hd : ∀ d ∈ ds, d.tag ∈ tags) (hs : ∀ s ∈ spotsOf ds, okC s = true) (hdl : ds.length ≤ 20) (hlow : Low st) :
    callN P (k + 2) dn [deckD tags ones ap, .tup (ds.map deedD), ownD o] st = .ok (outD tags (ds.foldl (runH (owC o)) (fun _ => none, [])).1 (ds.foldl (runH (owC o)) (fun _ => none, [])).2) st := by
  have hh0 : HD (fun _ => none) [] [] := ⟨rfl, fun _ => rfl⟩
  have hol := hp.len
  obtain ⟨ks, dv, y5, y6, y7, y8, e, hh, hTl⟩ := done_loop (k := k) (st := st) (x0 := some (deckD tags ones ap)) (x1 := some (.tup (ds.map deedD))) (o := o) hA (hp.okC ht) (by omega) ht hp.in (fun l hl => by
    have h1 : l.length ≤ o.flatten.length := (List.sublist_flatten_of_mem hl).length_le
    rw [hp.perm.length_eq] at h1
    omega) ds [] (fun _ => none) [] [] none none none none hh0 (by simp only [List.length_nil]; omega) (by simp only [List.length_nil]; omega) hd
  have hsp := run_spots (owC o) ds (fun _ => none, [])
  obtain ⟨R, hR⟩ : ∃ R, R = ds.foldl (runH (owC o)) (fun _ => none, []) := ⟨_, rfl⟩
  rw [← hR] at e hh hTl hsp ⊢
  obtain ⟨h, T⟩ := R
  simp only at e hh hTl hsp ⊢
  refine call_keep (junk := [.dct ks dv, .lst (T.map tD)]) hP rfl (Nor.out _ _ _) hlow ?_
  refine (ss_unp (d := .tup [.ref st.length, .ref (st.length + 1)]) (s1 := st ++ [.dct [] [], .lst []]) (ρ1 := [some (deckD tags ones ap), some (.tup (ds.map deedD)), some (ownD o), some (.ref st.length), some (.ref (st.length + 1)), none, none, none, none]) ?_ rfl).trans ?_
  · refine ev_tup (es_cons (d := .ref st.length) (s1 := st ++ [.dct [] []]) rfl (es1 ?_)) (by show 2 ≤ 10000; decide)
    have : (st ++ [Ob.dct [] []]).length = st.length + 1 := by simp
    rw [← this]
    show Rs.ok _ ((st ++ [Ob.dct [] []]) ++ [.lst []]) = _
    rw [List.append_assoc]
    rfl
  refine (ss_for (s1 := st ++ [.dct [] [], .lst []]) (xs := ds.map deedD) rfl e).trans (ss_ret ?_)
  have hk1 : ∀ t, keyed (st ++ [.dct ks dv, .lst (T.map tD)]) (.str t) (.ref st.length) = some ((h t).map D.int) := fun t => by
    simp only [keyed, K2.of, dctOf, g0, hh.2]
  have hin2 : ∀ t, inD (st ++ [.dct ks dv, .lst (T.map tD)]) (.str t) (.ref st.length) = some (h t).isSome := fun t => by
    simp only [inD, seqOf, g0, hk1, Option.map_some, Option.isSome_map]
  have a1 : evE (callN P (k + 1)) (.blt .tuple (.cons (.blt .sorted (.cons (.var 4) .nil)) .nil)) [some (deckD tags ones ap), some (.tup (ds.map deedD)), some (ownD o), some (.ref st.length), some (.ref (st.length + 1)), y5, y6, y7, y8] (st ++ [.dct ks dv, .lst (T.map tD)]) = .ok (.tup (sortD (T.map tD))) (st ++ [.dct ks dv, .lst (T.map tD)]) := by
    refine ev_blt (es1 (d := .lst (sortD (T.map tD))) (s1 := st ++ [.dct ks dv, .lst (T.map tD)]) (ev_blt (es1 (d := .ref (st.length + 1)) (s1 := st ++ [.dct ks dv, .lst (T.map tD)]) rfl) ?_)) rfl
    show (match seqOf _ _ with | some ds => _ | none => _) = _
    simp only [seqOf, g1]
    rw [if_pos (sortable_tD fun q hq => ?_)]
    rcases hsp q hq with h1 | h1
    · exact absurd h1 List.not_mem_nil
    · exact hs _ h1
  have a2 : evE (callN P (k + 1)) (.blt .tuple (.cons (.comp false (.tup (.cons (.var 6) (.cons (.ix (.var 3) (.var 6)) .nil))) [6] (.it (.ix (.var 0) (.int 0))) (.cons (.cmp .isin (.var 6) (.var 3)) .nil) [6]) .nil)) [some (deckD tags ones ap), some (.tup (ds.map deedD)), some (ownD o), some (.ref st.length), some (.ref (st.length + 1)), y5, y6, y7, y8] (st ++ [.dct ks dv, .lst (T.map tD)]) = .ok (.tup ((tags.filter fun c => (h c).isSome).map fun c => tD (c, (h c).getD 0))) (st ++ [.dct ks dv, .lst (T.map tD)]) := by
    refine ev_blt (es1 (d := .lst ((tags.filter fun c => (h c).isSome).map fun c => tD (c, (h c).getD 0))) (s1 := st ++ [.dct ks dv, .lst (T.map tD)]) ?_) rfl
    refine (ev_comp (s1 := st ++ [.dct ks dv, .lst (T.map tD)]) (s2 := st ++ [.dct ks dv, .lst (T.map tD)]) (xs := strC tags) rfl (by rw [strs_len]; unfold big; omega) (comp_filter (h := D.str) (g := fun c => tD (c, (h c).getD 0)) (q := fun c => (h c).isSome) tags fun c hc => ?_)).trans ?_
    · have hc1 : evE (callN P (k + 1)) (.cmp .isin (.var 6) (.var 3)) [some (deckD tags ones ap), some (.tup (ds.map deedD)), some (ownD o), some (.ref st.length), some (.ref (st.length + 1)), y5, some (.str c), y7, y8] (st ++ [.dct ks dv, .lst (T.map tD)]) = .ok (.bl (h c).isSome) (st ++ [.dct ks dv, .lst (T.map tD)]) := by
        show ofB _ (inD _ (.str c) (.ref st.length)) = _
        rw [hin2]
        rfl
      cases e2 : h c with
      | none =>
        rw [e2] at hc1
        exact cB_no rfl hc1
      | some v =>
        rw [e2] at hc1
        refine cB_if rfl hc1 (ev_tup (es_cons (d := .str c) rfl (es1 ?_)) (by show 2 ≤ 10000; decide))
        show ixD (st ++ [.dct ks dv, .lst (T.map tD)]) (.ref st.length) (.str c) = _
        simp only [ixD, seqOf, g0, hk1, e2, Option.map_some]
        rfl
    · unfold newList
      have := List.length_filter_le (fun c => (h c).isSome) tags
      rw [if_pos (by rw [List.length_map]; unfold big; omega)]
      rfl
  exact ev_tup (es_cons a1 (es1 a2)) (by show 2 ≤ 10000; decide)
end
end Mi
end

section
set_option linter.all false
set_option maxRecDepth 100000
set_option autoImplicit false
/-! what the program's rows come to, as texts of Mi -/
namespace Mi
def homesF : Fn := ⟨1, 4, (.cons (.ret (.dcomp2 false (.var 1) (.var 2) [2, 3] (.enum (.var 0)) .nil [1] (.it (.var 3)) .nil)) .nil)⟩
def srcB : Ss := (.cons (.set 8 (.ix (.var 2) (.ix (.var 7) (.int 1))))
  (.cons (.ifs (.cmp .eq (.ix (.var 7) (.int 0)) (.str [112, 117, 116]))
 (.cons (.setix (.var 3) (.var 8) (.var 6))
  .nil)
 (.cons (.setix (.var 4) (.ix (.var 7) (.int 2)) (.mth .get (.var 3) (.cons (.var 8) .nil)))
  .nil))
  .nil))
def sourcesF (h : Nat) : Fn := ⟨2, 10, (.cons (.set 2 (.call h (.cons (.var 1) .nil)))
  (.cons (.set 3 (.dict0 true))
  (.cons (.set 4 (.dict0 true))
  (.cons (.for_ [6, 7] (.enum (.var 0)) srcB)
  (.cons (.set 5 (.dcomp false (.var 9) (.mth .get (.var 3) (.cons (.ix (.var 2) (.var 9)) .nil)) [9] (.keys (.var 2)) .nil [9]))
  (.cons (.frz 4)
  (.cons (.ret (.tup (.cons (.var 4) (.cons (.var 5) .nil))))
  .nil)))))))⟩
def numbersF : Fn := ⟨2, 3, (.cons (.ret (.blt .tuple (.cons (.blt .sorted (.cons (.comp false (.tup (.cons (.var 2) (.cons (.ix (.ix (.var 0) (.ix (.var 1) (.var 2))) (.int 2)) .nil))) [2] (.keys (.var 1)) (.cons (.cmp .notn (.ix (.var 1) (.var 2)) .non) .nil) [2]) .nil)) .nil)))
  .nil)⟩
def outcomeF (so nu : Nat) : Fn := ⟨3, 5, (.cons (.unp [3, 4] (.call so (.cons (.var 1) (.cons (.var 2) .nil))))
  (.cons (.ret (.tup (.cons (.call nu (.cons (.var 1) (.cons (.var 3) .nil))) (.cons (.call nu (.cons (.var 1) (.cons (.var 4) .nil))) .nil))))
  .nil))⟩
def sq (m : Bool) (ds : List D) : D := match m with
  | true => .lst ds
  | false => .tup ds
theorem seqV_sq (m : Bool) (ds : List D) : seqV (sq m ds) = some ds := by cases m <;> rfl
def cellQ (m : Bool) (l : List Cs) : D := sq m (strC l)
def rowQ (m : Bool) (d : Deed) : D := sq m d.l
def optD : Option Nat → D
  | none => .non
  | some p => .int p
section
variable (C : Nat → List D → Sto → Rs D)
def dB (kx vx : E) (tg : List Nat) (ifs : Es) (ρ : Env) (x : D) (s : Sto) : Rs (Option (K2 × D)) := match tgt tg x ρ with
  | some ρ1 => (evTs C ifs ρ1 s).bind fun t s2 => if t then (evE C kx ρ1 s2).bind fun k s3 => (evE C vx ρ1 s3).bind fun v s4 => match K2.of k with
      | some k => .ok (some (k, v)) s4
      | none => .stuck
    else .ok none s2
  | none => .stuck
def aB (kx vx : E) (tg : List Nat) (ifs : Es) (tg2 : List Nat) (src2 : Sr) (ifs2 : Es) (ρ : Env) (x : D) (ks : List K2) (ds : List D) (s : Sto) : Rs (List K2 × List D) := match tgt tg x (clr tg2 ρ) with
  | some ρ1 => (evTs C ifs ρ1 s).bind fun t s2 => if t then (evR C src2 ρ1 s2).bind fun zs s3 => if ks.length + zs.length ≤ big then dcompL (dB C kx vx tg2 ifs2 ρ1) ks ds zs s3 else .stuck
    else .ok (ks, ds) s2
  | none => .stuck
end
section
variable {C : Nat → List D → Sto → Rs D} {ρ ρ1 : Env} {s s1 s2 : Sto} {kx vx : E} {d v : D} {c : Cs}
theorem ev_dcomp {m : Bool} {tg own : List Nat} {src : Sr} {ifs : Es} {xs : List D} {p : List K2 × List D} (h : evR C src ρ s = .ok xs s1) (hx : xs.length ≤ big) (hc : dcompL (dB C kx vx tg ifs ρ) [] [] xs s1 = .ok p s2) : evE C (.dcomp m kx vx tg src ifs own) ρ s = newDict m p s2 := by
  rw [evE, h, bok, if_pos hx]
  exact congrArg (fun r => Rs.bind r fun p s2 => newDict m p s2) hc
theorem ev_dcomp2 {m : Bool} {tg tg2 : List Nat} {src src2 : Sr} {ifs ifs2 : Es} {xs : List D} {p : List K2 × List D} (h : evR C src ρ s = .ok xs s1) (hc : accL (aB C kx vx tg ifs tg2 src2 ifs2 ρ) [] [] xs s1 = .ok p s2) : evE C (.dcomp2 m kx vx tg src ifs tg2 src2 ifs2) ρ s = newDict m p s2 := by
  rw [evE, h, bok]
  exact congrArg (fun r => Rs.bind r fun p s2 => newDict m p s2) hc
theorem dB_ok {tg : List Nat} (ht : tgt tg d ρ = some ρ1) (hk : evE C kx ρ1 s = .ok (.str c) s) (hv : evE C vx ρ1 s = .ok v s) : dB C kx vx tg .nil ρ d s = .ok (some (.ks c, v)) s := by
  simp only [dB, ht, evTs, bok, if_true, hk, hv, K2.of]
theorem dcomp_new {f : D → Sto → Rs (Option (K2 × D))} {v : Cs → D} : ∀ (zs : List Cs) (ks : List K2) (ds : List D), (∀ c ∈ zs, f (.str c) s = .ok (some (.ks c, v c)) s) → (∀ c ∈ zs, K2.ks c ∉ ks) → zs.Nodup → dcompL f ks ds (strC zs) s = .ok (ks ++ zs.map K2.ks, ds ++ zs.map v) s
  | [], ks, ds, _, _, _ => by simp [strC, dcompL]
  | c :: zs, ks, ds, hf, hk, hn => by
    obtain ⟨h1, h2⟩ := List.nodup_cons.mp hn
    show dcompL f ks ds (.str c :: strC zs) s = _
    rw [dcompL, hf c List.mem_cons_self]
    show dcompL f (putK (.ks c) (v c) ks ds).1 (putK (.ks c) (v c) ks ds).2 (strC zs) s = _
    rw [putK_new (hk c List.mem_cons_self)]
    show dcompL f (ks ++ [.ks c]) (ds ++ [v c]) (strC zs) s = _
    rw [dcomp_new zs _ _ (fun q hq => hf q (List.mem_cons_of_mem _ hq)) (fun q hq hm => by
      rcases List.mem_append.mp hm with hm | hm
      · exact hk q (List.mem_cons_of_mem _ hq) hm
      · rw [List.mem_singleton] at hm
        cases hm
        exact h1 hq) h2, List.append_assoc, List.append_assoc]
    rfl
end
/-! ### homes -/
def valsH : Nat → List (List Cs) → List D
  | _, [] => []
  | i, l :: o => l.map (fun _ => D.int i) ++ valsH (i + 1) o
theorem valsH_len : ∀ (o : List (List Cs)) (i : Nat), (valsH i o).length = o.flatten.length
  | [], _ => rfl
  | l :: o, i => by rw [valsH, List.length_append, List.length_map, valsH_len o, List.flatten_cons, List.length_append]
def hx (o : List (List Cs)) (c : Cs) : Nat := o.findIdx (·.contains c)
theorem look_const {c : Cs} {v : D} : ∀ l : List Cs, look (.ks c) (l.map K2.ks) (l.map fun _ => v) = if l.contains c then some v else none
  | [] => rfl
  | x :: l => by
    rw [List.map_cons, List.map_cons, look, look_const l, List.contains_cons]
    by_cases e : x = c
    · subst e; simp
    · rw [if_neg (fun q => e (by cases q; rfl))]
      have : (c == x) = false := by simp; exact fun q => e q.symm
      rw [this, Bool.false_or]
theorem look_H {c : Cs} : ∀ (o : List (List Cs)) (i : Nat), look (.ks c) (o.flatten.map K2.ks) (valsH i o) = if o.flatten.contains c then some (.int ((i + hx o c : Nat) : Int)) else none
  | [], _ => rfl
  | l :: o, i => by
    have e1 : (l :: o).flatten.contains c = (l.contains c || o.flatten.contains c) := by
      rw [Bool.eq_iff_iff, List.contains_iff_mem, Bool.or_eq_true, List.contains_iff_mem, List.contains_iff_mem, List.flatten_cons, List.mem_append]
    rw [e1, List.flatten_cons, List.map_append, valsH, look_app _ _ _ _ _ (by simp), look_const, look_H o (i + 1)]
    unfold hx
    rw [List.findIdx_cons]
    cases e : l.contains c with
    | true => simp
    | false =>
      simp only [Bool.false_eq_true, if_false, Bool.false_or, Option.none_or, cond_false]
      congr 3
      omega
section
variable {P : List Fn} {k hm : Nat} {st : Sto} {m : Bool}
theorem homes_acc {C : Nat → List D → Sto → Rs D} {g : Option D} : ∀ (o : List (List Cs)) (i : Nat) (ks : List K2) (ds : List D), (∀ c ∈ o.flatten, K2.ks c ∉ ks) → o.flatten.Nodup → ks.length + o.flatten.length ≤ 10000 →
    accL (aB C (.var 1) (.var 2) [2, 3] .nil [1] (.it (.var 3)) .nil [g, none, none, none]) ks ds (enumD i (o.map (cellQ m))) st = .ok (ks ++ o.flatten.map K2.ks, ds ++ valsH i o) st
  | [], i, ks, ds, _, _, _ => by simp [enumD, accL, valsH]
  | l :: o, i, ks, ds, h1, h2, h3 => by
    rw [List.flatten_cons] at h1 h2 h3
    rw [List.length_append] at h3
    obtain ⟨n1, n2, n3⟩ := List.nodup_append.mp h2
    have e1 : aB C (.var 1) (.var 2) [2, 3] .nil [1] (.it (.var 3)) .nil [g, none, none, none] (.tup [.int i, cellQ m l]) ks ds st = .ok (ks ++ l.map K2.ks, ds ++ l.map fun _ => D.int i) st := by
      have ht : tgt [2, 3] (.tup [.int i, cellQ m l]) (clr [1] [g, none, none, none]) = some [g, none, some (.int i), some (cellQ m l)] := rfl
      have hr : evR C (.it (.var 3)) [g, none, some (.int i), some (cellQ m l)] st = .ok (strC l) st := by
        show lift st (walkD (sq m (strC l))) = _
        rw [walk_of (seqV_sq m (strC l))]
        rfl
      simp only [aB, ht, evTs, bok, if_true, hr]
      rw [if_pos (by rw [strs_len]; unfold big; omega)]
      exact dcomp_new l ks ds (fun c hc => dB_ok (ρ1 := [g, some (.str c), some (.int i), some (cellQ m l)]) rfl rfl rfl) (fun c hc => h1 c (List.mem_append_left _ hc)) n1
    rw [List.map_cons]
    show accL _ ks ds (.tup [.int i, cellQ m l] :: enumD (i + 1) (o.map (cellQ m))) st = _
    rw [accL, e1]
    show accL _ (ks ++ l.map K2.ks) (ds ++ l.map fun _ => D.int i) _ st = _
    rw [homes_acc o (i + 1) _ _ (fun c hc hm => by
      rcases List.mem_append.mp hm with hm | hm
      · exact h1 c (List.mem_append_right _ hc) hm
      · obtain ⟨c', hc', e⟩ := List.mem_map.mp hm
        cases e
        exact n3 c hc' c hc rfl) n2 (by rw [List.length_append, List.length_map]; omega)]
    rw [List.flatten_cons, List.map_append, valsH, List.append_assoc, List.append_assoc]
theorem homes_ok {o : List (List Cs)} (hP : P[hm]? = some homesF) (hn : o.flatten.Nodup) (hl : o.flatten.length ≤ 10000) : callN P (k + 1) hm [sq m (o.map (cellQ m))] st = .ok (.dct (o.flatten.map K2.ks) (valsH 0 o)) st := by
  refine call_rt hP rfl rfl (ss_ret ?_)
  refine (ev_dcomp2 (s1 := st) (s2 := st) (xs := enumD 0 (o.map (cellQ m))) ?_ (homes_acc o 0 [] [] (fun _ _ h => absurd h List.not_mem_nil) hn (by simpa using hl))).trans rfl
  cases m <;> rfl
end
end Mi
end

section
set_option linter.all false
set_option maxRecDepth 100000
set_option autoImplicit false
/-! what the program's rows come to -/
namespace Mi
/-- the program's run of deeds -/
def runP (x : Cs → Nat) : Nat → (Nat → Option Nat) × List (Cs × Option Nat) → List Deed → (Nat → Option Nat) × List (Cs × Option Nat)
  | _, q, [] => q
  | p, q, .put t v :: r => runP x (p + 1) (fun i => if i = x t then some p else q.1 i, q.2) r
  | p, q, .get t s :: r => runP x (p + 1) (q.1, q.2 ++ [(s, q.1 (x t))]) r
def LD (lt : Nat → Option Nat) (ks : List K2) (dv : List D) : Prop := ks.length = dv.length ∧ ∀ i : Nat, look (.ki i) ks dv = (lt i).map fun (p : Nat) => D.int (p : Int)
def tks (T : List (Cs × Option Nat)) : List K2 := T.map fun q => K2.ks q.1
def tvs (T : List (Cs × Option Nat)) : List D := T.map fun q => optD q.2
theorem optD_eq (z : Option Nat) : (z.map fun (p : Nat) => D.int (p : Int)).getD .non = optD z := by cases z <;> rfl
section
variable {st : Sto} {m : Bool} {x0 x1 x5 x6 x7 x8 x9 : Option D} {o : List (List Cs)} {C : Nat → List D → Sto → Rs D}
theorem keyed_home {c : Cs} {s : Sto} (h : c ∈ o.flatten) : keyed s (.str c) (.dct (o.flatten.map K2.ks) (valsH 0 o)) = some (some (.int ((hx o c : Nat) : Int))) := by
  simp only [keyed, K2.of, dctOf]
  rw [look_H, if_pos (by rw [List.contains_iff_mem]; exact h), Nat.zero_add]
theorem src_loop : ∀ (ds : List Deed) (p : Nat) (lt : Nat → Option Nat) (T : List (Cs × Option Nat)) (ks : List K2) (dv : List D) (x6 x7 x8 : Option D), LD lt ks dv → ks.length + ds.length ≤ 10000 → T.length + ds.length ≤ 10000 → (∀ d ∈ ds, d.tag ∈ o.flatten) → (∀ d ∈ ds, okC d.tag = true) → (T.map (·.1) ++ spotsOf ds).Nodup →
    ∃ ks' dv' y6 y7 y8, forL [6, 7] (evSs C srcB) (enumD p (ds.map (rowQ m))) [x0, x1, some (.dct (o.flatten.map K2.ks) (valsH 0 o)), some (.ref st.length), some (.ref (st.length + 1)), x5, x6, x7, x8, x9] (st ++ [.dct ks dv, .dct (tks T) (tvs T)])
      = .ok (.nx [x0, x1, some (.dct (o.flatten.map K2.ks) (valsH 0 o)), some (.ref st.length), some (.ref (st.length + 1)), x5, y6, y7, y8, x9]) (st ++ [.dct ks' dv', .dct (tks (runP (hx o) p (lt, T) ds).2) (tvs (runP (hx o) p (lt, T) ds).2)]) ∧ LD (runP (hx o) p (lt, T) ds).1 ks' dv'
  | [], p, lt, T, ks, dv, x6, x7, x8, h, _, _, _, _, _ => ⟨ks, dv, x6, x7, x8, rfl, h⟩
  | d :: ds, p, lt, T, ks, dv, x6, x7, x8, h, h1, h2, h3, h4, h5 => by
    rw [List.length_cons] at h1 h2
    have ht := h3 d List.mem_cons_self
    have a1 : ∀ ρ : Env, ρ[2]? = some (some (.dct (o.flatten.map K2.ks) (valsH 0 o))) → ρ[7]? = some (some (rowQ m d)) → evE C (.ix (.var 2) (.ix (.var 7) (.int 1))) ρ (st ++ [.dct ks dv, .dct (tks T) (tvs T)]) = .ok (.int ((hx o d.tag : Nat) : Int)) (st ++ [.dct ks dv, .dct (tks T) (tvs T)]) := fun ρ r2 r7 => by
      have b1 := ix_seq (g := rowQ m d) (i := 1) (d := .str d.tag) (seqV_sq m d.l) (by decide) (by cases d <;> rfl) (st ++ [.dct ks dv, .dct (tks T) (tvs T)])
      simp only [evE, r2, r7, bok, b1]
      simp only [ixD, seqOf, keyed_home ht]
    have a2 : ∀ (ρ : Env) (i : Nat) (y : D), ρ[7]? = some (some (rowQ m d)) → d.l[i]? = some y → evE C (.ix (.var 7) (.int i)) ρ (st ++ [.dct ks dv, .dct (tks T) (tvs T)]) = .ok y (st ++ [.dct ks dv, .dct (tks T) (tvs T)]) := fun ρ i y r7 hy => by
      have b1 := ix_seq (g := rowQ m d) (i := i) (d := y) (seqV_sq m d.l) (by omega) (by rw [Int.toNat_natCast]; exact hy) (st ++ [.dct ks dv, .dct (tks T) (tvs T)])
      simp only [evE, r7, bok, b1]
    cases d with
    | put t v =>
      have hp := fun k => look_putK (k := k) (k' := .ki ((hx o t : Nat) : Int)) (v := .int (p : Int)) h.1
      have hl2 := (hp (.ki 0)).2.2
      have hL : LD (fun i => if i = hx o t then some p else lt i) (putK (.ki ((hx o t : Nat) : Int)) (.int (p : Int)) ks dv).1 (putK (.ki ((hx o t : Nat) : Int)) (.int (p : Int)) ks dv).2 := ⟨(hp (.ki 0)).2.1, fun i => by
        rw [(hp (.ki i)).1, h.2 i]
        by_cases e : i = hx o t
        · subst e
          rw [if_pos rfl]
          show _ = Option.map _ (if hx o t = hx o t then some p else lt (hx o t))
          rw [if_pos rfl]
          rfl
        · rw [if_neg (fun q => e (by simp at q; omega))]
          show _ = Option.map _ (if i = hx o t then some p else lt i)
          rw [if_neg e]⟩
      obtain ⟨ks', dv', y6, y7, y8, e, hf⟩ := src_loop ds (p + 1) (fun i => if i = hx o t then some p else lt i) T _ _ (some (.int p)) (some (rowQ m (.put t v))) (some (.int ((hx o t : Nat) : Int))) hL (by omega) (by omega) (fun q hq => h3 q (List.mem_cons_of_mem _ hq)) (fun q hq => h4 q (List.mem_cons_of_mem _ hq)) (by unfold spotsOf at h5 ⊢; rw [List.filterMap_cons] at h5; exact h5)
      refine ⟨ks', dv', y6, y7, y8, ?_, hf⟩
      refine (forL_nx (x := .tup [.int p, rowQ m (.put t v)]) (xs := enumD (p + 1) (ds.map (rowQ m))) (ρ2 := [x0, x1, some (.dct (o.flatten.map K2.ks) (valsH 0 o)), some (.ref st.length), some (.ref (st.length + 1)), x5, some (.int p), some (rowQ m (.put t v)), some (.int ((hx o t : Nat) : Int)), x9]) (s1 := st ++ [.dct (putK (.ki ((hx o t : Nat) : Int)) (.int (p : Int)) ks dv).1 (putK (.ki ((hx o t : Nat) : Int)) (.int (p : Int)) ks dv).2, .dct (tks T) (tvs T)]) rfl ?_).trans e
      refine (ss_set (a1 _ rfl rfl)).trans ?_
      have ec : ∀ ρ : Env, ρ[7]? = some (some (rowQ m (.put t v))) → evE C (.cmp .eq (.ix (.var 7) (.int 0)) (.str [112, 117, 116])) ρ (st ++ [.dct ks dv, .dct (tks T) (tvs T)]) = .ok (.bl true) (st ++ [.dct ks dv, .dct (tks T) (tvs T)]) := fun ρ r7 => by
        rw [evE]
        exact (congrArg (fun z => Rs.bind z _) (a2 ρ 0 (.str putC) r7 rfl)).trans rfl
      refine (ss_ifTn (ec _ rfl) rfl (ρ1 := [x0, x1, some (.dct (o.flatten.map K2.ks) (valsH 0 o)), some (.ref st.length), some (.ref (st.length + 1)), x5, some (.int p), some (rowQ m (.put t v)), some (.int ((hx o t : Nat) : Int)), x9]) (s2 := st ++ [.dct (putK (.ki ((hx o t : Nat) : Int)) (.int (p : Int)) ks dv).1 (putK (.ki ((hx o t : Nat) : Int)) (.int (p : Int)) ks dv).2, .dct (tks T) (tvs T)]) ?_).trans rfl
      refine (ss_setix (d := .int p) (v := .ref st.length) (w := .int ((hx o t : Nat) : Int)) (s1 := st ++ [.dct ks dv, .dct (tks T) (tvs T)]) (s2 := st ++ [.dct ks dv, .dct (tks T) (tvs T)]) (s3 := st ++ [.dct ks dv, .dct (tks T) (tvs T)]) (s4 := st ++ [.dct (putK (.ki ((hx o t : Nat) : Int)) (.int (p : Int)) ks dv).1 (putK (.ki ((hx o t : Nat) : Int)) (.int (p : Int)) ks dv).2, .dct (tks T) (tvs T)]) rfl rfl rfl ?_).trans rfl
      simp only [setD, g0, K2.of]
      rw [if_pos (by unfold big; omega), u0]
    | get t s =>
      have h5' : ((T ++ [(s, lt (hx o t))]).map (·.1) ++ spotsOf ds).Nodup := by
        rw [List.map_append, List.append_assoc]
        exact h5
      have hnew : K2.ks s ∉ tks T := fun hm => by
        obtain ⟨q, hq, e⟩ := List.mem_map.mp hm
        cases e
        exact (List.nodup_append.mp h5).2.2 q.1 (List.mem_map_of_mem hq) q.1 List.mem_cons_self rfl
      obtain ⟨ks', dv', y6, y7, y8, e, hf⟩ := src_loop ds (p + 1) lt (T ++ [(s, lt (hx o t))]) ks dv (some (.int p)) (some (rowQ m (.get t s))) (some (.int ((hx o t : Nat) : Int))) h (by omega) (by rw [List.length_append]; simp only [List.length_cons, List.length_nil]; omega) (fun q hq => h3 q (List.mem_cons_of_mem _ hq)) (fun q hq => h4 q (List.mem_cons_of_mem _ hq)) h5'
      refine ⟨ks', dv', y6, y7, y8, ?_, hf⟩
      have eT : st ++ [Ob.dct ks dv, .dct (tks (T ++ [(s, lt (hx o t))])) (tvs (T ++ [(s, lt (hx o t))]))] = st ++ [.dct ks dv, .dct (tks T ++ [.ks s]) (tvs T ++ [optD (lt (hx o t))])] := by
        unfold tks tvs
        rw [List.map_append, List.map_append]
        rfl
      refine (forL_nx (x := .tup [.int p, rowQ m (.get t s)]) (xs := enumD (p + 1) (ds.map (rowQ m))) (ρ2 := [x0, x1, some (.dct (o.flatten.map K2.ks) (valsH 0 o)), some (.ref st.length), some (.ref (st.length + 1)), x5, some (.int p), some (rowQ m (.get t s)), some (.int ((hx o t : Nat) : Int)), x9]) (s1 := st ++ [.dct ks dv, .dct (tks (T ++ [(s, lt (hx o t))])) (tvs (T ++ [(s, lt (hx o t))]))]) rfl ?_).trans e
      rw [eT]
      refine (ss_set (a1 _ rfl rfl)).trans ?_
      have ec : ∀ ρ : Env, ρ[7]? = some (some (rowQ m (.get t s))) → evE C (.cmp .eq (.ix (.var 7) (.int 0)) (.str [112, 117, 116])) ρ (st ++ [.dct ks dv, .dct (tks T) (tvs T)]) = .ok (.bl false) (st ++ [.dct ks dv, .dct (tks T) (tvs T)]) := fun ρ r7 => by
        rw [evE]
        exact (congrArg (fun z => Rs.bind z _) (a2 ρ 0 (.str getC) r7 rfl)).trans rfl
      refine (ss_ifFn (ec _ rfl) rfl (ρ1 := [x0, x1, some (.dct (o.flatten.map K2.ks) (valsH 0 o)), some (.ref st.length), some (.ref (st.length + 1)), x5, some (.int p), some (rowQ m (.get t s)), some (.int ((hx o t : Nat) : Int)), x9]) (s2 := st ++ [.dct ks dv, .dct (tks T ++ [.ks s]) (tvs T ++ [optD (lt (hx o t))])]) ?_).trans rfl
      have eg : ∀ ρ : Env, ρ[3]? = some (some (.ref st.length)) → ρ[8]? = some (some (.int ((hx o t : Nat) : Int))) → evE C (.mth .get (.var 3) (.cons (.var 8) .nil)) ρ (st ++ [.dct ks dv, .dct (tks T) (tvs T)]) = .ok (optD (lt (hx o t))) (st ++ [.dct ks dv, .dct (tks T) (tvs T)]) := fun ρ r3 r8 => by
        have e8 : evE C (.var 8) ρ (st ++ [.dct ks dv, .dct (tks T) (tvs T)]) = .ok (.int ((hx o t : Nat) : Int)) (st ++ [.dct ks dv, .dct (tks T) (tvs T)]) := by rw [evE, r8]
        have e3 : evE C (.var 3) ρ (st ++ [.dct ks dv, .dct (tks T) (tvs T)]) = .ok (.ref st.length) (st ++ [.dct ks dv, .dct (tks T) (tvs T)]) := by rw [evE, r3]
        rw [evE, e3, bok, if_pos (by simp only [recv, dctOf, g0]; rfl), es1 e8, bok]
        simp only [mthD, keyed, K2.of, dctOf, g0, h.2, optD_eq]
      refine (ss_setix (eg _ rfl rfl) (v := .ref (st.length + 1)) (w := .str s) (s2 := st ++ [.dct ks dv, .dct (tks T) (tvs T)]) (s3 := st ++ [.dct ks dv, .dct (tks T) (tvs T)]) (s4 := st ++ [.dct ks dv, .dct (tks T ++ [.ks s]) (tvs T ++ [optD (lt (hx o t))])]) rfl (a2 _ 2 (.str s) rfl rfl) ?_).trans rfl
      have hTl : (tks T).length = T.length := by unfold tks; rw [List.length_map]
      simp only [setD, g1, K2.of]
      rw [if_pos (by unfold big; omega), u1, putK_new hnew]
end
end Mi
end

section
set_option linter.all false
set_option maxRecDepth 100000
set_option autoImplicit false
/-! what the program's rows come to -/
namespace Mi
theorem rn_frzD {C : Nat → List D → Sto → Rs D} {ρ : Env} {s : Sto} {rest : Ss} {i n : Nat} {ks : List K2} {ds : List D} (h : ρ[i]? = some (some (.ref n))) (hs : s[n]? = some (.dct ks ds)) : evSs C (.cons (.frz i) rest) ρ s = evSs C rest (ρ.set i (some (.dct ks ds))) (s.set n .dead) := by
  simp only [evSs, evS, h, hs, bok]
theorem keys_ok {s : Sto} {names : List Cs} (h : ∀ c ∈ names, c.length ≤ 1000) {ds : List D} {C : Nat → List D → Sto → Rs D} {ρ : Env} {i : Nat} (hi : ρ[i]? = some (some (.dct (names.map K2.ks) ds))) : evR C (.keys (.var i)) ρ s = .ok (strC names) s := by
  have e : evE C (.var i) ρ s = .ok (.dct (names.map K2.ks) ds) s := by rw [evE, hi]
  rw [evR, e, bok]
  show (if _ then _ else _) = _
  rw [if_pos (by
    rw [List.all_eq_true]
    intro k hk
    obtain ⟨c, hc, rfl⟩ := List.mem_map.mp hk
    have := h c hc
    show decide (c.length ≤ 16777216) = true
    rw [decide_eq_true_eq]
    omega), List.map_map]
  rfl
theorem nor_opt (z : Option Nat) : Nor (optD z) := by cases z <;> exact fun _ => rfl
theorem nor_dct {ks : List K2} {l : List D} (h : ∀ d ∈ l, Nor d) : Nor (.dct ks l) := fun n => by
  rw [D.lowr, lowrs_all, List.all_eq_true]
  exact fun d hd => h d hd n
theorem nor_tvs (T : List (Cs × Option Nat)) : ∀ d ∈ tvs T, Nor d := fun d hd => by
  obtain ⟨q, _, rfl⟩ := List.mem_map.mp hd
  exact nor_opt _
def namesN (o : List (List Cs)) (lt : Nat → Option Nat) : List (Cs × Option Nat) := o.flatten.map fun c => (c, lt (hx o c))
def valAt (ds : List Deed) (p : Nat) : Option Int := match ds[p]? with
  | some (.put _ v) => some v
  | _ => none
theorem look_N {N : List (Cs × Option Nat)} (hn : (N.map (·.1)).Nodup) : ∀ q ∈ N, look (.ks q.1) (tks N) (tvs N) = some (optD q.2) := by
  induction N with
  | nil => exact fun _ h => absurd h List.not_mem_nil
  | cons a N ih =>
    intro q hq
    rw [List.map_cons] at hn
    obtain ⟨h1, h2⟩ := List.nodup_cons.mp hn
    show look (.ks q.1) (.ks a.1 :: tks N) (optD a.2 :: tvs N) = _
    rw [look]
    rcases List.mem_cons.mp hq with rfl | hq
    · rw [if_pos rfl]
    · rw [if_neg (fun e => h1 (by rw [K2.ks.inj e]; exact List.mem_map_of_mem (f := fun p : Cs × Option Nat => p.1) hq)), ih h2 q hq]
def gN (ds : List Deed) (q : Cs × Option Nat) : D := tD (q.1, (q.2.bind (valAt ds)).getD 0)
section
variable {P : List Fn} {k hm so nu : Nat} {st : Sto} {m : Bool} {o : List (List Cs)} {ds : List Deed}
theorem sources_ok (hH : P[hm]? = some homesF) (hP : P[so]? = some (sourcesF hm)) (hn : o.flatten.Nodup) (hl : o.flatten.length ≤ 1000) (hsh : ∀ c ∈ o.flatten, c.length ≤ 1000) (hd : ds.length ≤ 1000) (h3 : ∀ d ∈ ds, d.tag ∈ o.flatten) (h4 : ∀ d ∈ ds, okC d.tag = true) (h5 : (spotsOf ds).Nodup) (hlow : Low st) :
    callN P (k + 2) so [sq m (ds.map (rowQ m)), sq m (o.map (cellQ m))] st = .ok (.tup [.dct (tks (runP (hx o) 0 (fun _ => none, []) ds).2) (tvs (runP (hx o) 0 (fun _ => none, []) ds).2), .dct (tks (namesN o (runP (hx o) 0 (fun _ => none, []) ds).1)) (tvs (namesN o (runP (hx o) 0 (fun _ => none, []) ds).1))]) st := by
  obtain ⟨ks, dv, y6, y7, y8, e, hf⟩ := src_loop (C := callN P (k + 1)) (st := st) (m := m) (o := o) (x0 := some (sq m (ds.map (rowQ m)))) (x1 := some (sq m (o.map (cellQ m)))) (x5 := none) (x9 := none) ds 0 (fun _ => none) [] [] [] none none none ⟨rfl, fun _ => rfl⟩ (by simp only [List.length_nil]; omega) (by simp only [List.length_nil]; omega) h3 h4 h5
  obtain ⟨R, hR⟩ : ∃ R, R = runP (hx o) 0 (fun _ => none, []) ds := ⟨_, rfl⟩
  rw [← hR] at e hf ⊢
  obtain ⟨lt, T⟩ := R
  simp only at e hf ⊢
  refine call_keep (junk := [.dct ks dv, .dead]) hP rfl (Nor.tup fun d hd => by
    rcases List.mem_cons.mp hd with rfl | hd
    · exact nor_dct (nor_tvs _)
    · rw [List.mem_singleton.mp hd]; exact nor_dct (nor_tvs _)) hlow ?_
  refine (ss_set (d := .dct (o.flatten.map K2.ks) (valsH 0 o)) (s1 := st) ?_).trans ?_
  · rw [evE]
    exact homes_ok hH hn (by omega)
  refine (ss_set (d := .ref st.length) (s1 := st ++ [.dct [] []]) rfl).trans ?_
  refine (ss_set (d := .ref (st.length + 1)) (s1 := st ++ [.dct [] [], .dct [] []]) ?_).trans ?_
  · have : (st ++ [Ob.dct [] []]).length = st.length + 1 := by simp
    rw [← this]
    show Rs.ok _ ((st ++ [Ob.dct [] []]) ++ [.dct [] []]) = _
    rw [List.append_assoc]
    rfl
  refine (ss_for (s1 := st ++ [.dct [] [], .dct [] []]) (xs := enumD 0 (ds.map (rowQ m))) (by cases m <;> rfl) e).trans ?_
  have hk : ∀ i : Nat, keyed (st ++ [.dct ks dv, .dct (tks T) (tvs T)]) (.int (i : Int)) (.ref st.length) = some ((lt i).map fun (p : Nat) => D.int (p : Int)) := fun i => by
    simp only [keyed, K2.of, dctOf, g0, hf.2]
  have ed : evE (callN P (k + 1)) (.dcomp false (.var 9) (.mth .get (.var 3) (.cons (.ix (.var 2) (.var 9)) .nil)) [9] (.keys (.var 2)) .nil [9]) [some (sq m (ds.map (rowQ m))), some (sq m (o.map (cellQ m))), some (.dct (o.flatten.map K2.ks) (valsH 0 o)), some (.ref st.length), some (.ref (st.length + 1)), none, y6, y7, y8, none] (st ++ [.dct ks dv, .dct (tks T) (tvs T)]) = .ok (.dct (tks (namesN o lt)) (tvs (namesN o lt))) (st ++ [.dct ks dv, .dct (tks T) (tvs T)]) := by
    refine (ev_dcomp (keys_ok hsh rfl) (by rw [strs_len]; unfold big; omega) (dcomp_new (v := fun c => optD (lt (hx o c))) o.flatten [] [] (fun c hc => ?_) (fun _ _ h => absurd h List.not_mem_nil) hn)).trans ?_
    · refine dB_ok (ρ1 := [some (sq m (ds.map (rowQ m))), some (sq m (o.map (cellQ m))), some (.dct (o.flatten.map K2.ks) (valsH 0 o)), some (.ref st.length), some (.ref (st.length + 1)), none, y6, y7, y8, some (.str c)]) rfl rfl ?_
      have e1 : evE (callN P (k + 1)) (.ix (.var 2) (.var 9)) [some (sq m (ds.map (rowQ m))), some (sq m (o.map (cellQ m))), some (.dct (o.flatten.map K2.ks) (valsH 0 o)), some (.ref st.length), some (.ref (st.length + 1)), none, y6, y7, y8, some (.str c)] (st ++ [.dct ks dv, .dct (tks T) (tvs T)]) = .ok (.int ((hx o c : Nat) : Int)) (st ++ [.dct ks dv, .dct (tks T) (tvs T)]) := by
        show ixD (st ++ [.dct ks dv, .dct (tks T) (tvs T)]) (.dct (o.flatten.map K2.ks) (valsH 0 o)) (.str c) = _
        simp only [ixD, seqOf, keyed_home hc]
      rw [evE]
      show (if recv _ .get (.ref st.length) then _ else _) = _
      rw [if_pos (by simp only [recv, dctOf, g0]; rfl), es1 e1, bok]
      simp only [mthD, hk, optD_eq]
    · unfold tks tvs namesN
      rw [List.map_map, List.map_map]
      rfl
  refine (ss_set ed).trans ?_
  refine (rn_frzD (n := st.length + 1) rfl g1).trans ?_
  rw [u1]
  exact ss_ret rfl
theorem numbers_ok {N : List (Cs × Option Nat)} (hP : P[nu]? = some numbersF) (hn : (N.map (·.1)).Nodup) (hsh : ∀ q ∈ N, q.1.length ≤ 1000) (hok : ∀ q ∈ N, okC q.1 = true) (hv : ∀ q ∈ N, ∀ p, q.2 = some p → (valAt ds p).isSome = true) (hl : N.length ≤ 10000) :
    callN P (k + 1) nu [sq m (ds.map (rowQ m)), .dct (tks N) (tvs N)] st = .ok (.tup (sortD ((N.filter (·.2.isSome)).map (gN ds)))) st := by
  refine call_rt hP rfl rfl (ss_ret ?_)
  have a1 : evE (callN P k) (.comp false (.tup (.cons (.var 2) (.cons (.ix (.ix (.var 0) (.ix (.var 1) (.var 2))) (.int 2)) .nil))) [2] (.keys (.var 1)) (.cons (.cmp .notn (.ix (.var 1) (.var 2)) .non) .nil) [2]) [some (sq m (ds.map (rowQ m))), some (.dct (tks N) (tvs N)), none] st = .ok (.lst ((N.filter (·.2.isSome)).map (gN ds))) st := by
    have hks : tks N = (N.map (·.1)).map K2.ks := by unfold tks; rw [List.map_map]; rfl
    have er : evR (callN P k) (.keys (.var 1)) [some (sq m (ds.map (rowQ m))), some (.dct (tks N) (tvs N)), none] st = .ok (N.map fun q => D.str q.1) st := by
      rw [hks]
      refine (keys_ok (names := N.map (·.1)) (fun c hc => ?_) rfl).trans ?_
      · obtain ⟨q, hq, rfl⟩ := List.mem_map.mp hc
        exact hsh q hq
      · unfold strC
        rw [List.map_map]
        rfl
    refine (ev_comp er (by rw [List.length_map]; unfold big; omega) (comp_filter (h := fun q => D.str q.1) (g := gN ds) (q := fun q => q.2.isSome) N fun q hq => ?_)).trans ?_
    · have e1 : evE (callN P k) (.ix (.var 1) (.var 2)) [some (sq m (ds.map (rowQ m))), some (.dct (tks N) (tvs N)), some (.str q.1)] st = .ok (optD q.2) st := by
        show ixD st (.dct (tks N) (tvs N)) (.str q.1) = _
        simp only [ixD, seqOf, keyed, K2.of, dctOf, look_N hn q hq]
      have e2 : evE (callN P k) (.cmp .notn (.ix (.var 1) (.var 2)) .non) [some (sq m (ds.map (rowQ m))), some (.dct (tks N) (tvs N)), some (.str q.1)] st = .ok (.bl q.2.isSome) st := by
        rw [evE, e1, bok]
        cases q.2 <;> rfl
      cases e3 : q.2 with
      | none =>
        rw [e3] at e2
        exact cB_no rfl e2
      | some p =>
        rw [e3] at e2 e1
        obtain ⟨v, hp⟩ := Option.isSome_iff_exists.mp (hv q hq p e3)
        have hd : ∃ t, ds[p]? = some (.put t v) := by
          unfold valAt at hp
          split at hp
          · rename_i t w he
            cases hp
            exact ⟨t, he⟩
          · cases hp
        obtain ⟨t, hd⟩ := hd
        refine cB_if rfl e2 ?_
        have e4 : evE (callN P k) (.ix (.var 0) (.ix (.var 1) (.var 2))) [some (sq m (ds.map (rowQ m))), some (.dct (tks N) (tvs N)), some (.str q.1)] st = .ok (rowQ m (.put t v)) st := by
          rw [evE]
          show ((evE (callN P k) (.ix (.var 1) (.var 2)) _ st).bind _) = _
          rw [e1, bok]
          exact ix_seq (g := sq m _) (seqV_sq m _) (by omega) (by rw [Int.toNat_natCast, List.getElem?_map, hd]; rfl) st
        have e5 : evE (callN P k) (.ix (.ix (.var 0) (.ix (.var 1) (.var 2))) (.int 2)) [some (sq m (ds.map (rowQ m))), some (.dct (tks N) (tvs N)), some (.str q.1)] st = .ok (.int v) st := by
          rw [evE, e4, bok]
          exact ix_seq (g := rowQ m (.put t v)) (seqV_sq m _) (by decide) rfl st
        have e6 : gN ds q = .tup [.str q.1, .int v] := by
          unfold gN
          rw [e3]
          show tD (q.1, (valAt ds p).getD 0) = _
          rw [hp]
          rfl
        rw [e6]
        exact ev_tup (es_cons rfl (es1 e5)) (by show 2 ≤ 10000; decide)
    · unfold newList
      have := List.length_filter_le (fun q : Cs × Option Nat => q.2.isSome) N
      rw [if_pos (by rw [List.length_map]; unfold big; omega)]
      rfl
  refine ev_blt (es1 (d := .lst (sortD ((N.filter (·.2.isSome)).map (gN ds)))) (s1 := st) (ev_blt (es1 a1) ?_)) rfl
  show (if sortable ((N.filter (·.2.isSome)).map (gN ds)) then Rs.ok (D.lst (sortD ((N.filter (·.2.isSome)).map (gN ds)))) st else .stuck) = _
  rw [if_pos]
  have : (N.filter (·.2.isSome)).map (gN ds) = ((N.filter (·.2.isSome)).map fun q => (q.1, (q.2.bind (valAt ds)).getD 0)).map tD := by
    rw [List.map_map]
    rfl
  rw [this]
  refine sortable_tD fun r hr => ?_
  obtain ⟨q, hq, rfl⟩ := List.mem_map.mp hr
  exact hok q (List.mem_filter.mp hq).1
end
end Mi
end

section
set_option linter.all false
set_option maxRecDepth 100000
set_option autoImplicit false
/-! the program's rows come to what the law's do -/
namespace Mi
theorem nodup_uniq {c : Cs} : ∀ (o : List (List Cs)) (i j : Nat) (li lj : List Cs), o.flatten.Nodup → o[i]? = some li → o[j]? = some lj → c ∈ li → c ∈ lj → i = j
  | [], _, _, _, _, _, h, _, _, _ => by simp at h
  | l :: o, 0, 0, _, _, _, _, _, _, _ => rfl
  | l :: o, 0, j + 1, li, lj, hn, h1, h2, h3, h4 => by
    rw [List.flatten_cons] at hn
    simp at h1 h2
    subst h1
    exact absurd rfl ((List.nodup_append.mp hn).2.2 c h3 c (List.mem_flatten.mpr ⟨lj, List.mem_of_getElem? h2, h4⟩))
  | l :: o, i + 1, 0, li, lj, hn, h1, h2, h3, h4 => by
    rw [List.flatten_cons] at hn
    simp at h1 h2
    subst h2
    exact absurd rfl ((List.nodup_append.mp hn).2.2 c h4 c (List.mem_flatten.mpr ⟨li, List.mem_of_getElem? h1, h3⟩))
  | l :: o, i + 1, j + 1, li, lj, hn, h1, h2, h3, h4 => by
    rw [List.flatten_cons] at hn
    rw [nodup_uniq o i j li lj (List.nodup_append.mp hn).2.1 (by simpa using h1) (by simpa using h2) h3 h4]
theorem own_at {t : Cs} : ∀ (o : List (List Cs)), (∃ l ∈ o, t ∈ l) → o[hx o t]? = some (owC o t)
  | [], h => by obtain ⟨l, hl, _⟩ := h; cases hl
  | l :: o, h => by
    unfold hx owC
    rw [List.findIdx_cons, List.filter_cons]
    cases e : l.contains t with
    | true => simp
    | false =>
      have ih := own_at o (by
        obtain ⟨m, hm, ht⟩ := h
        rcases List.mem_cons.mp hm with rfl | hm
        · rw [← List.contains_iff_mem] at ht
          rw [ht] at e
          cases e
        · exact ⟨m, hm, ht⟩)
      unfold hx owC at ih
      simp only [cond_false, Bool.false_eq_true, if_false]
      rw [List.getElem?_cons_succ]
      exact ih
theorem own_iff {o : List (List Cs)} (hn : o.flatten.Nodup) {t c : Cs} (ht : ∃ l ∈ o, t ∈ l) (hc : ∃ l ∈ o, c ∈ l) : (owC o t).contains c = true ↔ hx o c = hx o t := by
  obtain ⟨_, _, _, h1⟩ := ownOf_spec hc
  rw [List.contains_iff_mem]
  constructor
  · exact fun h => nodup_uniq o _ _ _ _ hn (own_at o hc) (own_at o ht) h1 h
  · intro h
    have e1 := own_at o hc
    rw [h, own_at o ht] at e1
    rw [Option.some.inj e1]
    exact h1
structure Rel (ds : List Deed) (tags : List Cs) (x : Cs → Nat) (a : (Cs → Option Int) × List (Cs × Int)) (b : (Nat → Option Nat) × List (Cs × Option Nat)) : Prop where
  h : ∀ c ∈ tags, a.1 c = (b.1 (x c)).bind (valAt ds)
  v : ∀ c ∈ tags, ∀ q, b.1 (x c) = some q → (valAt ds q).isSome = true
  T : a.2 = (b.2.filter (·.2.isSome)).map fun q => (q.1, (q.2.bind (valAt ds)).getD 0)
  w : ∀ q ∈ b.2, ∀ p, q.2 = some p → (valAt ds p).isSome = true
theorem run_rel {ds : List Deed} {tags : List Cs} {x : Cs → Nat} {own : Cs → List Cs} (hx : ∀ t ∈ tags, ∀ c ∈ tags, (own t).contains c = true ↔ x c = x t) : ∀ (r : List Deed) (p : Nat) (a : (Cs → Option Int) × List (Cs × Int)) (b : (Nat → Option Nat) × List (Cs × Option Nat)), ds.drop p = r → (∀ d ∈ r, d.tag ∈ tags) → Rel ds tags x a b → Rel ds tags x (r.foldl (runH own) a) (runP x p b r)
  | [], p, a, b, _, _, h => h
  | d :: r, p, (h, T), (lt, L), hd, ht, hr => by
    have hp : ds[p]? = some d := by
      have : (ds.drop p)[0]? = some d := by rw [hd]; rfl
      rw [List.getElem?_drop] at this
      simpa using this
    have hd2 : ds.drop (p + 1) = r := by
      rw [← List.drop_drop, hd]
      rfl
    have htag := ht d List.mem_cons_self
    have ht2 : ∀ d ∈ r, d.tag ∈ tags := fun q hq => ht q (List.mem_cons_of_mem _ hq)
    rw [List.foldl_cons]
    cases d with
    | put t v =>
      have hv : valAt ds p = some v := by unfold valAt; rw [hp]
      show Rel ds tags x (r.foldl (runH own) (setH h (own t) v, T)) (runP x (p + 1) (fun i => if i = x t then some p else lt i, L) r)
      refine run_rel hx r (p + 1) _ _ hd2 ht2 ⟨fun c hc => ?_, fun c hc q hq => ?_, hr.T, hr.w⟩
      · show (if (own t).contains c then some v else h c) = (if x c = x t then some p else lt (x c)).bind (valAt ds)
        by_cases e : x c = x t
        · rw [if_pos ((hx t htag c hc).mpr e), if_pos e]
          exact hv.symm
        · rw [if_neg (fun q => e ((hx t htag c hc).mp q)), if_neg e]
          exact hr.h c hc
      · have hq : (if x c = x t then some p else lt (x c)) = some q := hq
        by_cases e : x c = x t
        · rw [if_pos e] at hq
          cases hq
          rw [hv]
          rfl
        · rw [if_neg e] at hq
          exact hr.v c hc q hq
    | get t s =>
      show Rel ds tags x (r.foldl (runH own) (runH own (h, T) (.get t s))) (runP x (p + 1) (lt, L ++ [(s, lt (x t))]) r)
      have hh := hr.h t htag
      simp only at hh
      refine run_rel hx r (p + 1) _ _ hd2 ht2 ?_
      cases e : lt (x t) with
      | none =>
        rw [e] at hh
        have hR : runH own (h, T) (.get t s) = (h, T) := by simp only [runH, hh, Option.bind_none]
        rw [hR]
        refine ⟨hr.h, hr.v, ?_, fun q hq => ?_⟩
        · show T = _
          rw [List.filter_append, List.filter_cons, List.filter_nil]
          simp only [Option.isSome_none, Bool.false_eq_true, if_false, List.append_nil]
          exact hr.T
        · rcases List.mem_append.mp hq with hq | hq
          · exact hr.w q hq
          · rw [List.mem_singleton.mp hq]
            exact fun p hp => by cases hp
      | some q =>
        rw [e] at hh
        obtain ⟨v, hv⟩ := Option.isSome_iff_exists.mp (hr.v t htag q e)
        have hh : h t = some v := by rw [hh]; exact hv
        have hR : runH own (h, T) (.get t s) = (h, T ++ [(s, v)]) := by simp only [runH, hh]
        rw [hR]
        refine ⟨hr.h, hr.v, ?_, fun q' hq => ?_⟩
        · show T ++ [(s, v)] = _
          rw [List.filter_append, List.filter_cons, List.filter_nil]
          simp only [Option.isSome_some, if_true, List.map_append, List.map_cons, List.map_nil]
          have h1 := hr.T
          simp only at h1
          rw [← h1]
          show _ = T ++ [(s, ((some q).bind (valAt ds)).getD 0)]
          rw [Option.bind_some, hv]
          rfl
        · rcases List.mem_append.mp hq with hq | hq
          · exact hr.w q' hq
          · rw [List.mem_singleton.mp hq]
            intro p hp
            cases hp
            rw [hv]
            rfl
theorem lt_pair (f : Cs → Int) (a b : Cs) : D.lt (tD (a, f a)) (tD (b, f b)) = codeLt a b := by
  show D.lts [.str a, .int (f a)] [.str b, .int (f b)] = _
  rw [D.lts, eqv_str]
  by_cases e : a = b
  · subst e
    rw [if_pos (by simp), D.lts]
    simp [D.eqv, D.lts, codeLt_irr]
  · rw [if_neg (by simpa using e)]
    simp [D.lt]
theorem sort_left {tags N : List Cs} {q : Cs → Bool} (f : Cs → Int) (hp : N.Perm tags) (hs : SortedC tags) : sortD ((N.filter q).map fun c => tD (c, f c)) = (tags.filter q).map fun c => tD (c, f c) := by
  rw [sortD_map (fun c => tD (c, f c))]
  congr 1
  have := sortG_eq (g := fun c => tD (c, f c)) (i := id) (fun a b => lt_pair f a b) (N.filter q)
  rw [List.map_id, List.map_id] at this
  rw [this]
  exact sortC_pick hp hs
section
variable {P : List Fn} {k hm so nu oc : Nat} {st : Sto} {m : Bool} {o : List (List Cs)} {ds : List Deed} {tags : List Cs} {tb : D}
theorem outcome_ok (hH : P[hm]? = some homesF) (hS : P[so]? = some (sourcesF hm)) (hN : P[nu]? = some numbersF) (hP : P[oc]? = some (outcomeF so nu)) (hp : Part tags o) (hs : SortedC tags) (hn : tags.Nodup) (hl : tags.length ≤ 1000) (hok : ∀ c ∈ tags, okC c = true) (hsh : ∀ c ∈ tags, c.length ≤ 1000) (hd : ds.length ≤ 1000) (h3 : ∀ d ∈ ds, d.tag ∈ tags) (h5 : (spotsOf ds).Nodup) (h6 : ∀ s ∈ spotsOf ds, okC s = true ∧ s.length ≤ 1000) (hlow : Low st) :
    callN P (k + 3) oc [tb, sq m (ds.map (rowQ m)), sq m (o.map (cellQ m))] st = .ok (outD tags (ds.foldl (runH (owC o)) (fun _ => none, [])).1 (ds.foldl (runH (owC o)) (fun _ => none, [])).2) st := by
  have hmem : ∀ c, c ∈ o.flatten ↔ c ∈ tags := fun c => hp.perm.mem_iff
  have hnd : o.flatten.Nodup := hp.perm.nodup_iff.mpr hn
  have hol : o.flatten.length ≤ 1000 := by rw [hp.perm.length_eq]; exact hl
  have e1 := sources_ok (k := k) (st := st) (m := m) (ds := ds) hH hS hnd hol (fun c hc => hsh c ((hmem c).mp hc)) hd (fun d hd => (hmem _).mpr (h3 d hd)) (fun d hd => hok _ (h3 d hd)) h5 hlow
  have hrel := run_rel (ds := ds) (tags := tags) (x := hx o) (own := owC o) (fun t ht c hc => own_iff hnd (hp.in t ht) (hp.in c hc)) ds 0 (fun _ => none, []) (fun _ => none, []) rfl h3 ⟨fun _ _ => rfl, fun _ _ _ h => (nomatch h), rfl, fun _ h => absurd h List.not_mem_nil⟩
  have hTsp : ∀ (r : List Deed) (p : Nat) (b : (Nat → Option Nat) × List (Cs × Option Nat)), (runP (hx o) p b r).2.map (·.1) = b.2.map (·.1) ++ spotsOf r := fun r => by
    induction r with
    | nil => exact fun p b => by simp [runP, spotsOf]
    | cons d r ih =>
      intro p b
      cases d with
      | put t v =>
        rw [runP, ih]
        rfl
      | get t s =>
        rw [runP, ih, List.map_append, List.append_assoc]
        rfl
  have hTs := hTsp ds 0 (fun _ => none, [])
  obtain ⟨R, hR⟩ : ∃ R, R = runP (hx o) 0 (fun _ => none, []) ds := ⟨_, rfl⟩
  obtain ⟨R2, hR2⟩ : ∃ R, R = ds.foldl (runH (owC o)) (fun _ => none, []) := ⟨_, rfl⟩
  rw [← hR] at e1 hrel hTs
  rw [← hR2] at hrel ⊢
  obtain ⟨lt, T⟩ := R
  obtain ⟨h, T2⟩ := R2
  simp only at e1 hTs ⊢
  have hTs : T.map (·.1) = spotsOf ds := hTs
  have hTm : ∀ q ∈ T, q.1 ∈ spotsOf ds := fun q hq => by rw [← hTs]; exact List.mem_map_of_mem (f := fun p : Cs × Option Nat => p.1) hq
  have hTl : T.length ≤ 1000 := by
    have := congrArg List.length hTs
    rw [List.length_map] at this
    rw [this]
    exact Nat.le_trans (List.length_filterMap_le _ _) hd
  have n1 := numbers_ok (k := k + 1) (st := st) (m := m) (ds := ds) (N := T) hN (by rw [hTs]; exact h5) (fun q hq => (h6 _ (hTm q hq)).2) (fun q hq => (h6 _ (hTm q hq)).1) hrel.w (by omega)
  have hNm : (namesN o lt).map (·.1) = o.flatten := by
    unfold namesN
    rw [List.map_map]
    exact List.map_id _
  have hNin : ∀ q ∈ namesN o lt, q.1 ∈ tags ∧ q.2 = lt (hx o q.1) := fun q hq => by
    obtain ⟨c, hc, rfl⟩ := List.mem_map.mp hq
    exact ⟨(hmem c).mp hc, rfl⟩
  have n2 := numbers_ok (k := k + 1) (st := st) (m := m) (ds := ds) (N := namesN o lt) hN (by rw [hNm]; exact hnd) (fun q hq => hsh _ (hNin q hq).1) (fun q hq => hok _ (hNin q hq).1) (fun q hq p e => hrel.v q.1 (hNin q hq).1 p ((hNin q hq).2.symm.trans e)) (by unfold namesN; rw [List.length_map]; omega)
  have t1 : (T.filter (·.2.isSome)).map (gN ds) = T2.map tD := by
    have := hrel.T
    simp only at this
    rw [this, List.map_map]
    rfl
  have t2 : sortD (((namesN o lt).filter (·.2.isSome)).map (gN ds)) = (tags.filter fun c => (h c).isSome).map fun c => tD (c, (h c).getD 0) := by
    rw [← sort_left (N := o.flatten) (fun c => (h c).getD 0) hp.perm hs]
    congr 1
    have hh := hrel.h
    have hv := hrel.v
    simp only at hh hv
    unfold namesN
    rw [List.filter_map, List.map_map]
    have hsome : ∀ c ∈ o.flatten, (lt (hx o c)).isSome = (h c).isSome := fun c hc => by
      rw [hh c ((hmem c).mp hc)]
      cases e : lt (hx o c) with
      | none => rfl
      | some q => exact (hv c ((hmem c).mp hc) q e).symm
    have f1 : o.flatten.filter ((fun q : Cs × Option Nat => q.2.isSome) ∘ fun c => (c, lt (hx o c))) = o.flatten.filter fun c => (h c).isSome := List.filter_congr fun c hc => hsome c hc
    rw [f1]
    refine List.map_congr_left fun c hc => ?_
    show tD (c, ((lt (hx o c)).bind (valAt ds)).getD 0) = tD (c, (h c).getD 0)
    rw [hh c ((hmem c).mp (List.mem_filter.mp hc).1)]
  rw [t1] at n1
  rw [t2] at n2
  refine call_rt hP rfl rfl ?_
  refine (ss_unp (d := .tup [.dct (tks T) (tvs T), .dct (tks (namesN o lt)) (tvs (namesN o lt))]) (s1 := st) (ρ1 := [some tb, some (sq m (ds.map (rowQ m))), some (sq m (o.map (cellQ m))), some (.dct (tks T) (tvs T)), some (.dct (tks (namesN o lt)) (tvs (namesN o lt)))]) ?_ rfl).trans (ss_ret ?_)
  · exact ev_call (es_cons rfl (es1 rfl)) e1
  · exact ev_tup (es_cons (ev_call (es_cons rfl (es1 rfl)) n1) (es1 (ev_call (es_cons rfl (es1 rfl)) n2))) (by show 2 ≤ 10000; decide)
end
end Mi
end

section
set_option linter.all false
set_option maxRecDepth 100000
set_option autoImplicit false
/-! lists, same of tables, rows, samenesses, outcomes -/
namespace Mi
def tupL : D → D
  | .tup l => .lst l
  | d => d
theorem big_of {n : Nat} (h : n ≤ 200000) : n ≤ big := by unfold big; omega
section
variable {P : List Fn} {k l s : Nat} {st : Sto}
theorem lists_ex {g : D} {ds : List D} (hP : P[l]? = some (listsF l)) (hg : seqV g = some ds) (hl : ds.length ≤ 200000) (h : ∀ d ∈ ds, ∃ d', callN P k l [d] st = .ok d' st) : ∃ d', callN P (k + 1) l [g] st = .ok d' st := by
  refine ⟨_, lists_seq (f := fun d => match callN P k l [d] st with | .ok d' _ => d' | _ => .non) hP hg (big_of hl) fun d hd => ?_⟩
  obtain ⟨d', e⟩ := h d hd
  rw [e]
theorem lists_leaves {g : D} {ds : List D} (hP : P[l]? = some (listsF l)) (hg : seqV g = some ds) (hl : ds.length ≤ 200000) (h : ∀ d ∈ ds, Leaf d) : callN P (k + 2) l [g] st = .ok (.lst ds) st := by
  have := lists_seq (k := k + 1) (st := st) (f := id) hP hg (big_of hl) fun d hd => lists_leaf hP (h d hd)
  rw [List.map_id] at this
  exact this
theorem leaf_strs {cs : List Cs} (h : ∀ c ∈ cs, okC c = true) : ∀ d ∈ strC cs, Leaf d := fun d hd => by
  obtain ⟨c, hc, rfl⟩ := List.mem_map.mp hd
  exact .inr (.inr (.inr ⟨c, rfl, h c hc⟩))
theorem leaf_deed {d : Deed} (h : okC d.tag = true) (h2 : ∀ s, d.sp = some s → okC s = true) : ∀ x ∈ d.l, Leaf x := fun x hx => by
  cases d with
  | put t v =>
    have hx : x ∈ [D.str putC, .str t, .int v] := hx
    simp only [List.mem_cons, List.not_mem_nil, or_false] at hx
    rcases hx with rfl | rfl | rfl
    · exact .inr (.inr (.inr ⟨_, rfl, by decide⟩))
    · exact .inr (.inr (.inr ⟨_, rfl, h⟩))
    · exact .inr (.inr (.inl ⟨_, rfl⟩))
  | get t s =>
    have hx : x ∈ [D.str getC, .str t, .str s] := hx
    simp only [List.mem_cons, List.not_mem_nil, or_false] at hx
    rcases hx with rfl | rfl | rfl
    · exact .inr (.inr (.inr ⟨_, rfl, by decide⟩))
    · exact .inr (.inr (.inr ⟨_, rfl, h⟩))
    · exact .inr (.inr (.inr ⟨_, rfl, h2 s rfl⟩))
theorem deed_sp {ds : List Deed} (h : ∀ s ∈ spotsOf ds, okC s = true) : ∀ d ∈ ds, ∀ s, d.sp = some s → okC s = true := fun d hd s e => h s (List.mem_filterMap.mpr ⟨d, hd, e⟩)
theorem lists_deck {tags : List Cs} {ones ap : List (Cs × Cs)} {m : Nat} (hP : P[l]? = some (listsF l)) (h : Tab m tags ones ap) (hm : m ≤ 1000) : ∃ d, callN P (k + 4) l [deckD tags ones ap] st = .ok d st := by
  have hok := h.ok
  have pairs : ∀ ps : List (Cs × Cs), (∀ p ∈ ps, p.1 ∈ tags ∧ p.2 ∈ tags) → ps.length ≤ 10000 → ∃ d, callN P (k + 3) l [.tup (ps.map prD)] st = .ok d st := fun ps hps hn => by
    refine lists_ex (k := k + 2) hP rfl (by rw [List.length_map]; omega) fun d hd => ?_
    obtain ⟨p, hp, rfl⟩ := List.mem_map.mp hd
    refine ⟨_, lists_leaves (g := prD p) hP rfl (by show 2 ≤ 200000; decide) fun x hx => ?_⟩
    rcases List.mem_cons.mp hx with rfl | hx
    · exact .inr (.inr (.inr ⟨_, rfl, hok _ (hps p hp).1⟩))
    · rw [List.mem_singleton.mp hx]
      exact .inr (.inr (.inr ⟨_, rfl, hok _ (hps p hp).2⟩))
  refine lists_ex (k := k + 3) hP rfl (by show 3 ≤ 200000; decide) fun d hd => ?_
  simp only [List.mem_cons, List.not_mem_nil, or_false] at hd
  rcases hd with rfl | rfl | rfl
  · exact ⟨_, lists_leaves (k := k + 1) hP rfl (by rw [strs_len]; have := h.le; omega) (leaf_strs hok)⟩
  · exact pairs _ h.ons h.on
  · exact pairs _ h.aps h.an
theorem lists_row {ds : List Deed} (hP : P[l]? = some (listsF l)) (hl : ds.length ≤ 1000) (h : ∀ d ∈ ds, okC d.tag = true) (h2 : ∀ s ∈ spotsOf ds, okC s = true) : callN P (k + 3) l [.tup (ds.map deedD)] st = .ok (sq true (ds.map (rowQ true))) st := by
  have := lists_seq (k := k + 2) (st := st) (f := tupL) (g := .tup (ds.map deedD)) hP rfl (big_of (by rw [List.length_map]; omega)) fun d hd => by
    obtain ⟨q, hq, rfl⟩ := List.mem_map.mp hd
    exact lists_leaves (g := deedD q) hP rfl (by cases q <;> (show 3 ≤ 200000; decide)) (leaf_deed (h q hq) (deed_sp h2 q hq))
  rw [this, List.map_map]
  rfl
theorem lists_own {o : List (List Cs)} (hP : P[l]? = some (listsF l)) (hl : o.length ≤ 1000) (hl2 : ∀ c ∈ o, c.length ≤ 1000) (h : ∀ c ∈ o, ∀ x ∈ c, okC x = true) : callN P (k + 3) l [ownD o] st = .ok (sq true (o.map (cellQ true))) st := by
  have := lists_seq (k := k + 2) (st := st) (f := tupL) (g := ownD o) hP rfl (big_of (by rw [List.length_map]; omega)) fun d hd => by
    obtain ⟨q, hq, rfl⟩ := List.mem_map.mp hd
    exact lists_leaves (g := cellD q) hP rfl (by have := hl2 q hq; rw [strs_len]; omega) (leaf_strs (h q hq))
  rw [this, List.map_map]
  rfl
theorem same_tD {q : Cs × Int} (hP : P[s]? = some (sameF s)) (h : okC q.1 = true) : callN P (k + 2) s [tD q, tD q] st = .ok (.bl true) st := by
  refine same_seq (k := k + 1) hP rfl (by show 2 ≤ big; unfold big; omega) fun d hd => same_leaf hP ?_
  rcases List.mem_cons.mp hd with rfl | hd
  · exact .inr (.inr (.inr ⟨_, rfl, h⟩))
  · rw [List.mem_singleton.mp hd]
    exact .inr (.inr (.inl ⟨_, rfl⟩))
theorem same_out {tags : List Cs} {h : Cs → Option Int} {T : List (Cs × Int)} (hP : P[s]? = some (sameF s)) (ht : ∀ c ∈ tags, okC c = true) (htl : tags.length ≤ 1000) (hT : ∀ q ∈ T, okC q.1 = true) (hTl : T.length ≤ 1000) : callN P (k + 4) s [outD tags h T, outD tags h T] st = .ok (.bl true) st := by
  refine same_seq (k := k + 3) hP rfl (by show 2 ≤ big; unfold big; omega) fun d hd => ?_
  simp only [List.mem_cons, List.not_mem_nil, or_false] at hd
  rcases hd with rfl | rfl
  · refine same_seq (k := k + 2) hP rfl (big_of (by rw [(sortD_perm _).length_eq, List.length_map]; omega)) fun d hd => ?_
    obtain ⟨q, hq, rfl⟩ := List.mem_map.mp ((sortD_perm _).mem_iff.mp hd)
    exact same_tD hP (hT q hq)
  · refine same_seq (k := k + 2) hP rfl (big_of (by rw [List.length_map]; have := List.length_filter_le (fun c => (h c).isSome) tags; omega)) fun d hd => ?_
    obtain ⟨c, hc, rfl⟩ := List.mem_map.mp hd
    exact same_tD hP (ht c (List.mem_filter.mp hc).1)
end
end Mi
end

section
set_option linter.all false
set_option maxRecDepth 100000
set_option autoImplicit false
/-! a law's last def -/
namespace Mi
def lawF (bx ce bh ri : Nat) : Fn := ⟨1, 3, (.cons (.set 1 (.call ce (.cons (.var 0) (.cons (.int 3) .nil))))
  (.cons (.ifs (.not (.call bh .nil))
 (.cons (.ret (.bl false))
  .nil)
 .nil)
  (.cons (.ret (.blt .all (.cons (.comp false (.call ri (.cons (.call bx (.cons (.var 1) (.cons (.var 2) .nil))) .nil)) [2] (.rng (.blt .len (.cons (.var 1) .nil))) .nil [2]) .nil)))
  .nil)))⟩
theorem comp_st {f : D → Sto → Rs (Option D)} {Q : Sto → Prop} : ∀ (xs : List D) (s : Sto), Q s → (∀ x ∈ xs, ∀ s, Q s → ∃ s', f x s = .ok (some (.bl true)) s' ∧ Q s') → ∃ s', compL f xs s = .ok (xs.map fun _ => .bl true) s' ∧ Q s'
  | [], s, q, _ => ⟨s, rfl, q⟩
  | x :: xs, s, q, h => by
    obtain ⟨s1, e1, q1⟩ := h x List.mem_cons_self s q
    obtain ⟨s2, e2, q2⟩ := comp_st xs s1 q1 fun y hy => h y (List.mem_cons_of_mem _ hy)
    refine ⟨s2, ?_, q2⟩
    rw [compL, e1]
    show ((compL f xs s1).bind _) = _
    rw [e2]
    rfl
theorem law_gen {P : List Fn} {k bx ce bh ri la : Nat} {c0 : Int} {ns : List Int} (hB : P[bx]? = some (boxF c0)) (hCe : P[ce]? = some cellsF) (hP : P[la]? = some (lawF bx ce bh ri)) (hbh : callN P (k + 1) bh [] [.ro ns] = .ok (.bl true) [.ro ns])
    (hri : ∀ st b, Cell st b 0 → Low st → ∃ st', callN P (k + 1) ri [.ref b] st = .ok (.bl true) st' ∧ Low st') (hn : ns.length ≤ 63) : ∃ s', callN P (k + 2) la [.ref 0] [.ro ns] = .ok (.bl true) s' := by
  obtain ⟨cs, c1, c3, hc⟩ := cells_ok (k := k) hCe hn
  have hlow : Low [.ro ns] := fun n => rfl
  have hcE : evE (callN P (k + 1)) (.call ce (.cons (.var 0) (.cons (.int 3) .nil))) [some (.ref 0), none, none] [.ro ns] = .ok (.lst (iD cs)) [.ro ns] := by
    rw [evE]
    exact hc
  have h7E : evE (callN P (k + 1)) (.not (.call bh .nil)) [some (.ref 0), some (.lst (iD cs)), none] [.ro ns] = .ok (.bl false) [.ro ns] := by
    rw [evE, evE, evEs, bok, hbh]
    rfl
  have er : evR (callN P (k + 1)) (.rng (.blt .len (.cons (.var 1) .nil))) [some (.ref 0), some (.lst (iD cs)), none] [.ro ns] = .ok (rngD 0 cs.length) [.ro ns] := by
    have e1 : evE (callN P (k + 1)) (.blt .len (.cons (.var 1) .nil)) [some (.ref 0), some (.lst (iD cs)), none] [.ro ns] = .ok (.int cs.length) [.ro ns] := by
      rw [← iD_len cs]; rfl
    rw [evR, e1]
    show (if _ then _ else _) = _
    rw [if_pos (by omega)]
    rfl
  have xs3 : (rngD 0 cs.length).length = cs.length := by unfold rngD; simp
  obtain ⟨s', e2, _⟩ := comp_st (Q := Low) (f := cB (callN P (k + 1)) (.call ri (.cons (.call bx (.cons (.var 1) (.cons (.var 2) .nil))) .nil)) [2] .nil [some (.ref 0), some (.lst (iD cs)), none]) (rngD 0 cs.length) [.ro ns] hlow fun x hx s hs => by
    unfold rngD at hx
    obtain ⟨j, hj, rfl⟩ := List.mem_map.mp hx
    have hj := List.mem_range.mp hj
    obtain ⟨s1, e1, hb, hl1, hn1⟩ := box_ok (k := k) (st := s) hB hj c3 hs
    obtain ⟨s2, e2, hl2⟩ := hri s1 s.length hb hl1
    refine ⟨s2, cB_all (ρ1 := [some (.ref 0), some (.lst (iD cs)), some (.int (0 + (j : Int)))]) rfl ?_, hl2⟩
    rw [Int.zero_add]
    have e3 : evE (callN P (k + 1)) (.call bx (.cons (.var 1) (.cons (.var 2) .nil))) [some (.ref 0), some (.lst (iD cs)), some (.int (j : Int))] s = .ok (.ref s.length) s1 := by
      rw [evE]
      exact e1
    rw [evE, evEs, e3, bok, evEs, bok, bok]
    exact e2
  have fin : evE (callN P (k + 1)) (.blt .all (.cons (.comp false (.call ri (.cons (.call bx (.cons (.var 1) (.cons (.var 2) .nil))) .nil)) [2] (.rng (.blt .len (.cons (.var 1) .nil))) .nil [2]) .nil)) [some (.ref 0), some (.lst (iD cs)), none] [.ro ns] = .ok (.bl true) s' := by
    have a1 := ev_comp (m := false) (own := [2]) er (by rw [xs3]; unfold big; omega) e2
    rw [evE, evEs, a1]
    unfold newList
    rw [if_pos (by rw [List.length_map, xs3]; unfold big; omega)]
    simp only [Bool.false_eq_true, if_false, bok, evEs, bltD, lstOf, Option.bind_some, bls_true]
    simp
  refine call_any (s1 := s') hP rfl ?_
  exact (ss_set (d := .lst (iD cs)) (s1 := [.ro ns]) hcE).trans ((ss_ifF0 (d := .bl false) (s1 := [.ro ns]) h7E rfl).trans (ss_ret fin))
end Mi
end

section
set_option linter.all false
set_option maxRecDepth 100000
set_option autoImplicit false
/-! more helpers that many laws share: plain values, frozen, set_of, spots_of -/
namespace Mi
theorem ss_ifX {C : Nat → List D → Sto → Rs D} {ρ ρ1 : Env} {s s1 s2 : Sto} {rest a b : Ss} {c : E} {d : D} {q : Nat} {es : List D} (h : evE C c ρ s = .ok d s1) (ht : truth s1 d = some true) (ha : evSs C a ρ s1 = .ok (.xn q es ρ1) s2) : evSs C (.cons (.ifs c a b) rest) ρ s = .ok (.xn q es ρ1) s2 := by
  simp only [evSs, evS, h, tst, bok, mok, ht, lift, if_true, ha]
theorem ss_rse {C : Nat → List D → Sto → Rs D} {ρ : Env} {s s1 : Sto} {rest : Ss} {e : E} {q : Nat} {es : List D} (h : evE C e ρ s = .ok (.exc q es) s1) : evSs C (.cons (.rse e) rest) ρ s = .ok (.xn q es ρ) s1 := by
  simp only [evSs, evS, h, bok, mok]
theorem ss_retX {C : Nat → List D → Sto → Rs D} {ρ : Env} {s s1 : Sto} {rest : Ss} {e : E} {q : Nat} {es : List D} (h : evE C e ρ s = .ex q es s1) : evSs C (.cons (.ret e) rest) ρ s = .ok (.xn q es ρ) s1 := by
  simp only [evSs, evS, h, bok, Rs.stm]
theorem ss_setX {C : Nat → List D → Sto → Rs D} {ρ : Env} {s s1 : Sto} {rest : Ss} {e : E} {i q : Nat} {es : List D} (h : evE C e ρ s = .ex q es s1) : evSs C (.cons (.set i e) rest) ρ s = .ok (.xn q es ρ) s1 := by
  simp only [evSs, evS, h, bok, Rs.stm]
theorem ss_tryN {C : Nat → List D → Sto → Rs D} {ρ ρ1 : Env} {s s1 : Sto} {rest body : Ss} {hs : Hs} (h : evSs C body ρ s = .ok (.nx ρ1) s1) : evSs C (.cons (.try_ body hs) rest) ρ s = evSs C rest ρ1 s1 := by
  simp only [evSs, evS, h, bok]
theorem ss_tryX {C : Nat → List D → Sto → Rs D} {ρ ρ1 ρ2 : Env} {s s1 s2 : Sto} {rest body : Ss} {hs : Hs} {q : Nat} {es : List D} (h : evSs C body ρ s = .ok (.xn q es ρ1) s1) (hh : evH C hs q es ρ1 s1 = .ok (.nx ρ2) s2) : evSs C (.cons (.try_ body hs) rest) ρ s = evSs C rest ρ2 s2 := by
  simp only [evSs, evS, h, bok, hh]
theorem ss_forX {C : Nat → List D → Sto → Rs D} {ρ ρ1 : Env} {s s1 s2 : Sto} {rest a : Ss} {tg : List Nat} {src : Sr} {xs : List D} {q : Nat} {es : List D} (h : evR C src ρ s = .ok xs s1) (hf : forL tg (evSs C a) xs ρ s1 = .ok (.xn q es ρ1) s2) : evSs C (.cons (.for_ tg src a) rest) ρ s = .ok (.xn q es ρ1) s2 := by
  simp only [evSs, evS, h, bok, mok, hf]
theorem call_xn {P : List Fn} {k f : Nat} {fn : Fn} {ds es : List D} {s s1 : Sto} {q : Nat} {ρ : Env} (h1 : P[f]? = some fn) (h2 : ds.length = fn.np) (hl : s1.length = s.length)
    (h : evSs (callN P k) fn.body (ds.map some ++ List.replicate (fn.nn - fn.np) none) s = .ok (.xn q es ρ) s1) : callN P (k + 1) f ds s = .ex q es s1 := by
  simp only [callN, h1, h2, h, if_true, Rs.bind, leaveX, hl]
section
variable {C : Nat → List D → Sto → Rs D} {ρ : Env} {s s1 : Sto}
theorem ev_ite {c a b : E} {d : D} {t : Bool} {r : Rs D} (h : evE C c ρ s = .ok d s1) (ht : truth s1 d = some t) (hr : evE C (if t then a else b) ρ s1 = r) : evE C (.ite c a b) ρ s = r := by
  rw [evE, h, tst, bok, ht]
  cases t <;> simpa [lift, bok] using hr
theorem ev_comp0 {elt : E} {tg own : List Nat} {src : Sr} {ifs : Es} {xs ys : List D} (h : evR C src ρ s = .ok xs s) (hx : xs.length ≤ 100000) (hy : ys.length ≤ 100000) (hc : compL (cB C elt tg ifs ρ) xs s = .ok ys s) : evE C (.comp false elt tg src ifs own) ρ s = .ok (.lst ys) s := by
  refine (ev_comp h (by unfold big; omega) hc).trans ?_
  unfold newList
  rw [if_pos (by unfold big; omega)]
  rfl
theorem ev_tuple {es : Es} {ds : List D} (h : evEs C es ρ s = .ok [.lst ds] s1) : evE C (.blt .tuple es) ρ s = .ok (.tup ds) s1 := by
  rw [evE, h]
  rfl
end
/-! ### plain values -/
def Pn : Nat → D → Prop
  | 0, d => Leaf d
  | n + 1, d => Leaf d ∨ ∃ ds, seqV d = some ds ∧ ds.length ≤ big ∧ ∀ e ∈ ds, Pn n e
def softN : Nat → D → D
  | n + 1, .lst ds => .lst (ds.map (softN n))
  | n + 1, .tup ds => .lst (ds.map (softN n))
  | _, d => d
def hardN : Nat → D → D
  | n + 1, .lst ds => .tup (ds.map (hardN n))
  | n + 1, .tup ds => .tup (ds.map (hardN n))
  | _, d => d
theorem soft_leaf {n : Nat} {d : D} (h : Leaf d) : softN n d = d := by
  rcases h with rfl | ⟨b, rfl⟩ | ⟨i, rfl⟩ | ⟨c, rfl, _⟩ <;> cases n <;> rfl
theorem hard_leaf {n : Nat} {d : D} (h : Leaf d) : hardN n d = d := by
  rcases h with rfl | ⟨b, rfl⟩ | ⟨i, rfl⟩ | ⟨c, rfl, _⟩ <;> cases n <;> rfl
theorem soft_seq {n : Nat} {d : D} {ds : List D} (h : seqV d = some ds) : softN (n + 1) d = .lst (ds.map (softN n)) := by
  cases d <;> first | (simp only [seqV, Option.some.injEq] at h; subst h; rfl) | (simp [seqV] at h)
theorem hard_seq {n : Nat} {d : D} {ds : List D} (h : seqV d = some ds) : hardN (n + 1) d = .tup (ds.map (hardN n)) := by
  cases d <;> first | (simp only [seqV, Option.some.injEq] at h; subst h; rfl) | (simp [seqV] at h)
theorem Pn.mono : ∀ {n m : Nat} {d : D}, Pn n d → n ≤ m → Pn m d
  | 0, 0, _, h, _ => h
  | 0, m + 1, _, h, _ => .inl h
  | n + 1, m + 1, _, h, hm => h.imp id fun ⟨ds, h1, h2, h3⟩ => ⟨ds, h1, h2, fun e he => (h3 e he).mono (by omega)⟩
theorem Pn.leaf {n : Nat} {d : D} (h : Leaf d) : Pn n d := by
  cases n with
  | zero => exact h
  | succ n => exact .inl h
theorem Pn.seq {n : Nat} {d : D} {ds : List D} (h : seqV d = some ds) (hl : ds.length ≤ 100000) (he : ∀ e ∈ ds, Pn n e) : Pn (n + 1) d := .inr ⟨ds, h, by unfold big; omega, he⟩
section
variable {P : List Fn} {st : Sto} {k : Nat}
theorem same_pn {s : Nat} (hP : P[s]? = some (sameF s)) : ∀ {n : Nat} {d : D}, Pn n d → callN P (k + n + 1) s [d, d] st = .ok (.bl true) st
  | 0, _, h => same_leaf hP h
  | n + 1, _, h => by
    rcases h with h | ⟨ds, h1, h2, h3⟩
    · exact same_leaf hP h
    · exact same_seq (k := k + n + 1) hP h1 h2 fun d hd => same_pn hP (h3 d hd)
theorem lists_pn {l : Nat} (hP : P[l]? = some (listsF l)) : ∀ {n : Nat} {d : D}, Pn n d → callN P (k + n + 1) l [d] st = .ok (softN n d) st
  | 0, _, h => (lists_leaf hP h).trans (by rw [soft_leaf h])
  | n + 1, _, h => by
    rcases h with h | ⟨ds, h1, h2, h3⟩
    · exact (lists_leaf hP h).trans (by rw [soft_leaf h])
    · exact (lists_seq (k := k + n + 1) hP h1 h2 fun d hd => lists_pn hP (h3 d hd)).trans (by rw [soft_seq h1])
def frozenF (f : Nat) : Fn := ⟨1, 2, (.cons (.ifs (.blt (.isinst [.list, .tuple]) (.cons (.var 0) .nil))
 (.cons (.ret (.blt .tuple (.cons (.comp false (.call f (.cons (.var 1) .nil)) [1] (.it (.var 0)) .nil [1]) .nil)))
  .nil)
 .nil)
  (.cons (.ret (.var 0))
  .nil))⟩
theorem frozen_leaf {f : Nat} {d : D} (hP : P[f]? = some (frozenF f)) (h : Leaf d) : callN P (k + 1) f [d] st = .ok d st := by
  refine call_rt hP rfl rfl ?_
  rcases h with rfl | ⟨b, rfl⟩ | ⟨i, rfl⟩ | ⟨c, rfl, _⟩ <;> exact (ss_ifF0 (d := .bl false) rfl rfl).trans rfl
theorem frozen_seq {f : Nat} {g : D} {ds : List D} {q : D → D} (hP : P[f]? = some (frozenF f)) (hg : seqV g = some ds) (hl : ds.length ≤ big) (h : ∀ d ∈ ds, callN P k f [d] st = .ok (q d) st) : callN P (k + 1) f [g] st = .ok (.tup (ds.map q)) st := by
  refine call_rt hP rfl rfl ?_
  have e1 : evE (callN P k) (.blt (.isinst [.list, .tuple]) (.cons (.var 0) .nil)) [some g, none] st = .ok (.bl true) st := by
    cases g <;> first | rfl | (simp [seqV] at hg)
  have e2 : evR (callN P k) (.it (.var 0)) [some g, none] st = .ok ds st := by
    cases g <;> first | (simp only [seqV, Option.some.injEq] at hg; subst hg; rfl) | (simp [seqV] at hg)
  refine ss_ifT (d := .bl true) e1 rfl (ss_ret (ev_tuple (es1 ?_)))
  refine (ev_comp (C := callN P k) (m := false) (elt := .call f (.cons (.var 1) .nil)) (tg := [1]) (own := [1]) (ifs := .nil) e2 hl (comp_map (g := q) ds fun d hd => cB_all (ρ1 := [some g, some d]) rfl (h d hd))).trans ?_
  unfold newList
  rw [if_pos (by rw [List.length_map]; exact hl)]
  rfl
theorem frozen_pn {f : Nat} (hP : P[f]? = some (frozenF f)) : ∀ {n : Nat} {d : D}, Pn n d → callN P (k + n + 1) f [d] st = .ok (hardN n d) st
  | 0, _, h => (frozen_leaf hP h).trans (by rw [hard_leaf h])
  | n + 1, _, h => by
    rcases h with h | ⟨ds, h1, h2, h3⟩
    · exact (frozen_leaf hP h).trans (by rw [hard_leaf h])
    · exact (frozen_seq (k := k + n + 1) hP h1 h2 fun d hd => frozen_pn hP (h3 d hd)).trans (by rw [hard_seq h1])
end
theorem Pn.soft : ∀ {n : Nat} {d : D}, Pn n d → Pn n (softN n d)
  | 0, d, h => by rw [soft_leaf h]; exact h
  | n + 1, d, h => by
    rcases h with h | ⟨ds, h1, h2, h3⟩
    · rw [soft_leaf h]; exact .inl h
    · rw [soft_seq h1]
      refine .inr ⟨_, rfl, by rw [List.length_map]; exact h2, fun e he => ?_⟩
      obtain ⟨x, hx, rfl⟩ := List.mem_map.mp he
      exact (h3 x hx).soft
/-! ### rows -/
theorem leaf_bl (b : Bool) : Leaf (.bl b) := .inr (.inl ⟨b, rfl⟩)
theorem leaf_int (i : Int) : Leaf (.int i) := .inr (.inr (.inl ⟨i, rfl⟩))
theorem leaf_str {c : Cs} (h : okC c = true) : Leaf (.str c) := .inr (.inr (.inr ⟨c, rfl, h⟩))
/-- deeds as the laws draw them -/
structure Deeds (tags : List Cs) (ds : List Deed) : Prop where
  tg : ∀ d ∈ ds, okC d.tag = true
  sp : ∀ s ∈ spotsOf ds, okC s = true
  le : ds.length ≤ 1000
theorem Deeds.leaf {tags : List Cs} {ds : List Deed} (h : Deeds tags ds) : ∀ d ∈ ds, ∀ x ∈ d.l, Leaf x := fun d hd => leaf_deed (h.tg d hd) (deed_sp h.sp d hd)
theorem deed_len (d : Deed) : d.l.length ≤ 100000 := by cases d <;> (show 3 ≤ 100000; decide)
theorem rowQ_seq (m : Bool) (d : Deed) : seqV (rowQ m d) = some d.l := seqV_sq m _
theorem Deeds.pn {tags : List Cs} {ds : List Deed} (h : Deeds tags ds) (m m' : Bool) : Pn 2 (sq m (ds.map (rowQ m'))) := by
  refine Pn.seq (seqV_sq _ _) (by rw [List.length_map]; have := h.le; omega) fun e he => ?_
  obtain ⟨d, hd, rfl⟩ := List.mem_map.mp he
  exact Pn.seq (rowQ_seq m' d) (deed_len d) fun x hx => Pn.leaf (h.leaf d hd x hx)
theorem Deeds.hard {tags : List Cs} {ds : List Deed} (h : Deeds tags ds) (m m' : Bool) : hardN 2 (sq m (ds.map (rowQ m'))) = .tup (ds.map deedD) := by
  rw [hard_seq (seqV_sq _ _), List.map_map]
  congr 1
  refine List.map_congr_left fun d hd => ?_
  show hardN 1 (rowQ m' d) = deedD d
  rw [hard_seq (rowQ_seq m' d)]
  refine congrArg D.tup ?_
  have : ∀ l : List D, (∀ x ∈ l, Leaf x) → l.map (hardN 0) = l := fun l hl => by
    induction l with
    | nil => rfl
    | cons x l ih => rw [List.map_cons, hard_leaf (hl x List.mem_cons_self), ih fun y hy => hl y (List.mem_cons_of_mem _ hy)]
  exact this d.l (h.leaf d hd)
theorem Deeds.soft {tags : List Cs} {ds : List Deed} (h : Deeds tags ds) : softN 2 (.tup (ds.map deedD)) = sq true (ds.map (rowQ true)) := by
  rw [soft_seq (ds := ds.map deedD) rfl, List.map_map]
  refine congrArg D.lst ?_
  refine List.map_congr_left fun d hd => ?_
  show softN 1 (deedD d) = rowQ true d
  rw [soft_seq (ds := d.l) rfl]
  refine congrArg D.lst ?_
  have : ∀ l : List D, (∀ x ∈ l, Leaf x) → l.map (softN 0) = l := fun l hl => by
    induction l with
    | nil => rfl
    | cons x l ih => rw [List.map_cons, soft_leaf (hl x List.mem_cons_self), ih fun y hy => hl y (List.mem_cons_of_mem _ hy)]
  exact this d.l (h.leaf d hd)
theorem row_tup (ds : List Deed) : D.tup (ds.map deedD) = sq false (ds.map (rowQ false)) := rfl
def isGet : Deed → Bool
  | .put _ _ => false
  | .get _ _ => true
def kindD : Deed → D
  | .put _ _ => .str putC
  | .get _ _ => .str getC
def thirdD : Deed → D
  | .put _ v => .int v
  | .get _ s => .str s
theorem gets_third : ∀ ds : List Deed, (ds.filter isGet).map thirdD = strC (spotsOf ds)
  | [] => rfl
  | .put t v :: ds => gets_third ds
  | .get t s :: ds => by
    show D.str s :: (ds.filter isGet).map thirdD = _
    rw [gets_third ds]
    rfl
/-! ### set_of -/
def setOfF : Fn := ⟨1, 1, (.cons (.ret (.blt .tuple (.cons (.blt .sortset (.cons (.var 0) .nil)) .nil))) .nil)⟩
theorem keysD_strs : ∀ l : List Cs, keysD (strC l) = some (l.map K2.ks)
  | [] => rfl
  | c :: l => by
    show (match K2.of (.str c), keysD (strC l) with | some k, some ks => some (k :: ks) | _, _ => none) = _
    rw [keysD_strs l]
    rfl
theorem dedK_strs : ∀ l : List Cs, ∃ z : List Cs, dedK (l.map K2.ks) = z.map K2.ks ∧ (∀ c, c ∈ z ↔ c ∈ l) ∧ z.length ≤ l.length
  | [] => ⟨[], rfl, fun _ => Iff.rfl, Nat.le_refl _⟩
  | c :: l => by
    obtain ⟨z, h1, h2, h3⟩ := dedK_strs l
    show ∃ z : List Cs, (if (l.map K2.ks).any (fun j => decide (j = .ks c)) then dedK (l.map K2.ks) else .ks c :: dedK (l.map K2.ks)) = _ ∧ _
    by_cases h : (l.map K2.ks).any (fun j => decide (j = .ks c)) = true
    · rw [if_pos h]
      refine ⟨z, h1, fun e => ?_, by rw [List.length_cons]; omega⟩
      rw [h2, List.mem_cons]
      refine ⟨.inr, fun h' => h'.elim (fun q => ?_) id⟩
      subst q
      rw [List.any_map, List.any_eq_true] at h
      obtain ⟨x, hx, q⟩ := h
      have : K2.ks x = K2.ks e := of_decide_eq_true q
      cases this
      exact hx
    · rw [if_neg h]
      refine ⟨c :: z, by rw [h1]; rfl, fun e => ?_, by rw [List.length_cons, List.length_cons]; omega⟩
      rw [List.mem_cons, List.mem_cons, h2]
theorem oneKd_strs {l : List Cs} (h : ∀ c ∈ l, okC c = true) : oneKd (l.map K2.ks) = true := by
  unfold oneKd
  rw [Bool.or_eq_true]
  refine .inr ?_
  rw [List.all_map, List.all_eq_true]
  exact fun c hc => h c hc
theorem sortset_strs {l : List Cs} {g : D} {s : Sto} (hg : seqV g = some (strC l)) (h : ∀ c ∈ l, okC c = true) (hl : l.length ≤ 4000) : ∃ z : List Cs, bltD s .sortset [g] = .ok (.lst (strC z)) s ∧ (∀ c, c ∈ z ↔ c ∈ l) ∧ z.length ≤ l.length := by
  obtain ⟨z, h1, h2, h3⟩ := dedK_strs l
  refine ⟨sortC z, ?_, fun c => (sortC_perm z).mem_iff.trans (h2 c), by rw [(sortC_perm z).length_eq]; exact h3⟩
  simp only [bltD]
  rw [seqV_of hg s]
  simp only [Option.bind_some]
  rw [keysD_strs]
  simp only
  rw [if_pos (by rw [oneKd_strs h, Bool.true_and, decide_eq_true_eq, List.length_map]; omega), h1, List.map_map]
  show Rs.ok (D.lst (sortD (strC z))) s = _
  rw [sortD_str]
section
variable {P : List Fn} {st : Sto} {k so : Nat}
theorem setOf_strs {l : List Cs} {g : D} (hP : P[so]? = some setOfF) (hg : seqV g = some (strC l)) (h : ∀ c ∈ l, okC c = true) (hl : l.length ≤ 4000) : ∃ z : List Cs, callN P (k + 1) so [g] st = .ok (.tup (strC z)) st ∧ (∀ c, c ∈ z ↔ c ∈ l) ∧ z.length ≤ l.length := by
  obtain ⟨z, h1, h2, h3⟩ := sortset_strs (s := st) hg h hl
  exact ⟨z, call_rt hP rfl rfl (ss_ret (ev_tuple (es1 (ev_blt (es1 rfl) h1)))), h2, h3⟩
/-! ### spots_of -/
def spotsF (so : Nat) : Fn := ⟨1, 2, (.cons (.ret (.call so (.cons (.comp false (.ix (.var 1) (.int 2)) [1] (.it (.var 0)) (.cons (.cmp .eq (.ix (.var 1) (.int 0)) (.str [103, 101, 116])) .nil) [1]) .nil))) .nil)⟩
theorem first_eq {C : Nat → List D → Sto → Rs D} {ρ : Env} {i : Nat} {m : Bool} {d : Deed} (h : ρ[i]? = some (some (rowQ m d))) : evE C (.cmp .eq (.ix (.var i) (.int 0)) (.str [103, 101, 116])) ρ st = .ok (.bl (isGet d)) st := by
  have e : evE C (.ix (.var i) (.int 0)) ρ st = .ok (kindD d) st := by
    rw [evE, evE, h]
    cases m <;> cases d <;> rfl
  rw [evE, e]
  cases d <;> rfl
theorem third_ok {C : Nat → List D → Sto → Rs D} {ρ : Env} {i : Nat} {m : Bool} {d : Deed} (h : ρ[i]? = some (some (rowQ m d))) : evE C (.ix (.var i) (.int 2)) ρ st = .ok (thirdD d) st := by
  rw [evE, evE, h]
  cases m <;> cases d <;> rfl
theorem walk_sq {C : Nat → List D → Sto → Rs D} {ρ : Env} {i : Nat} {m : Bool} {ds : List D} (h : ρ[i]? = some (some (sq m ds))) : evR C (.it (.var i)) ρ st = .ok ds st := by
  rw [evR, evE, h]
  cases m <;> rfl
theorem spots_len (ds : List Deed) : (spotsOf ds).length ≤ ds.length := List.length_filterMap_le _ _
theorem spots_comp {C : Nat → List D → Sto → Rs D} {ρ : Env} {i j : Nat} {m m' : Bool} {tags : List Cs} {ds : List Deed} (hd : Deeds tags ds) (h : ρ[i]? = some (some (sq m (ds.map (rowQ m'))))) (hj : j < ρ.length) :
    evE C (.comp false (.ix (.var j) (.int 2)) [j] (.it (.var i)) (.cons (.cmp .eq (.ix (.var j) (.int 0)) (.str [103, 101, 116])) .nil) [j]) ρ st = .ok (.lst (strC (spotsOf ds))) st := by
  have hl := hd.le
  refine ev_comp0 (walk_sq h) (by rw [List.length_map]; omega) ?_ (gets_third ds ▸ comp_filter (h := rowQ m') (g := thirdD) (q := isGet) ds fun d hd => ?_)
  · rw [strs_len]; have := spots_len ds; omega
  · have g1 : (ρ.set j (some (rowQ m' d)))[j]? = some (some (rowQ m' d)) := List.getElem?_set_self hj
    exact cB_if (t := isGet d) (y := thirdD d) rfl (first_eq g1) (third_ok g1)
theorem spots_ok {sp : Nat} {m m' : Bool} {tags : List Cs} {ds : List Deed} (hS : P[so]? = some setOfF) (hP : P[sp]? = some (spotsF so)) (hd : Deeds tags ds) : ∃ z : List Cs, callN P (k + 2) sp [sq m (ds.map (rowQ m'))] st = .ok (.tup (strC z)) st ∧ (∀ c, c ∈ z ↔ c ∈ spotsOf ds) ∧ z.length ≤ 1000 := by
  obtain ⟨z, h1, h2, h3⟩ := setOf_strs (k := k) (st := st) (g := .lst (strC (spotsOf ds))) hS rfl hd.sp (by have := spots_len ds; have := hd.le; omega)
  refine ⟨z, call_rt hP rfl rfl (ss_ret ?_), h2, by have := spots_len ds; have := hd.le; omega⟩
  exact ev_call (es1 (spots_comp (i := 0) hd rfl (by show 1 < 2; decide))) h1
end
/-! ### small things -/
theorem comp_each {α : Type} {f : D → Sto → Rs (Option D)} {h g : α → D} {s : Sto} (xs : List α) (hh : ∀ x ∈ xs, f (h x) s = .ok (some (g x)) s) : compL f (xs.map h) s = .ok (xs.map g) s := by
  have := comp_filter (f := f) (h := h) (g := g) (q := fun _ => true) (s := s) xs fun x hx => hh x hx
  rw [this, List.filter_eq_self.mpr fun _ _ => rfl]
theorem blsOf_map {α : Type} (f : α → Bool) : ∀ xs : List α, blsOf (xs.map fun x => D.bl (f x)) = some (xs.map f)
  | [] => rfl
  | x :: xs => by
    show (blsOf (xs.map fun x => D.bl (f x))).map (f x :: ·) = _
    rw [blsOf_map f xs]
    rfl
theorem in_ints {g : D} {l : List Int} {i : Int} {s : Sto} (hg : seqV g = some (iD l)) : inD s (.int i) g = some (l.contains i) := by
  unfold inD
  rw [seqV_of hg s]
  show (if (D.pl 60 (.int i) && (iD l).all (D.pl 60)) = true then some ((iD l).any fun z => D.eqv z (.int i)) else none) = _
  rw [if_pos (by
    show (true && _) = true
    rw [Bool.true_and, List.all_eq_true]
    intro d hd
    obtain ⟨j, _, rfl⟩ := List.mem_map.mp hd
    rfl)]
  congr 1
  unfold iD
  rw [List.any_map, List.contains_eq_any_beq]
  congr 1
  funext x
  show (x == i) = (i == x)
  exact Bool.eq_iff_iff.mpr ⟨fun h => by simpa using (by simpa using h : x = i).symm, fun h => by simpa using (by simpa using h : i = x).symm⟩
theorem forL_xn {f : Env → Sto → Rs Fl} {tg : List Nat} {x : D} {xs : List D} {ρ ρ1 ρ2 : Env} {s s1 : Sto} {q : Nat} {es : List D} (ht : tgt tg x ρ = some ρ1) (h : f ρ1 s = .ok (.xn q es ρ2) s1) : forL tg f (x :: xs) ρ s = .ok (.xn q es ρ2) s1 := by
  simp only [forL, ht, h, bok]
/-- what is left when some places go -/
def leftD (lot : List Int) : Nat → List D → List D
  | _, [] => []
  | i, d :: ds => if lot.contains (i : Int) then leftD lot (i + 1) ds else d :: leftD lot (i + 1) ds
theorem leftD_sub (lot : List Int) : ∀ (i : Nat) (ds : List D), (leftD lot i ds).Sublist ds
  | _, [] => .refl _
  | i, d :: ds => by
    unfold leftD
    split
    · exact (leftD_sub lot (i + 1) ds).cons d
    · exact (leftD_sub lot (i + 1) ds).cons_cons d
theorem left_comp {f : D → Sto → Rs (Option D)} {lot : List Int} {s : Sto} (h : ∀ (i : Nat) (d : D), f (.tup [.int i, d]) s = .ok (if lot.contains (i : Int) then none else some d) s) : ∀ (i : Nat) (ds : List D), compL f (enumD i ds) s = .ok (leftD lot i ds) s
  | _, [] => rfl
  | i, d :: ds => by
    show compL f (.tup [.int i, d] :: enumD (i + 1) ds) s = _
    rw [compL, h i d]
    show ((compL f (enumD (i + 1) ds) s).bind _) = _
    rw [left_comp h (i + 1) ds, leftD]
    cases lot.contains (i : Int) <;> rfl
def firstsD (ds : List D) : List D := (List.range (ds.length + 1)).map fun j => D.tup (ds.take j)
theorem enumK_len : ∀ (i : Nat) (ds : List D), (enumD i ds).length = ds.length
  | _, [] => rfl
  | i, d :: ds => by
    show (enumD (i + 1) ds).length + 1 = _
    rw [enumK_len (i + 1) ds]
    rfl
theorem firsts_comp {C : Nat → List D → Sto → Rs D} {ρ : Env} {st : Sto} {tv jv : Nat} {ds : List D} (h : ρ[tv]? = some (some (.tup ds))) (hne : tv ≠ jv) (hj : jv < ρ.length) (hl : ds.length ≤ 1000) :
    evE C (.comp false (.sl (.var tv) .none (.some (.var jv))) [jv] (.rng (.bin .add (.blt .len (.cons (.var tv) .nil)) (.int 1))) .nil [jv]) ρ st = .ok (.lst (firstsD ds)) st := by
  have er : evR C (.rng (.bin .add (.blt .len (.cons (.var tv) .nil)) (.int 1))) ρ st = .ok (rngD 0 (ds.length + 1)) st := by
    have e1 : evE C (.bin .add (.blt .len (.cons (.var tv) .nil)) (.int 1)) ρ st = .ok (.int ((ds.length + 1 : Nat) : Int)) st := by
      have e0 : evE C (.var tv) ρ st = .ok (.tup ds) st := by rw [evE, h]
      rw [evE, ev_blt (es1 e0) (r := .ok (.int ds.length) st) rfl]
      rfl
    rw [evR, e1, bok]
    show (if _ then _ else _) = _
    rw [if_pos (by omega), Int.toNat_natCast]
  have e3 : compL (cB C (.sl (.var tv) .none (.some (.var jv))) [jv] .nil ρ) (rngD 0 (ds.length + 1)) st = .ok (firstsD ds) st := by
    refine comp_each (h := fun (i : Nat) => D.int (0 + (i : Int))) (g := fun j => D.tup (ds.take j)) (List.range (ds.length + 1)) fun j _ => ?_
    rw [Int.zero_add]
    refine cB_all (ρ1 := ρ.set jv (some (.int j))) rfl ?_
    have g1 : (ρ.set jv (some (.int (j : Int))))[jv]? = some (some (.int j)) := List.getElem?_set_self hj
    have g2 : (ρ.set jv (some (.int (j : Int))))[tv]? = some (some (.tup ds)) := by rw [List.getElem?_set_ne (Ne.symm hne)]; exact h
    simp only [evE, g1, g2, evO, bok, slD, cut_to]
  refine ev_comp0 er ?_ ?_ e3
  · unfold rngD; rw [List.length_map, List.length_range]; omega
  · unfold firstsD; rw [List.length_map, List.length_range]; omega
theorem mkK0 {P : List Fn} {k i j c : Nat} {st : Sto} (h1 : P[j]? = some (mkC i 0)) (h2 : P[i]? = some (mkE c 0)) : callN P (k + 2) j [] st = .ok (.exc c []) st :=
  call_rt h1 rfl rfl (ss_ret (ev_call es_nil (call_rt h2 rfl rfl (ss_ret rfl))))
theorem mkK1 {P : List Fn} {k i j c : Nat} {st : Sto} {d : D} (h1 : P[j]? = some (mkC i 1)) (h2 : P[i]? = some (mkE c 1)) : callN P (k + 2) j [d] st = .ok (.exc c [d]) st :=
  call_rt h1 rfl rfl (ss_ret (ev_call (es1 rfl) (call_rt h2 rfl rfl (ss_ret rfl))))
end Mi
end

section
set_option linter.all false
set_option maxRecDepth 100000
set_option autoImplicit false
/-! more helpers: the last put before a place; sources by it; names_of, check_names, check_spot -/
namespace Mi
theorem call_nx {P : List Fn} {k f : Nat} {fn : Fn} {ds : List D} {s s1 : Sto} {ρ : Env} (h1 : P[f]? = some fn) (h2 : ds.length = fn.np) (hl : s1.length = s.length)
    (h : evSs (callN P k) fn.body (ds.map some ++ List.replicate (fn.nn - fn.np) none) s = .ok (.nx ρ) s1) : callN P (k + 1) f ds s = .ok .non s1 := by
  simp only [callN, h1, h2, h, if_true, Rs.bind, leave, hl]
theorem ss_exprX {C : Nat → List D → Sto → Rs D} {ρ : Env} {s s1 : Sto} {rest : Ss} {e : E} {q : Nat} {es : List D} (h : evE C e ρ s = .ex q es s1) : evSs C (.cons (.expr e) rest) ρ s = .ok (.xn q es ρ) s1 := by
  simp only [evSs, evS, h, bok, Rs.stm]
/-! ### the last one -/
def lastN (q : Nat → Bool) (p : Nat) : Option Nat := ((List.range p).filter q).getLast?
theorem lastN_succ (q : Nat → Bool) (p : Nat) : lastN q (p + 1) = if q p then some p else lastN q p := by
  unfold lastN
  rw [List.range_succ, List.filter_append]
  cases h : q p <;> simp [List.filter_cons, h]
def putIn (ds : List Deed) (f : Cs → Bool) (j : Nat) : Bool := match ds[j]? with
  | some (.put t _) => f t
  | _ => false
def getAt (ds : List Deed) (j : Nat) : Bool := match ds[j]? with
  | some (.get _ _) => true
  | _ => false
def spotAt (ds : List Deed) (j : Nat) : Cs := match ds[j]? with
  | some (.get _ s) => s
  | _ => []
def tagAt (ds : List Deed) (j : Nat) : Cs := match ds[j]? with
  | some d => d.tag
  | none => []
def lastC (x : Cs → Nat) (ds : List Deed) (i p : Nat) : Option Nat := lastN (putIn ds fun t => x t == i) p
def toldN (x : Cs → Nat) (ds : List Deed) (p : Nat) : List (Cs × Option Nat) := ((List.range p).filter (getAt ds)).map fun k => (spotAt ds k, lastC x ds (x (tagAt ds k)) k)
theorem drop_one {α : Type} {l r : List α} {a : α} {p : Nat} (h : l.drop p = a :: r) : l[p]? = some a ∧ l.drop (p + 1) = r := by
  constructor
  · have : (l.drop p)[0]? = some a := by rw [h]; rfl
    rw [List.getElem?_drop] at this
    simpa using this
  · have : (l.drop p).tail = r := by rw [h]; rfl
    rw [← this, List.tail_drop]
theorem toldN_succ (x : Cs → Nat) (ds : List Deed) (p : Nat) : toldN x ds (p + 1) = toldN x ds p ++ if getAt ds p then [(spotAt ds p, lastC x ds (x (tagAt ds p)) p)] else [] := by
  unfold toldN
  rw [List.range_succ, List.filter_append, List.map_append]
  congr 1
  cases h : getAt ds p <;> simp [List.filter_cons, h]
theorem runP_eq (x : Cs → Nat) (ds : List Deed) : ∀ (r : List Deed) (p : Nat) (lt : Nat → Option Nat) (T : List (Cs × Option Nat)), ds.drop p = r → p ≤ ds.length → (∀ i, lt i = lastC x ds i p) → T = toldN x ds p →
    (∀ i, (runP x p (lt, T) r).1 i = lastC x ds i ds.length) ∧ (runP x p (lt, T) r).2 = toldN x ds ds.length
  | [], p, lt, T, h, hp, h1, h2 => by
    have : p = ds.length := by
      have := congrArg List.length h
      rw [List.length_drop, List.length_nil] at this
      omega
    subst this
    exact ⟨h1, h2⟩
  | .put t v :: r, p, lt, T, h, hp, h1, h2 => by
    obtain ⟨e1, e2⟩ := drop_one h
    have hlt : p < ds.length := (List.getElem?_eq_some_iff.mp e1).1
    refine runP_eq x ds r (p + 1) _ _ e2 hlt (fun i => ?_) ?_
    · unfold lastC
      rw [lastN_succ]
      have : putIn ds (fun t => x t == i) p = (x t == i) := by unfold putIn; rw [e1]
      rw [this]
      show (if i = x t then some p else lt i) = _
      by_cases hi : i = x t
      · rw [if_pos hi, if_pos (by rw [beq_iff_eq]; exact hi.symm)]
      · rw [if_neg hi, if_neg (by rw [beq_iff_eq]; exact fun q => hi q.symm)]
        exact h1 i
    · rw [toldN_succ]
      have : getAt ds p = false := by unfold getAt; rw [e1]
      rw [this, h2]
      simp
  | .get t s :: r, p, lt, T, h, hp, h1, h2 => by
    obtain ⟨e1, e2⟩ := drop_one h
    have hlt : p < ds.length := (List.getElem?_eq_some_iff.mp e1).1
    refine runP_eq x ds r (p + 1) _ _ e2 hlt (fun i => ?_) ?_
    · unfold lastC
      rw [lastN_succ]
      have : putIn ds (fun t => x t == i) p = false := by unfold putIn; rw [e1]
      rw [this]
      exact h1 i
    · rw [toldN_succ]
      have a1 : getAt ds p = true := by unfold getAt; rw [e1]
      have a2 : spotAt ds p = s := by unfold spotAt; rw [e1]
      have a3 : tagAt ds p = t := by unfold tagAt; rw [e1]; rfl
      rw [a1, a2, a3, h2]
      show toldN x ds p ++ [(s, lt (x t))] = _
      rw [h1]
      rfl
theorem toldN_spots (x : Cs → Nat) (ds : List Deed) : ∀ p, p ≤ ds.length → (toldN x ds p).map (·.1) = spotsOf (ds.take p)
  | 0, _ => rfl
  | p + 1, h => by
    have hp : p < ds.length := h
    rw [toldN_succ, List.map_append, toldN_spots x ds p (by omega), List.take_succ]
    unfold spotsOf
    rw [List.filterMap_append]
    congr 1
    have e : ds[p]? = some ds[p] := List.getElem?_eq_getElem hp
    unfold getAt spotAt
    rw [e]
    cases ds[p] <;> rfl
def leftN (o : List (List Cs)) (ds : List Deed) : List (Cs × Option Nat) := o.flatten.map fun c => (c, lastC (hx o) ds (hx o c) ds.length)
section
variable {P : List Fn} {k hm so : Nat} {st : Sto} {m : Bool} {o : List (List Cs)} {ds : List Deed}
theorem sources_at (hH : P[hm]? = some homesF) (hP : P[so]? = some (sourcesF hm)) (hn : o.flatten.Nodup) (hl : o.flatten.length ≤ 1000) (hsh : ∀ c ∈ o.flatten, c.length ≤ 1000) (hd : ds.length ≤ 1000) (h3 : ∀ d ∈ ds, d.tag ∈ o.flatten) (h4 : ∀ d ∈ ds, okC d.tag = true) (h5 : (spotsOf ds).Nodup) (hlow : Low st) :
    callN P (k + 2) so [sq m (ds.map (rowQ m)), sq m (o.map (cellQ m))] st = .ok (.tup [.dct (tks (toldN (hx o) ds ds.length)) (tvs (toldN (hx o) ds ds.length)), .dct (tks (leftN o ds)) (tvs (leftN o ds))]) st := by
  rw [sources_ok hH hP hn hl hsh hd h3 h4 h5 hlow]
  obtain ⟨e1, e2⟩ := runP_eq (hx o) ds ds 0 (fun _ => none) [] rfl (Nat.zero_le _) (fun _ => rfl) rfl
  have e3 : namesN o (runP (hx o) 0 (fun _ => none, []) ds).1 = leftN o ds := by
    unfold namesN leftN
    refine List.map_congr_left fun c _ => ?_
    rw [e1]
  rw [e2, e3]
end
/-! ### deeds by their place -/
section
variable {C : Nat → List D → Sto → Rs D} {ρ : Env} {s : Sto} {ds : List Deed} {d : Deed}
theorem deed_at {i j p : Nat} (h : ρ[i]? = some (some (.tup (ds.map deedD)))) (hj : ρ[j]? = some (some (.int (p : Int)))) (hd : ds[p]? = some d) : evE C (.ix (.var i) (.var j)) ρ s = .ok (deedD d) s := by
  have e1 : evE C (.var i) ρ s = .ok (.tup (ds.map deedD)) s := by rw [evE, h]
  have e2 : evE C (.var j) ρ s = .ok (.int (p : Int)) s := by rw [evE, hj]
  rw [evE, e1, bok, e2, bok]
  exact ix_seq (g := .tup (ds.map deedD)) rfl (by omega) (by rw [Int.toNat_natCast, List.getElem?_map, hd]; rfl) s
theorem deed_0 {e : E} (h : evE C e ρ s = .ok (deedD d) s) : evE C (.ix e (.int 0)) ρ s = .ok (kindD d) s := by
  rw [evE, h]
  cases d <;> rfl
theorem deed_1 {e : E} (h : evE C e ρ s = .ok (deedD d) s) : evE C (.ix e (.int 1)) ρ s = .ok (.str d.tag) s := by
  rw [evE, h]
  cases d <;> rfl
theorem deed_2 {e : E} (h : evE C e ρ s = .ok (deedD d) s) : evE C (.ix e (.int 2)) ρ s = .ok (thirdD d) s := by
  rw [evE, h]
  cases d <;> rfl
theorem kind_get {e : E} (h : evE C e ρ s = .ok (kindD d) s) : evE C (.cmp .eq e (.str [103, 101, 116])) ρ s = .ok (.bl (isGet d)) s := by
  rw [evE, h]
  cases d <;> rfl
theorem kind_put {e : E} (h : evE C e ρ s = .ok (kindD d) s) : evE C (.cmp .eq e (.str [112, 117, 116])) ρ s = .ok (.bl (!isGet d)) s := by
  rw [evE, h]
  cases d <;> rfl
theorem ev_and {a b : E} {x : Bool} {y : Bool} (h : evE C a ρ s = .ok (.bl x) s) (h2 : x = true → evE C b ρ s = .ok (.bl y) s) : evE C (.and a b) ρ s = .ok (.bl (x && y)) s := by
  rw [evE, h, bok]
  cases x with
  | false => rfl
  | true => exact h2 rfl
end
def intN (l : List Nat) : List D := l.map fun (k : Nat) => D.int (k : Int)
theorem rngD_intN (n : Nat) : rngD 0 n = intN (List.range n) := by
  unfold rngD intN
  refine List.map_congr_left fun k _ => ?_
  rw [Int.zero_add]
theorem rng_var {C : Nat → List D → Sto → Rs D} {ρ : Env} {s : Sto} {i n : Nat} (h : ρ[i]? = some (some (.int (n : Int)))) (hn : n ≤ 100000) : evR C (.rng (.var i)) ρ s = .ok (intN (List.range n)) s := by
  have e1 : evE C (.var i) ρ s = .ok (.int (n : Int)) s := by rw [evE, h]
  rw [evR, e1, bok]
  show (if _ then _ else _) = _
  rw [if_pos (by omega), Int.toNat_natCast, rngD_intN]
/-! ### _law_last -/
def lastF (a : Nat) : Fn := ⟨4, 7, (.cons (.set 4 (.call a (.cons (.var 1) (.cons (.var 2) .nil))))
  (.cons (.set 5 (.comp false (.var 6) [6] (.rng (.var 3)) (.cons (.and (.cmp .eq (.ix (.ix (.var 0) (.var 6)) (.int 0)) (.str [112, 117, 116])) (.cmp .isin (.ix (.ix (.var 0) (.var 6)) (.int 1)) (.var 4))) .nil) [6]))
  (.cons (.ret (.ite (.cmp .ne (.var 5) (.lst false .nil)) (.ix (.var 5) (.neg (.int 1))) .non))
  .nil)))⟩
theorem last_ix {s : Sto} {l : List Nat} {p : Nat} (h : l.getLast? = some p) (hl : l.length ≤ 100000) : ixD s (.lst (intN l)) (.int (-1)) = .ok (.int (p : Int)) s := by
  have hne : l ≠ [] := fun e => by subst e; cases h
  have hlen : (intN l).length = l.length := List.length_map ..
  have h0 : 0 < l.length := List.length_pos_iff.mpr hne
  have e1 : ixN (intN l).length (-1) = some (l.length - 1) := by
    unfold ixN
    rw [if_neg (by omega), if_pos (by rw [hlen]; omega), hlen]
    congr 1
    omega
  have e2 : (intN l)[l.length - 1]? = some (.int (p : Int)) := by
    unfold intN
    rw [List.getElem?_map, ← List.getLast?_eq_getElem?, h]
    rfl
  show (match ixN (intN l).length (-1) with
        | some j => lift s (intN l)[j]?
        | none => Rs.stuck) = _
  rw [e1]
  simp only
  rw [e2]
  rfl
section
variable {P : List Fn} {k a la : Nat} {st : Sto} {o : List (List Cs)} {ds : List Deed} {tags : List Cs}
theorem last_ok {t : Cs} {p : Nat} (hA : P[a]? = some atF) (hP : P[la]? = some (lastF a)) (hp : Part tags o) (hn : tags.Nodup) (hok : ∀ c ∈ tags, okC c = true) (hl : o.length ≤ 100000) (h3 : ∀ d ∈ ds, d.tag ∈ tags) (ht : t ∈ tags) (hpl : p ≤ ds.length) (hd : ds.length ≤ 1000) :
    callN P (k + 2) la [.tup (ds.map deedD), ownD o, .str t, .int (p : Int)] st = .ok (optD (lastC (hx o) ds (hx o t) p)) st := by
  have ho := hp.okC hok
  have cov : ∀ c ∈ tags, ∃ l ∈ o, c ∈ l := fun c hc => by
    have := hp.perm.mem_iff.mpr hc
    rw [List.mem_flatten] at this
    exact this
  have hnf : o.flatten.Nodup := hp.perm.nodup_iff.mpr hn
  have ea := at_ok (k := k) (st := st) hA ho hl (hok t ht) (cov t ht)
  obtain ⟨hw1, hw2⟩ : owC o t ∈ o ∧ ∀ c ∈ owC o t, okC c = true := by
    obtain ⟨r, _, h1, _⟩ := ownOf_spec (cov t ht)
    exact ⟨h1, ho _ h1⟩
  have e5 : evE (callN P (k + 1)) (.comp false (.var 6) [6] (.rng (.var 3)) (.cons (.and (.cmp .eq (.ix (.ix (.var 0) (.var 6)) (.int 0)) (.str [112, 117, 116])) (.cmp .isin (.ix (.ix (.var 0) (.var 6)) (.int 1)) (.var 4))) .nil) [6]) [some (.tup (ds.map deedD)), some (ownD o), some (.str t), some (.int (p : Int)), some (cellD (owC o t)), none, none] st = .ok (.lst (intN ((List.range p).filter (putIn ds fun c => hx o c == hx o t)))) st := by
    refine ev_comp0 (rng_var rfl (by omega)) (by unfold intN; rw [List.length_map, List.length_range]; omega) ?_ (comp_filter (h := fun (j : Nat) => D.int (j : Int)) (g := fun (j : Nat) => D.int (j : Int)) (q := putIn ds fun c => hx o c == hx o t) (List.range p) fun j hj => ?_)
    · have := List.length_filter_le (putIn ds fun c => hx o c == hx o t) (List.range p)
      rw [List.length_range] at this
      unfold intN
      rw [List.length_map]
      omega
    · have hj := List.mem_range.mp hj
      obtain ⟨d, hd2⟩ : ∃ d, ds[j]? = some d := ⟨_, List.getElem?_eq_getElem (by omega)⟩
      have htg := h3 d (List.mem_of_getElem? hd2)
      refine cB_if (ρ1 := [some (.tup (ds.map deedD)), some (ownD o), some (.str t), some (.int (p : Int)), some (cellD (owC o t)), none, some (.int (j : Int))]) (t := putIn ds (fun c => hx o c == hx o t) j) (y := .int (j : Int)) rfl ?_ rfl
      have d0 := deed_at (C := callN P (k + 1)) (ρ := [some (.tup (ds.map deedD)), some (ownD o), some (.str t), some (.int (p : Int)), some (cellD (owC o t)), none, some (.int (j : Int))]) (s := st) (i := 0) (j := 6) rfl rfl hd2
      have e := ev_and (b := .cmp .isin (.ix (.ix (.var 0) (.var 6)) (.int 1)) (.var 4)) (y := (owC o t).contains d.tag) (kind_put (deed_0 d0)) fun _ => by
        rw [evE, deed_1 d0, bok]
        show ofB st (inD st (.str d.tag) (cellD (owC o t))) = _
        rw [in_strs (g := cellD (owC o t)) rfl (hok _ htg) hw2]
        rfl
      refine e.trans ?_
      have : putIn ds (fun c => hx o c == hx o t) j = (!isGet d && (owC o t).contains d.tag) := by
        unfold putIn
        rw [hd2]
        cases d with
        | get t' s' => rfl
        | put t' v =>
          have h1 := own_iff hnf (cov t ht) (cov t' htg)
          show (hx o t' == hx o t) = (true && (owC o t).contains t')
          rw [Bool.true_and, Bool.eq_iff_iff, beq_iff_eq]
          exact h1.symm
      rw [this]
  refine call_rt hP rfl rfl ?_
  refine (ss_set (d := cellD (owC o t)) (s1 := st) (ev_call (es_cons rfl (es1 rfl)) ea)).trans ?_
  refine (ss_set (d := .lst (intN ((List.range p).filter (putIn ds fun c => hx o c == hx o t)))) (s1 := st) e5).trans (ss_ret ?_)
  obtain ⟨L, hL⟩ : ∃ L, L = (List.range p).filter (putIn ds fun c => hx o c == hx o t) := ⟨_, rfl⟩
  have hLl : L.length ≤ 1000 := by
    have := List.length_filter_le (putIn ds fun c => hx o c == hx o t) (List.range p)
    rw [List.length_range] at this
    rw [hL]; omega
  have hlast : lastC (hx o) ds (hx o t) p = L.getLast? := by rw [hL]; rfl
  rw [hlast, ← hL]
  have ec : evE (callN P (k + 1)) (.cmp .ne (.var 5) (.lst false .nil)) [some (.tup (ds.map deedD)), some (ownD o), some (.str t), some (.int (p : Int)), some (cellD (owC o t)), some (.lst (intN L)), none] st = .ok (.bl (!L.isEmpty)) st := by
    show ofB st (cmpD st .ne (.lst (L.map fun (k : Nat) => D.int (k : Int))) (.lst [])) = _
    rw [empty_ne fun _ _ => rfl]
    rfl
  cases hg : L.getLast? with
  | none =>
    have : L = [] := by cases L with
      | nil => rfl
      | cons a l => simp [List.getLast?_cons] at hg
    subst this
    exact ev_ite ec rfl rfl
  | some q =>
    have hne : L.isEmpty = false := by
      cases L with
      | nil => cases hg
      | cons a l => rfl
    rw [hne] at ec
    exact ev_ite ec rfl (last_ix (s := st) hg (by omega))
end
/-! ### options among places -/
theorem eqv_opt (z : Option Nat) (k : Nat) : D.eqv (optD z) (.int (k : Int)) = (some k == z) := by
  cases z with
  | none => rfl
  | some p =>
    show ((p : Int) == (k : Int)) = (some k == some p)
    rw [Bool.eq_iff_iff, beq_iff_eq, beq_iff_eq, Option.some.injEq]
    omega
theorem in_opts {g : D} {Z : List (Option Nat)} {k : Nat} {s : Sto} (hg : seqV g = some (Z.map optD)) : inD s (.int (k : Int)) g = some (Z.contains (some k)) := by
  unfold inD
  rw [seqV_of hg s]
  show (if (D.pl 60 (.int (k : Int)) && (Z.map optD).all (D.pl 60)) = true then some ((Z.map optD).any fun z => D.eqv z (.int (k : Int))) else none) = _
  rw [if_pos (by
    show (true && _) = true
    rw [Bool.true_and, List.all_eq_true]
    intro d hd
    obtain ⟨j, _, rfl⟩ := List.mem_map.mp hd
    cases j <;> rfl)]
  congr 1
  rw [List.any_map, List.contains_eq_any_beq]
  congr 1
  funext x
  exact eqv_opt x k
theorem leaf_opt (z : Option Nat) : Leaf (optD z) := by
  cases z with
  | none => exact .inl rfl
  | some p => exact leaf_int _
/-! ### names and spots -/
def checkF (i : Nat) : Fn := ⟨2, 3, (.cons (.for_ [2] (.it (.var 1))
 (.cons (.ifs (.cmp .notin (.var 2) (.var 0))
 (.cons (.rse (.call i (.cons (.var 2) .nil)))
  .nil)
 .nil)
  .nil))
  .nil)⟩
def namesF (f : Nat) : Fn := ⟨1, 1, (.cons (.ret (.ix (.call f (.cons (.var 0) .nil)) (.int 0))) .nil)⟩
def checkSpotF (sp i : Nat) : Fn := ⟨2, 2, (.cons (.ifs (.cmp .notin (.var 1) (.call sp (.cons (.var 0) .nil)))
 (.cons (.rse (.call i (.cons (.var 1) .nil)))
  .nil)
 .nil)
  .nil)⟩
section
variable {P : List Fn} {k f : Nat} {st : Sto} {tags : List Cs} {c : Cs}
theorem names_okF {nm : Nat} {g : D} {rest : List D} (hF : P[f]? = some (frozenF f)) (hP : P[nm]? = some (namesF f)) (hg : Pn 3 g) (hh : hardN 3 g = .tup (.tup (strC tags) :: rest)) : callN P (k + 5) nm [g] st = .ok (.tup (strC tags)) st := by
  have e := frozen_pn (k := k) (st := st) hF hg
  rw [hh] at e
  refine call_rt hP rfl rfl (ss_ret ?_)
  have e1 : evE (callN P (k + 4)) (.call f (.cons (.var 0) .nil)) [some g] st = .ok (.tup (.tup (strC tags) :: rest)) st := ev_call (es1 rfl) e
  show evE (callN P (k + 4)) (.ix (.call f (.cons (.var 0) .nil)) (.int 0)) [some g] st = _
  rw [evE, e1, bok]
  exact ix_seq (g := .tup (.tup (strC tags) :: rest)) rfl (by decide) rfl st
theorem check_test {C : Nat → List D → Sto → Rs D} {x1 : Option D} (hok : ∀ c ∈ tags, okC c = true) (hc : okC c = true) : evE C (.cmp .notin (.var 2) (.var 0)) [some (.tup (strC tags)), x1, some (.str c)] st = .ok (.bl (!tags.contains c)) st := by
  show ofB st ((inD st (.str c) (.tup (strC tags))).map (!·)) = _
  rw [in_strs rfl hc hok]
  rfl
theorem check_ok {ck i : Nat} (hP : P[ck]? = some (checkF i)) (hok : ∀ c ∈ tags, okC c = true) (hc : c ∈ tags) : callN P (k + 1) ck [.tup (strC tags), .tup [.str c]] st = .ok .non st := by
  have t := check_test (C := callN P k) (st := st) (x1 := some (.tup [.str c])) hok (hok c hc)
  rw [List.contains_iff_mem.mpr hc] at t
  refine call_nx (ρ := [some (.tup (strC tags)), some (.tup [.str c]), some (.str c)]) hP rfl rfl ?_
  exact (ss_for (s1 := st) (xs := [.str c]) rfl (forL_nx (xs := []) rfl ((ss_ifF0 t rfl).trans rfl))).trans rfl
theorem check_no {ck i j e : Nat} (hP : P[ck]? = some (checkF i)) (h1 : P[i]? = some (mkC j 1)) (h2 : P[j]? = some (mkE e 1)) (hok : ∀ c ∈ tags, okC c = true) (hc : c ∉ tags) (hcc : okC c = true) : callN P (k + 3) ck [.tup (strC tags), .tup [.str c]] st = .ex e [.str c] st := by
  have t := check_test (C := callN P (k + 2)) (st := st) (x1 := some (.tup [.str c])) hok hcc
  rw [show tags.contains c = false from by rw [← Bool.not_eq_true, List.contains_iff_mem]; exact hc] at t
  refine call_xn (ρ := [some (.tup (strC tags)), some (.tup [.str c]), some (.str c)]) hP rfl rfl ?_
  exact ss_forX (s1 := st) (xs := [.str c]) rfl (forL_xn (xs := []) rfl (ss_ifX t rfl (ss_rse (ev_call (es1 rfl) (mkK1 (k := k) h1 h2)))))
theorem spot_test {so sp : Nat} {m m' : Bool} {tg : List Cs} {ds : List Deed} (hS : P[so]? = some setOfF) (hQ : P[sp]? = some (spotsF so)) (hd : Deeds tg ds) (hc : okC c = true) : evE (callN P (k + 2)) (.cmp .notin (.var 1) (.call sp (.cons (.var 0) .nil))) [some (sq m (ds.map (rowQ m'))), some (.str c)] st = .ok (.bl (!(spotsOf ds).contains c)) st := by
  obtain ⟨z, e, hz, _⟩ := spots_ok (k := k) (st := st) (m := m) (m' := m') hS hQ hd
  have e1 : evE (callN P (k + 2)) (.call sp (.cons (.var 0) .nil)) [some (sq m (ds.map (rowQ m'))), some (.str c)] st = .ok (.tup (strC z)) st := ev_call (es1 rfl) e
  have e2 : evE (callN P (k + 2)) (.var 1) [some (sq m (ds.map (rowQ m'))), some (.str c)] st = .ok (.str c) st := rfl
  rw [evE, e2, bok, e1, bok]
  show ofB st ((inD st (.str c) (.tup (strC z))).map (!·)) = _
  rw [in_strs rfl hc fun y hy => hd.sp y ((hz y).mp hy)]
  have : z.contains c = (spotsOf ds).contains c := by rw [Bool.eq_iff_iff, List.contains_iff_mem, List.contains_iff_mem, hz]
  rw [this]
  rfl
theorem spot_ok {so sp ck i : Nat} {m m' : Bool} {tg : List Cs} {ds : List Deed} (hS : P[so]? = some setOfF) (hQ : P[sp]? = some (spotsF so)) (hP : P[ck]? = some (checkSpotF sp i)) (hd : Deeds tg ds) (hc : c ∈ spotsOf ds) : callN P (k + 3) ck [sq m (ds.map (rowQ m')), .str c] st = .ok .non st := by
  have t := spot_test (k := k) (st := st) (m := m) (m' := m') hS hQ hd (hd.sp c hc)
  rw [List.contains_iff_mem.mpr hc] at t
  exact call_nx (ρ := [some (sq m (ds.map (rowQ m'))), some (.str c)]) hP rfl rfl ((ss_ifF0 t rfl).trans rfl)
theorem spot_no {so sp ck i j e : Nat} {m m' : Bool} {tg : List Cs} {ds : List Deed} (hS : P[so]? = some setOfF) (hQ : P[sp]? = some (spotsF so)) (hP : P[ck]? = some (checkSpotF sp i)) (h1 : P[i]? = some (mkC j 1)) (h2 : P[j]? = some (mkE e 1)) (hd : Deeds tg ds) (hc : c ∉ spotsOf ds) (hcc : okC c = true) : callN P (k + 3) ck [sq m (ds.map (rowQ m')), .str c] st = .ex e [.str c] st := by
  have t := spot_test (k := k) (st := st) (m := m) (m' := m') hS hQ hd hcc
  rw [show (spotsOf ds).contains c = false from by rw [← Bool.not_eq_true, List.contains_iff_mem]; exact hc] at t
  exact call_xn (ρ := [some (sq m (ds.map (rowQ m'))), some (.str c)]) hP rfl rfl (ss_ifX t rfl (ss_rse (ev_call (es1 rfl) (mkK1 (k := k) h1 h2))))
end
end Mi
end

section
set_option linter.all false
set_option maxRecDepth 100000
set_option autoImplicit false
/-! more helpers: read_from, left_from, a deck's softening, places by enumerate -/
namespace Mi
structure Sit (tags : List Cs) (o : List (List Cs)) (ds : List Deed) : Prop where
  p : Part tags o
  nd : tags.Nodup
  ok : ∀ c ∈ tags, okC c = true
  sh : ∀ c ∈ tags, c.length ≤ 1000
  tl : tags.length ≤ 1000
  dl : ds.length ≤ 1000
  tg : ∀ d ∈ ds, d.tag ∈ tags
  sn : (spotsOf ds).Nodup
  so : ∀ s ∈ spotsOf ds, okC s = true
section
variable {tags : List Cs} {o : List (List Cs)} {ds : List Deed}
theorem Sit.deeds (h : Sit tags o ds) : Deeds tags ds := ⟨fun d hd => h.ok _ (h.tg d hd), h.so, h.dl⟩
theorem Sit.fl (h : Sit tags o ds) : o.flatten.Nodup := h.p.perm.nodup_iff.mpr h.nd
theorem Sit.len (h : Sit tags o ds) : o.flatten.length = tags.length := h.p.perm.length_eq
def readF (cs so : Nat) : Fn := ⟨4, 4, (.cons (.expr (.call cs (.cons (.var 1) (.cons (.var 3) .nil))))
  (.cons (.ret (.ix (.ix (.call so (.cons (.var 1) (.cons (.var 2) .nil))) (.int 0)) (.var 3)))
  .nil))⟩
def leftF (ck nm so : Nat) : Fn := ⟨4, 4, (.cons (.expr (.call ck (.cons (.call nm (.cons (.var 0) .nil)) (.cons (.tup (.cons (.var 3) .nil)) .nil))))
  (.cons (.ret (.ix (.ix (.call so (.cons (.var 1) (.cons (.var 2) .nil))) (.int 1)) (.var 3)))
  .nil))⟩
theorem ix_dct {s : Sto} {ks : List K2} {vs : List D} {c : Cs} {d : D} (h : look (.ks c) ks vs = some d) : ixD s (.dct ks vs) (.str c) = .ok d s := by
  simp only [ixD, seqOf, keyed, K2.of, dctOf, h]
section
variable {P : List Fn} {k hm so sp cs st0 rd lf ck nm fz i1 j1 i2 j2 e1 e2 : Nat} {st : Sto} {m : Bool} {tb : D}
theorem told_in (x : Cs → Nat) {j : Nat} (hj : j < ds.length) (hg : getAt ds j = true) : (spotAt ds j, lastC x ds (x (tagAt ds j)) j) ∈ toldN x ds ds.length :=
  List.mem_map.mpr ⟨j, List.mem_filter.mpr ⟨List.mem_range.mpr hj, hg⟩, rfl⟩
theorem spotAt_in {j : Nat} (hg : getAt ds j = true) : spotAt ds j ∈ spotsOf ds := by
  unfold getAt at hg
  unfold spotAt
  split at hg
  · rename_i t s e
    exact List.mem_filterMap.mpr ⟨_, List.mem_of_getElem? e, rfl⟩
  · cases hg
theorem read_ok (hH : P[hm]? = some homesF) (hS : P[so]? = some (sourcesF hm)) (hO : P[st0]? = some setOfF) (hQ : P[sp]? = some (spotsF st0)) (hC : P[cs]? = some (checkSpotF sp i1)) (hP : P[rd]? = some (readF cs so)) (h : Sit tags o ds) (hlow : Low st) {j : Nat} (hj : j < ds.length) (hg : getAt ds j = true) :
    callN P (k + 4) rd [tb, sq m (ds.map (rowQ m)), sq m (o.map (cellQ m)), .str (spotAt ds j)] st = .ok (optD (lastC (hx o) ds (hx o (tagAt ds j)) j)) st := by
  have e0 := spot_ok (k := k) (st := st) (m := m) (m' := m) hO hQ hC h.deeds (spotAt_in hg)
  have e1 := sources_at (k := k + 1) (st := st) (m := m) hH hS h.fl (by rw [h.len]; exact h.tl) (fun c hc => h.sh c (h.p.perm.mem_iff.mp hc)) h.dl (fun d hd => h.p.perm.mem_iff.mpr (h.tg d hd)) (fun d hd => h.ok _ (h.tg d hd)) h.sn hlow
  refine call_rt hP rfl rfl ?_
  refine (ss_expr (d := .non) (s1 := st) (ev_call (es_cons rfl (es1 rfl)) e0)).trans (ss_ret ?_)
  have a1 : evE (callN P (k + 3)) (.call so (.cons (.var 1) (.cons (.var 2) .nil))) [some tb, some (sq m (ds.map (rowQ m))), some (sq m (o.map (cellQ m))), some (.str (spotAt ds j))] st = _ := ev_call (es_cons rfl (es1 rfl)) e1
  have a2 : evE (callN P (k + 3)) (.ix (.call so (.cons (.var 1) (.cons (.var 2) .nil))) (.int 0)) [some tb, some (sq m (ds.map (rowQ m))), some (sq m (o.map (cellQ m))), some (.str (spotAt ds j))] st = .ok (.dct (tks (toldN (hx o) ds ds.length)) (tvs (toldN (hx o) ds ds.length))) st := by
    rw [evE, a1]
    rfl
  have a3 : evE (callN P (k + 3)) (.var 3) [some tb, some (sq m (ds.map (rowQ m))), some (sq m (o.map (cellQ m))), some (.str (spotAt ds j))] st = .ok (.str (spotAt ds j)) st := rfl
  show evE (callN P (k + 3)) (.ix _ (.var 3)) [some tb, some (sq m (ds.map (rowQ m))), some (sq m (o.map (cellQ m))), some (.str (spotAt ds j))] st = _
  rw [evE, a2, bok, a3, bok]
  exact ix_dct (look_N (by
    rw [toldN_spots _ _ _ (Nat.le_refl _), List.take_length]
    exact h.sn) _ (told_in (hx o) hj hg))
theorem read_no (hO : P[st0]? = some setOfF) (hQ : P[sp]? = some (spotsF st0)) (hC : P[cs]? = some (checkSpotF sp i1)) (hI : P[i1]? = some (mkC j1 1)) (hJ : P[j1]? = some (mkE e1 1)) (hP : P[rd]? = some (readF cs so)) (h : Sit tags o ds) {c : Cs} (hc : c ∉ spotsOf ds) (hcc : okC c = true) :
    callN P (k + 4) rd [tb, sq m (ds.map (rowQ m)), sq m (o.map (cellQ m)), .str c] st = .ex e1 [.str c] st := by
  have e0 := spot_no (k := k) (st := st) (m := m) (m' := m) hO hQ hC hI hJ h.deeds hc hcc
  exact call_xn (ρ := [some tb, some (sq m (ds.map (rowQ m))), some (sq m (o.map (cellQ m))), some (.str c)]) hP rfl rfl (ss_exprX (ev_call (es_cons rfl (es1 rfl)) e0))
theorem left_ok {rest : List D} (hH : P[hm]? = some homesF) (hS : P[so]? = some (sourcesF hm)) (hF : P[fz]? = some (frozenF fz)) (hN : P[nm]? = some (namesF fz)) (hC : P[ck]? = some (checkF i2)) (hP : P[lf]? = some (leftF ck nm so)) (h : Sit tags o ds) (hlow : Low st) (hb : Pn 3 tb) (hh : hardN 3 tb = .tup (.tup (strC tags) :: rest)) {c : Cs} (hc : c ∈ tags) :
    callN P (k + 6) lf [tb, sq m (ds.map (rowQ m)), sq m (o.map (cellQ m)), .str c] st = .ok (optD (lastC (hx o) ds (hx o c) ds.length)) st := by
  have n0 := names_okF (k := k) (st := st) hF hN hb hh
  have e0 := check_ok (k := k + 4) (st := st) hC h.ok hc
  have e1 := sources_at (k := k + 3) (st := st) (m := m) hH hS h.fl (by rw [h.len]; exact h.tl) (fun c hc => h.sh c (h.p.perm.mem_iff.mp hc)) h.dl (fun d hd => h.p.perm.mem_iff.mpr (h.tg d hd)) (fun d hd => h.ok _ (h.tg d hd)) h.sn hlow
  refine call_rt hP rfl rfl ?_
  refine (ss_expr (d := .non) (s1 := st) (ev_call (es_cons (s1 := st) (ev_call (es1 rfl) n0) (es1 rfl)) e0)).trans (ss_ret ?_)
  have a1 : evE (callN P (k + 5)) (.call so (.cons (.var 1) (.cons (.var 2) .nil))) [some tb, some (sq m (ds.map (rowQ m))), some (sq m (o.map (cellQ m))), some (.str c)] st = _ := ev_call (es_cons rfl (es1 rfl)) e1
  have a2 : evE (callN P (k + 5)) (.ix (.call so (.cons (.var 1) (.cons (.var 2) .nil))) (.int 1)) [some tb, some (sq m (ds.map (rowQ m))), some (sq m (o.map (cellQ m))), some (.str c)] st = .ok (.dct (tks (leftN o ds)) (tvs (leftN o ds))) st := by
    rw [evE, a1]
    rfl
  have a3 : evE (callN P (k + 5)) (.var 3) [some tb, some (sq m (ds.map (rowQ m))), some (sq m (o.map (cellQ m))), some (.str c)] st = .ok (.str c) st := rfl
  show evE (callN P (k + 5)) (.ix _ (.var 3)) [some tb, some (sq m (ds.map (rowQ m))), some (sq m (o.map (cellQ m))), some (.str c)] st = _
  rw [evE, a2, bok, a3, bok]
  refine ix_dct (look_N (N := leftN o ds) ?_ (c, lastC (hx o) ds (hx o c) ds.length) (List.mem_map.mpr ⟨c, h.p.perm.mem_iff.mpr hc, rfl⟩))
  unfold leftN
  rw [List.map_map]
  show (o.flatten.map fun c => c).Nodup
  rw [List.map_id']
  exact h.fl
theorem left_no {rest : List D} (hF : P[fz]? = some (frozenF fz)) (hN : P[nm]? = some (namesF fz)) (hC : P[ck]? = some (checkF i2)) (hI : P[i2]? = some (mkC j2 1)) (hJ : P[j2]? = some (mkE e2 1)) (hP : P[lf]? = some (leftF ck nm so)) (h : Sit tags o ds) (hb : Pn 3 tb) (hh : hardN 3 tb = .tup (.tup (strC tags) :: rest)) {c : Cs} {A B : D} (hc : c ∉ tags) (hcc : okC c = true) :
    callN P (k + 6) lf [tb, A, B, .str c] st = .ex e2 [.str c] st := by
  have n0 := names_okF (k := k) (st := st) hF hN hb hh
  have e0 := check_no (k := k + 2) (st := st) hC hI hJ h.ok hc hcc
  exact call_xn (ρ := [some tb, some A, some B, some (.str c)]) hP rfl rfl (ss_exprX (ev_call (es_cons (s1 := st) (ev_call (es1 rfl) n0) (es1 rfl)) e0))
end
/-! ### softening -/
theorem soft_up : ∀ {n m : Nat} {d : D}, Pn n d → n ≤ m → softN m d = softN n d
  | 0, m, d, h, _ => by rw [soft_leaf h, soft_leaf h]
  | n + 1, m + 1, d, h, hm => by
    rcases h with h | ⟨ds, h1, _, h3⟩
    · rw [soft_leaf h, soft_leaf h]
    · rw [soft_seq h1, soft_seq h1]
      refine congrArg D.lst (List.map_congr_left fun e he => soft_up (h3 e he) (by omega))
theorem hard_soft : ∀ {n : Nat} {d : D}, Pn n d → hardN n (softN n d) = hardN n d
  | 0, d, h => by rw [soft_leaf h]
  | n + 1, d, h => by
    rcases h with h | ⟨ds, h1, _, h3⟩
    · rw [soft_leaf h]
    · rw [soft_seq h1, hard_seq (ds := ds.map (softN n)) rfl, hard_seq h1, List.map_map]
      exact congrArg D.tup (List.map_congr_left fun e he => hard_soft (h3 e he))
theorem hard_leaves {n : Nat} : ∀ {l : List D}, (∀ x ∈ l, Leaf x) → l.map (hardN n) = l
  | [], _ => rfl
  | x :: l, h => by rw [List.map_cons, hard_leaf (h x List.mem_cons_self), hard_leaves fun y hy => h y (List.mem_cons_of_mem _ hy)]
theorem soft_leaves {n : Nat} : ∀ {l : List D}, (∀ x ∈ l, Leaf x) → l.map (softN n) = l
  | [], _ => rfl
  | x :: l, h => by rw [List.map_cons, soft_leaf (h x List.mem_cons_self), soft_leaves fun y hy => h y (List.mem_cons_of_mem _ hy)]
theorem Pn.strs {l : List Cs} (h : ∀ c ∈ l, okC c = true) (hl : l.length ≤ 100000) : Pn 1 (.tup (strC l)) := Pn.seq rfl (by rw [strs_len]; exact hl) fun x hx => Pn.leaf (leaf_strs h x hx)
theorem Pn.prs {ps : List (Cs × Cs)} (h : ∀ p ∈ ps, okC p.1 = true ∧ okC p.2 = true) (hl : ps.length ≤ 100000) : Pn 2 (.tup (ps.map prD)) := by
  refine Pn.seq rfl (by rw [List.length_map]; exact hl) fun x hx => ?_
  obtain ⟨p, hp, rfl⟩ := List.mem_map.mp hx
  refine Pn.seq rfl (by show 2 ≤ 100000; decide) fun y hy => ?_
  rcases List.mem_cons.mp hy with rfl | hy
  · exact Pn.leaf (leaf_str (h p hp).1)
  · rw [List.mem_singleton.mp hy]
    exact Pn.leaf (leaf_str (h p hp).2)
theorem Tab.pn {mm : Nat} {ones ap : List (Cs × Cs)} (h : Tab mm tags ones ap) (hm : mm ≤ 1000) : Pn 3 (deckD tags ones ap) := by
  have hok := h.ok
  have hl := h.le
  have o1 := h.on
  have o2 := h.an
  refine Pn.seq rfl (by show 3 ≤ 100000; decide) fun e he => ?_
  simp only [List.mem_cons, List.not_mem_nil, or_false] at he
  rcases he with rfl | rfl | rfl
  · exact (Pn.strs hok (by omega)).mono (by decide)
  · exact Pn.prs (fun p hp => ⟨hok _ (h.ons p hp).1, hok _ (h.ons p hp).2⟩) (by omega)
  · exact Pn.prs (fun p hp => ⟨hok _ (h.aps p hp).1, hok _ (h.aps p hp).2⟩) (by omega)
theorem Tab.hard {mm : Nat} {ones ap : List (Cs × Cs)} (h : Tab mm tags ones ap) : hardN 3 (deckD tags ones ap) = .tup (.tup (strC tags) :: [hardN 2 (.tup (ones.map prD)), hardN 2 (.tup (ap.map prD))]) := by
  show D.tup [hardN 2 (.tup (strC tags)), _, _] = _
  rw [hard_seq (d := .tup (strC tags)) rfl, hard_leaves (leaf_strs h.ok)]
theorem part_pn {o : List (List Cs)} (h : Part tags o) (hok : ∀ c ∈ tags, okC c = true) (hl : tags.length ≤ 1000) : Pn 2 (ownD o) := by
  have h1 := h.len
  refine Pn.seq rfl (by rw [List.length_map]; omega) fun e he => ?_
  obtain ⟨l, hl2, rfl⟩ := List.mem_map.mp he
  refine Pn.strs (h.okC hok l hl2) ?_
  have h2 : l.length ≤ o.flatten.length := (List.sublist_flatten_of_mem hl2).length_le
  rw [h.perm.length_eq] at h2
  omega
theorem part_soft {o : List (List Cs)} (h : Part tags o) (hok : ∀ c ∈ tags, okC c = true) : softN 2 (ownD o) = sq true (o.map (cellQ true)) := by
  show D.lst ((o.map cellD).map (softN 1)) = D.lst _
  rw [List.map_map]
  refine congrArg D.lst (List.map_congr_left fun l hl => ?_)
  show softN 1 (.tup (strC l)) = .lst (strC l)
  rw [soft_seq (d := .tup (strC l)) rfl, soft_leaves (leaf_strs (h.okC hok l hl))]
theorem ev_catL {C : Nat → List D → Sto → Rs D} {ρ : Env} {s s1 s2 : Sto} {e f : E} {x y : List D} (ha : evE C e ρ s = .ok (.lst x) s1) (hb : evE C f ρ s1 = .ok (.lst y) s2) (hl : x.length + y.length ≤ 10000) : evE C (.bin .add e f) ρ s = .ok (.lst (x ++ y)) s2 := by
  rw [evE, ha, bok, hb, bok]
  show (if (x ++ y).length ≤ big then _ else _) = _
  rw [if_pos (by rw [List.length_append]; unfold big; omega)]
/-! ### enumerate by places -/
theorem enumK_get : ∀ (L : List D) (i j : Nat), (enumD i L)[j]? = (L[j]?).map fun d => D.tup [.int ((i + j : Nat) : Int), d]
  | [], _, _ => by simp [enumD]
  | d :: L, i, 0 => by simp [enumD]
  | d :: L, i, j + 1 => by
    show (enumD (i + 1) L)[j]? = _
    rw [enumK_get L (i + 1) j, List.getElem?_cons_succ, show i + 1 + j = i + (j + 1) by omega]
theorem enumD_map {α : Type} (g : α → D) (L : List α) : enumD 0 (L.map g) = (List.range L.length).map fun (j : Nat) => D.tup [.int (j : Int), ((L[j]?).map g).getD .non] := by
  refine List.ext_getElem? fun j => ?_
  rw [enumK_get, List.getElem?_map, List.getElem?_map, Nat.zero_add]
  by_cases hj : j < L.length
  · rw [List.getElem?_range hj]
    have e : L[j]? = some L[j] := List.getElem?_eq_getElem hj
    simp only [Option.map_some, e, Option.getD_some]
  · rw [List.getElem?_eq_none (by omega), List.getElem?_eq_none (by rw [List.length_range]; omega)]
    rfl
end
end Mi
end

section
set_option maxRecDepth 100000
set_option linter.all false
namespace K17
open Mi
/-- frozen: 0 value 1 part -/
def b0 : Ss := (.cons (.ifs (.blt (.isinst [.list, .tuple]) (.cons (.var 0) .nil))
 (.cons (.ret (.blt .tuple (.cons (.comp false (.call 0 (.cons (.var 1) .nil)) [1] (.it (.var 0)) .nil [1]) .nil)))
  .nil)
 .nil)
  (.cons (.ret (.var 0))
  .nil))
def f0 : Fn := ⟨1, 2, b0⟩
/-- set_of: 0 things -/
def b1 : Ss := (.cons (.ret (.blt .tuple (.cons (.blt .sortset (.cons (.var 0) .nil)) .nil)))
  .nil)
def f1 : Fn := ⟨1, 1, b1⟩
/-- check_names: 0 names 1 asked 2 name -/
def b2 : Ss := (.cons (.for_ [2] (.it (.var 1))
 (.cons (.ifs (.cmp .notin (.var 2) (.var 0))
 (.cons (.rse (.call 34 (.cons (.var 2) .nil)))
  .nil)
 .nil)
  .nil))
  .nil)
def f2 : Fn := ⟨2, 3, b2⟩
/-- names_of: 0 table -/
def b3 : Ss := (.cons (.ret (.ix (.call 0 (.cons (.var 0) .nil)) (.int 0)))
  .nil)
def f3 : Fn := ⟨1, 1, b3⟩
/-- homes: 0 sameness 1 name 2 place 3 cell -/
def b4 : Ss := (.cons (.ret (.dcomp2 false (.var 1) (.var 2) [2, 3] (.enum (.var 0)) .nil [1] (.it (.var 3)) .nil))
  .nil)
def f4 : Fn := ⟨1, 4, b4⟩
/-- spots_of: 0 row 1 deed -/
def b5 : Ss := (.cons (.ret (.call 1 (.cons (.comp false (.ix (.var 1) (.int 2)) [1] (.it (.var 0)) (.cons (.cmp .eq (.ix (.var 1) (.int 0)) (.str [103, 101, 116])) .nil) [1]) .nil)))
  .nil)
def f5 : Fn := ⟨1, 2, b5⟩
/-- puts_of: 0 row -/
def b6 : Ss := (.cons (.ret (.call 7 (.cons (.var 0) (.cons (.str [112, 117, 116]) .nil))))
  .nil)
def f6 : Fn := ⟨1, 1, b6⟩
/-- _places_of: 0 row 1 word 2 place 3 deed -/
def b7 : Ss := (.cons (.ret (.blt .tuple (.cons (.comp false (.var 2) [2, 3] (.enum (.var 0)) (.cons (.cmp .eq (.ix (.var 3) (.int 0)) (.var 1)) .nil) [2, 3]) .nil)))
  .nil)
def f7 : Fn := ⟨2, 4, b7⟩
/-- check_spot: 0 row 1 spot -/
def b8 : Ss := (.cons (.ifs (.cmp .notin (.var 1) (.call 5 (.cons (.var 0) .nil)))
 (.cons (.rse (.call 36 (.cons (.var 1) .nil)))
  .nil)
 .nil)
  .nil)
def f8 : Fn := ⟨2, 2, b8⟩
/-- sources: 0 row 1 sameness 2 home 3 latest 4 told 5 left 6 place 7 deed 8 cell 9 name -/
def b9 : Ss := (.cons (.set 2 (.call 4 (.cons (.var 1) .nil)))
  (.cons (.set 3 (.dict0 true))
  (.cons (.set 4 (.dict0 true))
  (.cons (.for_ [6, 7] (.enum (.var 0))
 (.cons (.set 8 (.ix (.var 2) (.ix (.var 7) (.int 1))))
  (.cons (.ifs (.cmp .eq (.ix (.var 7) (.int 0)) (.str [112, 117, 116]))
 (.cons (.setix (.var 3) (.var 8) (.var 6))
  .nil)
 (.cons (.setix (.var 4) (.ix (.var 7) (.int 2)) (.mth .get (.var 3) (.cons (.var 8) .nil)))
  .nil))
  .nil)))
  (.cons (.set 5 (.dcomp false (.var 9) (.mth .get (.var 3) (.cons (.ix (.var 2) (.var 9)) .nil)) [9] (.keys (.var 2)) .nil [9]))
  (.cons (.frz 4)
  (.cons (.ret (.tup (.cons (.var 4) (.cons (.var 5) .nil))))
  .nil)))))))
def f9 : Fn := ⟨2, 10, b9⟩
/-- read_from: 0 table 1 row 2 sameness 3 spot -/
def b10 : Ss := (.cons (.expr (.call 8 (.cons (.var 1) (.cons (.var 3) .nil))))
  (.cons (.ret (.ix (.ix (.call 9 (.cons (.var 1) (.cons (.var 2) .nil))) (.int 0)) (.var 3)))
  .nil))
def f10 : Fn := ⟨4, 4, b10⟩
/-- left_from: 0 table 1 row 2 sameness 3 name -/
def b11 : Ss := (.cons (.expr (.call 2 (.cons (.call 3 (.cons (.var 0) .nil)) (.cons (.tup (.cons (.var 3) .nil)) .nil))))
  (.cons (.ret (.ix (.ix (.call 9 (.cons (.var 1) (.cons (.var 2) .nil))) (.int 1)) (.var 3)))
  .nil))
def f11 : Fn := ⟨4, 4, b11⟩
/-- lost_puts: 0 table 1 row 2 sameness 3 seen 4 told 5 left 6 place -/
def b12 : Ss := (.cons (.unp [4, 5] (.call 9 (.cons (.var 1) (.cons (.var 2) .nil))))
  (.cons (.set 3 (.bin .add (.blt .vals (.cons (.var 4) .nil)) (.blt .vals (.cons (.var 5) .nil))))
  (.cons (.ret (.blt .tuple (.cons (.comp false (.var 6) [6] (.it (.call 6 (.cons (.var 1) .nil))) (.cons (.cmp .notin (.var 6) (.var 3)) .nil) [6]) .nil)))
  .nil)))
def f12 : Fn := ⟨3, 7, b12⟩
/-- _law_box: 0 _law_script 1 _law_k 2 _law_cell_so -/
def b13 : Ss := (.cons (.set 2 (.ite (.cmp .lt (.var 1) (.blt .len (.cons (.var 0) .nil))) (.ix (.var 0) (.var 1)) (.int 0)))
  (.cons (.ret (.lst true (.cons (.bin .mul (.blt .abs (.cons (.var 2) .nil)) (.blt .int (.cons (.cmp .ge (.blt .abs (.cons (.var 2) .nil)) (.bin .pow (.int 10) (.int 18))) .nil))) (.cons (.bin .add (.bin .add (.bin .mod (.blt .int (.cons (.var 2) .nil)) (.int 2305843009213693951)) (.bin .mul (.int 39373) (.var 1))) (.int 1191417)) (.cons (.int 0) .nil)))))
  .nil))
def f13 : Fn := ⟨2, 3, b13⟩
/-- _law_take: 0 _law_box_here 1 _law_size_so 2 _law_once_so 3 _law_far_so 4 _law_twice_so 5 _law_drawn_so -/
def b14 : Ss := (.cons (.ifs (.cmp .gt (.ix (.var 0) (.int 0)) (.int 0))
 (.cons (.set 5 (.bin .mod (.blt .int (.cons (.ix (.var 0) (.int 0)) .nil)) (.var 1)))
  (.cons (.setix (.var 0) (.int 0) (.bin .fdiv (.ix (.var 0) (.int 0)) (.var 1)))
  (.cons (.ret (.var 5))
  .nil)))
 .nil)
  (.cons (.setix (.var 0) (.int 2) (.bin .add (.ix (.var 0) (.int 2)) (.int 1)))
  (.cons (.set 2 (.bin .mod (.blt .int (.cons (.bin .mul (.bin .add (.ix (.var 0) (.int 1)) (.bin .mul (.int 48271) (.ix (.var 0) (.int 2)))) (.bin .add (.int 39373) (.ix (.var 0) (.int 2)))) .nil)) (.int 2147483647)))
  (.cons (.set 3 (.bin .add (.bin .mod (.blt .int (.cons (.var 2) .nil)) (.int 40009)) (.int 7)))
  (.cons (.set 4 (.bin .mod (.blt .int (.cons (.bin .mul (.bin .add (.bin .add (.var 2) (.ix (.var 0) (.int 2))) (.bin .fdiv (.ix (.var 0) (.int 1)) (.int 1000003))) (.var 3)) .nil)) (.int 2147483629)))
  (.cons (.ret (.bin .mod (.blt .int (.cons (.bin .fdiv (.bin .mod (.blt .int (.cons (.bin .add (.bin .mul (.var 4) (.int 48271)) (.var 2)) .nil)) (.int 2147483587)) (.int 64)) .nil)) (.var 1)))
  .nil))))))
def f14 : Fn := ⟨2, 6, b14⟩
/-- _law_cells: 0 _law_script 1 _law_most_so 2 _law_cells_so 3 _law_k 4 _law_cell_so 5 _law_at_so -/
def b15 : Ss := (.cons (.set 2 (.or (.blt .listM (.cons (.sl (.var 0) .none (.some (.var 1))) .nil)) (.lst true (.cons (.int 0) .nil))))
  (.cons (.for_ [3, 4] (.enum (.sl (.var 0) (.some (.var 1)) (.some (.int 63))))
 (.cons (.set 5 (.bin .mod (.blt .int (.cons (.var 3) .nil)) (.var 1)))
  (.cons (.setix (.var 2) (.var 5) (.bin .add (.ix (.var 2) (.var 5)) (.bin .mul (.var 4) (.bin .add (.var 3) (.int 2)))))
  .nil)))
  (.cons (.frz 2)
  (.cons (.ret (.var 2))
  .nil))))
def f15 : Fn := ⟨2, 6, b15⟩
/-- _law_of: 0 _law_box_here 1 _law_some_so -/
def b16 : Ss := (.cons (.ret (.ix (.var 1) (.call 14 (.cons (.var 0) (.cons (.blt .len (.cons (.var 1) .nil)) .nil)))))
  .nil)
def f16 : Fn := ⟨2, 2, b16⟩
/-- _law_pick: 0 _law_box_here 1 _law_some_so 2 _law_many_so 3 _law_turn 4 _law_left_so 5 _law_found -/
def b17 : Ss := (.cons (.unp [4, 5] (.tup (.cons (.blt .listM (.cons (.var 1) .nil)) (.cons (.lst true .nil) .nil))))
  (.cons (.for_ [3] (.rng (.blt .min (.cons (.var 2) (.cons (.blt .len (.cons (.var 4) .nil)) .nil))))
 (.cons (.expr (.mth .append (.var 5) (.cons (.mth .pop (.var 4) (.cons (.call 14 (.cons (.var 0) (.cons (.blt .len (.cons (.var 4) .nil)) .nil))) .nil)) .nil)))
  .nil))
  (.cons (.frz 5)
  (.cons (.ret (.var 5))
  .nil))))
def f17 : Fn := ⟨3, 6, b17⟩
/-- _law_same: 0 _law_got 1 _law_due 2 _law_mine_so 3 _law_its_so -/
def b18 : Ss := (.cons (.ifs (.blt (.isinst [.list, .tuple]) (.cons (.var 1) .nil))
 (.cons (.ifs (.or (.cmp .ne (.blt (.isinst [.list]) (.cons (.var 0) .nil)) (.blt (.isinst [.list]) (.cons (.var 1) .nil))) (.cmp .ne (.blt (.isinst [.tuple]) (.cons (.var 0) .nil)) (.blt (.isinst [.tuple]) (.cons (.var 1) .nil))))
 (.cons (.ret (.bl false))
  .nil)
 .nil)
  (.cons (.ifs (.cmp .ne (.blt .len (.cons (.var 0) .nil)) (.blt .len (.cons (.var 1) .nil)))
 (.cons (.ret (.bl false))
  .nil)
 .nil)
  (.cons (.ret (.blt .all (.cons (.comp false (.call 18 (.cons (.var 2) (.cons (.var 3) .nil))) [2, 3] (.zip (.var 0) (.var 1)) .nil [2, 3]) .nil)))
  .nil)))
 .nil)
  (.cons (.ifs (.or (.cmp .isn (.var 1) .non) (.blt (.isinst [.bool, .str]) (.cons (.var 1) .nil)))
 (.cons (.ret (.and (.cmp .eq (.var 0) (.var 1)) (.and (.cmp .eq (.blt (.isinst [.bool]) (.cons (.var 0) .nil)) (.blt (.isinst [.bool]) (.cons (.var 1) .nil))) (.cmp .eq (.cmp .isn (.var 0) .non) (.cmp .isn (.var 1) .non)))))
  .nil)
 .nil)
  (.cons (.ret (.and (.blt (.isinst [.int]) (.cons (.var 0) .nil)) (.and (.not (.blt (.isinst [.bool]) (.cons (.var 0) .nil))) (.cmp .eq (.var 0) (.var 1)))))
  .nil)))
def f18 : Fn := ⟨2, 4, b18⟩
/-- _law_lists: 0 _law_matter_so 1 _law_bit_so -/
def b19 : Ss := (.cons (.ret (.ite (.blt (.isinst [.list, .tuple]) (.cons (.var 0) .nil)) (.comp false (.call 19 (.cons (.var 1) .nil)) [1] (.it (.var 0)) .nil [1]) (.var 0)))
  .nil)
def f19 : Fn := ⟨1, 2, b19⟩
/-- _law_pairs: 0 _law_tags_so 1 _law_found 2 _law_k 3 _law_tag -/
def b20 : Ss := (.cons (.set 1 (.lst false .nil))
  (.cons (.for_ [2] (.rng (.blt .len (.cons (.var 0) .nil)))
 (.cons (.set 1 (.bin .add (.var 1) (.comp false (.tup (.cons (.ix (.var 0) (.var 2)) (.cons (.var 3) .nil))) [3] (.it (.sl (.var 0) (.some (.bin .add (.var 2) (.int 1))) .none)) .nil [3])))
  .nil))
  (.cons (.ret (.var 1))
  .nil)))
def f20 : Fn := ⟨1, 4, b20⟩
/-- _law_lots: 0 _law_deck 1 _law_lots_so 2 _law_one_so 3 _law_two_so 4 _law_near_so 5 _law_tag 6 _law_lot -/
def b21 : Ss := (.cons (.set 1 (.comp false (.lst false (.cons (.var 5) .nil)) [5] (.it (.ix (.var 0) (.int 0))) .nil [5]))
  (.cons (.for_ [2, 3] (.it (.ix (.var 0) (.int 1)))
 (.cons (.set 4 (.comp false (.var 6) [6] (.it (.var 1)) (.cons (.or (.cmp .isin (.var 2) (.var 6)) (.cmp .isin (.var 3) (.var 6))) .nil) [6]))
  (.cons (.set 1 (.bin .add (.comp false (.var 6) [6] (.it (.var 1)) (.cons (.cmp .notin (.var 6) (.var 4)) .nil) [6]) (.lst false (.cons (.blt .sorted (.cons (.blt .sumL (.cons (.var 4) (.cons (.lst false .nil) .nil))) .nil)) .nil))))
  .nil)))
  (.cons (.ret (.blt .sorted (.cons (.var 1) .nil)))
  .nil)))
def f21 : Fn := ⟨1, 7, b21⟩
/-- _law_table: 0 _law_box_here 1 _law_most_so 2 _law_tags_so 3 _law_ones_so 4 _law_lots_so 5 _law_free_so 6 _law_own 7 _law_lot -/
def b22 : Ss := (.cons (.set 2 (.blt .sorted (.cons (.call 17 (.cons (.var 0) (.cons (.lst false (.cons (.str [97]) (.cons (.str [98]) (.cons (.str [99, 121]) (.cons (.str [100]) (.cons (.str [112]) (.cons (.str [113]) (.cons (.str [120]) (.cons (.str [122, 122, 122, 122, 122, 122, 122, 122]) .nil))))))))) (.cons (.bin .add (.int 1) (.call 14 (.cons (.var 0) (.cons (.var 1) .nil)))) .nil)))) .nil)))
  (.cons (.set 3 (.blt .tuple (.cons (.comp false (.var 6) [6] (.it (.call 20 (.cons (.var 2) .nil))) (.cons (.cmp .eq (.call 14 (.cons (.var 0) (.cons (.int 6) .nil))) (.int 0)) .nil) [6]) .nil)))
  (.cons (.set 4 (.call 21 (.cons (.tup (.cons (.var 2) (.cons (.var 3) (.cons (.tup .nil) .nil)))) .nil)))
  (.cons (.set 5 (.comp false (.var 6) [6] (.it (.call 20 (.cons (.var 2) .nil))) (.cons (.cmp .eq (.comp false (.var 7) [7] (.it (.var 4)) (.cons (.and (.cmp .isin (.ix (.var 6) (.int 0)) (.var 7)) (.cmp .isin (.ix (.var 6) (.int 1)) (.var 7))) .nil) [7]) (.lst false .nil)) .nil) [6]))
  (.cons (.ret (.tup (.cons (.blt .tuple (.cons (.var 2) .nil)) (.cons (.var 3) (.cons (.blt .tuple (.cons (.comp false (.var 6) [6] (.it (.var 5)) (.cons (.cmp .eq (.call 14 (.cons (.var 0) (.cons (.int 4) .nil))) (.int 0)) .nil) [6]) .nil)) .nil)))))
  .nil)))))
def f22 : Fn := ⟨2, 8, b22⟩
/-- _law_at: 0 _law_cells_so 1 _law_tag 2 _law_own -/
def b23 : Ss := (.cons (.ret (.ix (.comp false (.var 2) [2] (.it (.var 0)) (.cons (.cmp .isin (.var 1) (.var 2)) .nil) [2]) (.int 0)))
  .nil)
def f23 : Fn := ⟨2, 3, b23⟩
/-- _law_fits: 0 _law_deck 1 _law_cells_so 2 _law_own -/
def b24 : Ss := (.cons (.ifs (.cmp .ne (.comp false (.var 2) [2] (.it (.ix (.var 0) (.int 1))) (.cons (.cmp .notin (.ix (.var 2) (.int 1)) (.call 23 (.cons (.var 1) (.cons (.ix (.var 2) (.int 0)) .nil)))) .nil) [2]) (.lst false .nil))
 (.cons (.ret (.bl false))
  .nil)
 .nil)
  (.cons (.ret (.cmp .eq (.comp false (.var 2) [2] (.it (.ix (.var 0) (.int 2))) (.cons (.cmp .isin (.ix (.var 2) (.int 1)) (.call 23 (.cons (.var 1) (.cons (.ix (.var 2) (.int 0)) .nil)))) .nil) [2]) (.lst false .nil)))
  .nil))
def f24 : Fn := ⟨2, 3, b24⟩
/-- _law_all: 0 _law_deck 1 _law_found 2 _law_tag 3 _law_later 4 _law_own 5 _law_k -/
def b25 : Ss := (.cons (.set 1 (.lst false (.cons (.tup .nil) .nil)))
  (.cons (.for_ [2] (.it (.ix (.var 0) (.int 0)))
 (.cons (.set 3 (.lst true .nil))
  (.cons (.for_ [4] (.it (.var 1))
 (.cons (.expr (.mth .append (.var 3) (.cons (.bin .add (.var 4) (.tup (.cons (.tup (.cons (.var 2) .nil)) .nil))) .nil)))
  (.cons (.for_ [5] (.rng (.blt .len (.cons (.var 4) .nil)))
 (.cons (.expr (.mth .append (.var 3) (.cons (.bin .add (.bin .add (.sl (.var 4) .none (.some (.var 5))) (.tup (.cons (.bin .add (.ix (.var 4) (.var 5)) (.tup (.cons (.var 2) .nil))) .nil))) (.sl (.var 4) (.some (.bin .add (.var 5) (.int 1))) .none)) .nil)))
  .nil))
  .nil)))
  (.cons (.frz 3)
  (.cons (.set 1 (.var 3))
  .nil)))))
  (.cons (.ret (.blt .sorted (.cons (.comp false (.blt .tuple (.cons (.blt .sorted (.cons (.var 4) .nil)) .nil)) [4] (.it (.var 1)) (.cons (.call 24 (.cons (.var 0) (.cons (.var 4) .nil))) .nil) [4]) .nil)))
  .nil)))
def f25 : Fn := ⟨1, 6, b25⟩
/-- _law_deeds: 0 _law_box_here 1 _law_deck 2 _law_most_so 3 _law_k 4 _law_spots_so 5 _law_found -/
def b26 : Ss := (.cons (.unp [4, 5] (.tup (.cons (.call 17 (.cons (.var 0) (.cons (.lst false (.cons (.str [107]) (.cons (.str [108]) (.cons (.str [109]) (.cons (.str [110]) (.cons (.str [111]) (.cons (.str [115]) (.cons (.str [116]) (.cons (.str [122, 111, 101]) .nil))))))))) (.cons (.int 8) .nil)))) (.cons (.lst true .nil) .nil))))
  (.cons (.for_ [3] (.rng (.call 14 (.cons (.var 0) (.cons (.bin .add (.var 2) (.int 1)) .nil))))
 (.cons (.ifs (.cmp .lt (.call 14 (.cons (.var 0) (.cons (.int 5) .nil))) (.int 3))
 (.cons (.expr (.mth .append (.var 5) (.cons (.tup (.cons (.str [112, 117, 116]) (.cons (.call 16 (.cons (.var 0) (.cons (.ix (.var 1) (.int 0)) .nil))) (.cons (.call 16 (.cons (.var 0) (.cons (.lst false (.cons (.int 0) (.cons (.int 1) (.cons (.int 2) (.cons (.neg (.int 5)) .nil))))) .nil))) .nil)))) .nil)))
  .nil)
 (.cons (.expr (.mth .append (.var 5) (.cons (.tup (.cons (.str [103, 101, 116]) (.cons (.call 16 (.cons (.var 0) (.cons (.ix (.var 1) (.int 0)) .nil))) (.cons (.ix (.var 4) (.var 3)) .nil)))) .nil)))
  .nil))
  .nil))
  (.cons (.ret (.blt .tuple (.cons (.var 5) .nil)))
  .nil)))
def f26 : Fn := ⟨3, 6, b26⟩
/-- _law_last: 0 _law_deeds_so 1 _law_cells_so 2 _law_tag 3 _law_upto_so 4 _law_own 5 _law_spots_so 6 _law_k -/
def b27 : Ss := (.cons (.set 4 (.call 23 (.cons (.var 1) (.cons (.var 2) .nil))))
  (.cons (.set 5 (.comp false (.var 6) [6] (.rng (.var 3)) (.cons (.and (.cmp .eq (.ix (.ix (.var 0) (.var 6)) (.int 0)) (.str [112, 117, 116])) (.cmp .isin (.ix (.ix (.var 0) (.var 6)) (.int 1)) (.var 4))) .nil) [6]))
  (.cons (.ret (.ite (.cmp .ne (.var 5) (.lst false .nil)) (.ix (.var 5) (.neg (.int 1))) .non))
  .nil)))
def f27 : Fn := ⟨4, 7, b27⟩
/-- _law_hand: 0 _law_one_so 1 _law_free_so 2 _law_far_so -/
def b28 : Ss := (.cons (.set 0 (.tup (.cons (.tup (.cons (.str [97]) (.cons (.str [98]) (.cons (.str [99]) (.cons (.str [100]) .nil))))) (.cons (.tup (.cons (.tup (.cons (.str [97]) (.cons (.str [98]) .nil))) .nil)) (.cons (.tup (.cons (.tup (.cons (.str [98]) (.cons (.str [99]) .nil))) .nil)) .nil)))))
  (.cons (.unp [1, 2] (.tup (.cons (.tup (.cons (.tup (.cons (.str [112]) (.cons (.str [113]) (.cons (.str [114]) .nil)))) (.cons (.tup .nil) (.cons (.tup .nil) .nil)))) (.cons (.tup (.cons (.tup (.cons (.str [112]) (.cons (.str [113]) (.cons (.str [114]) .nil)))) (.cons (.tup .nil) (.cons (.tup (.cons (.tup (.cons (.str [112]) (.cons (.str [113]) .nil))) (.cons (.tup (.cons (.str [112]) (.cons (.str [114]) .nil))) (.cons (.tup (.cons (.str [113]) (.cons (.str [114]) .nil))) .nil)))) .nil)))) .nil))))
  (.cons (.ret (.lst false (.cons (.var 0) (.cons (.var 1) (.cons (.var 2) (.cons (.tup (.cons (.tup (.cons (.str [120]) .nil)) (.cons (.tup .nil) (.cons (.tup .nil) .nil)))) .nil))))))
  .nil)))
def f28 : Fn := ⟨0, 3, b28⟩
/-- _law_heard: 0 _law_door 1 _law_deck 2 _law_deeds_so 3 _law_cells_so 4 _law_word_so 5 error_so 6 _law_told 7 _law_caught -/
def b29 : Ss := (.cons (.unp [6, 7] (.tup (.cons .non (.cons .non .nil))))
  (.cons (.try_ (.cons (.ifs (.cmp .eq (.var 0) (.int 0))
 (.cons (.set 6 (.call 10 (.cons (.var 1) (.cons (.var 2) (.cons (.var 3) (.cons (.var 4) .nil))))))
  .nil)
 (.cons (.set 6 (.call 11 (.cons (.var 1) (.cons (.var 2) (.cons (.var 3) (.cons (.var 4) .nil))))))
  .nil))
  .nil)
 (.cons [0] [1] (some 5) (.cons (.set 7 (.lst false (.cons (.str [115, 112, 111, 116]) (.cons (.fld [1] (.var 5)) (.cons (.isE [] [0, 1] (.var 5)) .nil)))))
  .nil)
 (.cons [1] [0] (some 5) (.cons (.set 7 (.lst false (.cons (.str [110, 97, 109, 101]) (.cons (.fld [0] (.var 5)) (.cons (.isE [] [0, 1] (.var 5)) .nil)))))
  .nil)
 .nil)))
  (.cons (.ret (.ite (.cmp .isn (.var 7) .non) (.var 6) (.var 7)))
  .nil)))
def f29 : Fn := ⟨5, 8, b29⟩
/-- _law_more_right: 0 _law_one_so 1 _law_free_so 2 _law_row_so 3 _law_near 4 _law_all_so 5 _law_two_so 6 _law_eight_so 7 _law_got 8 _law_due 9 _law_soft_so 10 _law_mixed_so 11 _law_k -/
def b30 : Ss := (.cons (.set 6 (.blt .tuple (.cons (.comp false (.tup (.cons (.str [112, 117, 116]) (.cons (.ix (.str [112, 113, 114]) (.bin .mod (.blt .int (.cons (.var 11) .nil)) (.int 3))) (.cons (.var 11) .nil)))) [11] (.rng (.int 8)) .nil [11]) .nil)))
  (.cons (.set 7 (.lst false (.cons (.call 12 (.cons (.var 1) (.cons (.var 6) (.cons (.var 4) .nil)))) (.cons (.call 12 (.cons (.var 1) (.cons (.var 6) (.cons (.var 5) .nil)))) .nil))))
  (.cons (.set 7 (.bin .add (.var 7) (.lst false (.cons (.call 11 (.cons (.var 1) (.cons (.var 6) (.cons (.var 4) (.cons (.str [114]) .nil))))) .nil))))
  (.cons (.set 8 (.lst false (.cons (.tup (.cons (.int 0) (.cons (.int 1) (.cons (.int 2) (.cons (.int 3) (.cons (.int 4) (.cons (.int 5) (.cons (.int 6) .nil)))))))) (.cons (.tup (.cons (.int 0) (.cons (.int 1) (.cons (.int 2) (.cons (.int 3) (.cons (.int 4) (.cons (.int 5) .nil))))))) (.cons (.int 7) .nil)))))
  (.cons (.set 9 (.call 19 (.cons (.lst false (.cons (.var 0) (.cons (.var 2) (.cons (.var 3) .nil)))) .nil)))
  (.cons (.set 10 (.tup (.cons (.lst false (.cons (.str [112, 117, 116]) (.cons (.str [97]) (.cons (.int 5) .nil)))) (.cons (.tup (.cons (.str [103, 101, 116]) (.cons (.str [100]) (.cons (.str [115]) .nil)))) (.cons (.lst false (.cons (.str [112, 117, 116]) (.cons (.str [99]) (.cons (.int 7) .nil)))) .nil)))))
  (.cons (.set 7 (.bin .add (.var 7) (.lst false (.cons (.callk 10 [3, 2, 1, 0] (.cons (.str [116]) (.cons (.ix (.var 9) (.int 2)) (.cons (.ix (.var 9) (.int 1)) (.cons (.ix (.var 9) (.int 0)) .nil))))) .nil))))
  (.cons (.set 7 (.bin .add (.var 7) (.lst false (.cons (.callk 11 [3, 2, 1, 0] (.cons (.str [100]) (.cons (.ix (.var 9) (.int 2)) (.cons (.ix (.var 9) (.int 1)) (.cons (.ix (.var 9) (.int 0)) .nil))))) .nil))))
  (.cons (.set 7 (.bin .add (.var 7) (.lst false (.cons (.callk 12 [2, 1, 0] (.cons (.ix (.var 9) (.int 2)) (.cons (.ix (.var 9) (.int 1)) (.cons (.ix (.var 9) (.int 0)) .nil)))) (.cons (.call 12 (.cons (.var 0) (.cons (.var 10) (.cons (.var 3) .nil)))) .nil)))))
  (.cons (.set 7 (.bin .add (.var 7) (.lst false (.cons (.call 10 (.cons (.var 0) (.cons (.var 10) (.cons (.tup (.cons (.tup (.cons (.str [97]) (.cons (.str [98]) (.cons (.str [100]) .nil)))) (.cons (.lst false (.cons (.str [99]) .nil)) .nil))) (.cons (.str [115]) .nil))))) (.cons (.call 11 (.cons (.var 0) (.cons (.var 10) (.cons (.var 3) (.cons (.str [100]) .nil))))) .nil)))))
  (.cons (.set 7 (.bin .add (.var 7) (.lst false (.cons (.var 9) .nil))))
  (.cons (.ret (.call 18 (.cons (.var 7) (.cons (.bin .add (.var 8) (.lst false (.cons (.int 0) (.cons (.int 4) (.cons (.tup (.cons (.int 2) .nil)) (.cons (.tup .nil) (.cons (.int 0) (.cons (.int 2) (.cons (.call 19 (.cons (.lst false (.cons (.var 0) (.cons (.var 2) (.cons (.var 3) .nil)))) .nil)) .nil))))))))) .nil))))
  .nil))))))))))))
def f30 : Fn := ⟨6, 12, b30⟩
/-- _law_by_hand_right: 0 _law_row_so 1 _law_got 2 _law_due 3 _law_like_so 4 _law_asked_so 5 _law_one_so 6 _law_free_so 7 _law_near 8 _law_far 9 _law_fine_so 10 _law_all_so 11 _law_two_so 12 _law_own 13 _law_tag -/
def b31 : Ss := (.cons (.unp [5, 6] (.sl (.call 28 .nil) .none (.some (.int 2))))
  (.cons (.set 0 (.tup (.cons (.tup (.cons (.str [112, 117, 116]) (.cons (.str [97]) (.cons (.int 5) .nil)))) (.cons (.tup (.cons (.str [103, 101, 116]) (.cons (.str [100]) (.cons (.str [115]) .nil)))) (.cons (.tup (.cons (.str [112, 117, 116]) (.cons (.str [99]) (.cons (.int 7) .nil)))) (.cons (.tup (.cons (.str [103, 101, 116]) (.cons (.str [98]) (.cons (.str [116]) .nil)))) (.cons (.tup (.cons (.str [112, 117, 116]) (.cons (.str [100]) (.cons (.int 7) .nil)))) .nil)))))))
  (.cons (.unp [7, 8, 9] (.tup (.cons (.tup (.cons (.tup (.cons (.str [97]) (.cons (.str [98]) .nil))) (.cons (.tup (.cons (.str [99]) (.cons (.str [100]) .nil))) .nil))) (.cons (.tup (.cons (.tup (.cons (.str [97]) (.cons (.str [98]) (.cons (.str [100]) .nil)))) (.cons (.tup (.cons (.str [99]) .nil)) .nil))) (.cons (.tup (.cons (.tup (.cons (.str [97]) (.cons (.str [98]) .nil))) (.cons (.tup (.cons (.str [99]) .nil)) (.cons (.tup (.cons (.str [100]) .nil)) .nil)))) .nil)))))
  (.cons (.set 1 (.lst true (.cons (.comp false (.call 10 (.cons (.var 5) (.cons (.var 0) (.cons (.var 12) (.cons (.str [115]) .nil))))) [12] (.it (.tup (.cons (.var 7) (.cons (.var 8) (.cons (.var 9) .nil))))) .nil [12]) .nil)))
  (.cons (.set 1 (.catM (.var 1) (.lst false (.cons (.comp false (.call 10 (.cons (.var 5) (.cons (.var 0) (.cons (.var 12) (.cons (.str [116]) .nil))))) [12] (.it (.tup (.cons (.var 7) (.cons (.var 8) (.cons (.var 9) .nil))))) .nil [12]) .nil))))
  (.cons (.set 2 (.lst true (.cons (.lst false (.cons .non (.cons (.int 0) (.cons .non .nil)))) (.cons (.lst false (.cons (.int 0) (.cons (.int 0) (.cons (.int 0) .nil)))) .nil))))
  (.cons (.set 1 (.catM (.var 1) (.comp false (.comp false (.call 11 (.cons (.var 5) (.cons (.var 0) (.cons (.var 12) (.cons (.var 13) .nil))))) [13] (.it (.str [97, 98, 99, 100])) .nil [13]) [12] (.it (.tup (.cons (.var 7) (.cons (.var 8) (.cons (.var 9) .nil))))) .nil [12])))
  (.cons (.set 2 (.catM (.var 2) (.lst false (.cons (.lst false (.cons (.int 0) (.cons (.int 0) (.cons (.int 4) (.cons (.int 4) .nil))))) (.cons (.lst false (.cons (.int 4) (.cons (.int 4) (.cons (.int 2) (.cons (.int 4) .nil))))) (.cons (.lst false (.cons (.int 0) (.cons (.int 0) (.cons (.int 2) (.cons (.int 4) .nil))))) .nil))))))
  (.cons (.set 1 (.catM (.var 1) (.lst false (.cons (.comp false (.call 12 (.cons (.var 5) (.cons (.var 0) (.cons (.var 12) .nil)))) [12] (.it (.tup (.cons (.var 7) (.cons (.var 8) (.cons (.var 9) .nil))))) .nil [12]) (.cons (.call 12 (.cons (.var 5) (.cons (.tup .nil) (.cons (.var 7) .nil)))) .nil)))))
  (.cons (.set 2 (.catM (.var 2) (.lst false (.cons (.lst false (.cons (.tup (.cons (.int 2) .nil)) (.cons (.tup .nil) (.cons (.tup .nil) .nil)))) (.cons (.tup .nil) .nil)))))
  (.cons (.set 3 (.tup (.cons (.tup (.cons (.str [112, 117, 116]) (.cons (.str [112]) (.cons (.int 3) .nil)))) (.cons (.tup (.cons (.str [112, 117, 116]) (.cons (.str [113]) (.cons (.int 3) .nil)))) (.cons (.tup (.cons (.str [103, 101, 116]) (.cons (.str [114]) (.cons (.str [115]) .nil)))) (.cons (.tup (.cons (.str [112, 117, 116]) (.cons (.str [114]) (.cons (.int 3) .nil)))) (.cons (.tup (.cons (.str [112, 117, 116]) (.cons (.str [112]) (.cons (.int 3) .nil)))) .nil)))))))
  (.cons (.unp [10, 11] (.tup (.cons (.tup (.cons (.tup (.cons (.str [112]) (.cons (.str [113]) (.cons (.str [114]) .nil)))) .nil)) (.cons (.tup (.cons (.tup (.cons (.str [112]) (.cons (.str [114]) .nil))) (.cons (.tup (.cons (.str [113]) .nil)) .nil))) .nil))))
  (.cons (.set 1 (.catM (.var 1) (.lst false (.cons (.call 10 (.cons (.var 6) (.cons (.var 3) (.cons (.var 10) (.cons (.str [115]) .nil))))) (.cons (.call 10 (.cons (.var 6) (.cons (.var 3) (.cons (.var 11) (.cons (.str [115]) .nil))))) .nil)))))
  (.cons (.set 1 (.catM (.var 1) (.lst false (.cons (.call 12 (.cons (.var 6) (.cons (.var 3) (.cons (.var 10) .nil)))) (.cons (.call 12 (.cons (.var 6) (.cons (.var 3) (.cons (.var 11) .nil)))) .nil)))))
  (.cons (.set 1 (.catM (.var 1) (.lst false (.cons (.call 11 (.cons (.var 6) (.cons (.var 3) (.cons (.var 11) (.cons (.str [113]) .nil))))) .nil))))
  (.cons (.set 2 (.catM (.var 2) (.lst false (.cons (.int 1) (.cons (.int 0) (.cons (.tup (.cons (.int 0) (.cons (.int 3) .nil))) (.cons (.tup (.cons (.int 3) .nil)) (.cons (.int 1) .nil))))))))
  (.cons (.set 4 (.lst false (.cons (.tup (.cons (.int 0) (.cons (.str [117]) .nil))) (.cons (.tup (.cons (.int 0) (.cons (.str [97]) .nil))) (.cons (.tup (.cons (.int 0) (.cons (.str []) .nil))) (.cons (.tup (.cons (.int 1) (.cons (.str [115]) .nil))) (.cons (.tup (.cons (.int 1) (.cons (.str [120]) .nil))) (.cons (.tup (.cons (.int 1) (.cons (.str []) .nil))) (.cons (.tup (.cons (.int 0) (.cons (.str [116]) .nil))) (.cons (.tup (.cons (.int 1) (.cons (.str [99]) .nil))) .nil))))))))))
  (.cons (.expr (.mth .append (.var 1) (.cons (.comp false (.call 29 (.cons (.ix (.var 12) (.int 0)) (.cons (.var 5) (.cons (.var 0) (.cons (.var 7) (.cons (.ix (.var 12) (.int 1)) .nil)))))) [12] (.it (.var 4)) .nil [12]) .nil)))
  (.cons (.expr (.mth .append (.var 2) (.cons (.lst false (.cons (.lst false (.cons (.str [115, 112, 111, 116]) (.cons (.str [117]) (.cons (.bl true) .nil)))) (.cons (.lst false (.cons (.str [115, 112, 111, 116]) (.cons (.str [97]) (.cons (.bl true) .nil)))) (.cons (.lst false (.cons (.str [115, 112, 111, 116]) (.cons (.str []) (.cons (.bl true) .nil)))) (.cons (.lst false (.cons (.str [110, 97, 109, 101]) (.cons (.str [115]) (.cons (.bl true) .nil)))) (.cons (.lst false (.cons (.str [110, 97, 109, 101]) (.cons (.str [120]) (.cons (.bl true) .nil)))) .nil)))))) .nil)))
  (.cons (.setix (.var 2) (.neg (.int 1)) (.bin .add (.ix (.var 2) (.neg (.int 1))) (.lst false (.cons (.lst false (.cons (.str [110, 97, 109, 101]) (.cons (.str []) (.cons (.bl true) .nil)))) (.cons (.int 0) (.cons (.int 4) .nil))))))
  (.cons (.frz 1)
  (.cons (.frz 2)
  (.cons (.ret (.and (.call 18 (.cons (.var 1) (.cons (.var 2) .nil))) (.call 30 (.cons (.var 5) (.cons (.var 6) (.cons (.var 0) (.cons (.var 7) (.cons (.var 10) (.cons (.var 11) .nil)))))))))
  .nil)))))))))))))))))))))))
def f31 : Fn := ⟨0, 14, b31⟩
/-- _law_right: 0 _law_box_here 1 _law_turn 2 _law_deck 3 _law_gets_so 4 _law_due 5 _law_got 6 _law_lost_so 7 _law_own 8 _law_deeds_so 9 _law_soft_so 10 _law_many_so 11 _law_k 12 _law_tag -/
def b32 : Ss := (.cons (.for_ [1] (.rng (.int 8))
 (.cons (.set 2 (.call 22 (.cons (.var 0) (.cons (.int 5) .nil))))
  (.cons (.unp [7, 8] (.tup (.cons (.call 16 (.cons (.var 0) (.cons (.call 25 (.cons (.var 2) .nil)) .nil))) (.cons (.call 26 (.cons (.var 0) (.cons (.var 2) (.cons (.int 8) .nil)))) .nil))))
  (.cons (.unp [9, 10] (.tup (.cons (.call 19 (.cons (.lst false (.cons (.var 2) (.cons (.var 8) (.cons (.var 7) .nil)))) .nil)) (.cons (.blt .len (.cons (.var 8) .nil)) .nil))))
  (.cons (.set 3 (.comp false (.var 11) [11] (.rng (.var 10)) (.cons (.cmp .eq (.ix (.ix (.var 8) (.var 11)) (.int 0)) (.str [103, 101, 116])) .nil) [11]))
  (.cons (.set 4 (.comp false (.call 27 (.cons (.var 8) (.cons (.var 7) (.cons (.ix (.ix (.var 8) (.var 11)) (.int 1)) (.cons (.var 11) .nil))))) [11] (.it (.var 3)) .nil [11]))
  (.cons (.set 5 (.comp false (.call 10 (.cons (.var 2) (.cons (.var 8) (.cons (.var 7) (.cons (.ix (.ix (.var 8) (.var 11)) (.int 2)) .nil))))) [11] (.it (.var 3)) .nil [11]))
  (.cons (.set 5 (.bin .add (.var 5) (.comp false (.call 11 (.cons (.var 2) (.cons (.var 8) (.cons (.var 7) (.cons (.var 12) .nil))))) [12] (.it (.ix (.var 2) (.int 0))) .nil [12])))
  (.cons (.set 4 (.bin .add (.var 4) (.comp false (.call 27 (.cons (.var 8) (.cons (.var 7) (.cons (.var 12) (.cons (.var 10) .nil))))) [12] (.it (.ix (.var 2) (.int 0))) .nil [12])))
  (.cons (.set 6 (.blt .tuple (.cons (.comp false (.var 11) [11] (.rng (.var 10)) (.cons (.and (.cmp .eq (.ix (.ix (.var 8) (.var 11)) (.int 0)) (.str [112, 117, 116])) (.cmp .notin (.var 11) (.var 4))) .nil) [11]) .nil)))
  (.cons (.set 5 (.bin .add (.var 5) (.lst false (.cons (.call 12 (.cons (.var 2) (.cons (.var 8) (.cons (.var 7) .nil)))) (.cons (.call 12 (.cons (.ix (.var 9) (.int 0)) (.cons (.ix (.var 9) (.int 1)) (.cons (.ix (.var 9) (.int 2)) .nil)))) .nil)))))
  (.cons (.set 5 (.bin .add (.var 5) (.lst false (.cons (.call 29 (.cons (.int 0) (.cons (.var 2) (.cons (.var 8) (.cons (.var 7) (.cons (.str [110, 111, 110, 101]) .nil)))))) .nil))))
  (.cons (.set 5 (.bin .add (.var 5) (.lst false (.cons (.call 29 (.cons (.int 1) (.cons (.ix (.var 9) (.int 0)) (.cons (.ix (.var 9) (.int 1)) (.cons (.ix (.var 9) (.int 2)) (.cons (.str [110, 111, 110, 101]) .nil)))))) .nil))))
  (.cons (.ifs (.not (.call 18 (.cons (.var 5) (.cons (.bin .add (.var 4) (.lst false (.cons (.var 6) (.cons (.var 6) (.cons (.lst false (.cons (.str [115, 112, 111, 116]) (.cons (.str [110, 111, 110, 101]) (.cons (.bl true) .nil)))) (.cons (.lst false (.cons (.str [110, 97, 109, 101]) (.cons (.str [110, 111, 110, 101]) (.cons (.bl true) .nil)))) .nil)))))) .nil))))
 (.cons (.ret (.bl false))
  .nil)
 .nil)
  .nil))))))))))))))
  (.cons (.ret (.bl true))
  .nil))
def f32 : Fn := ⟨1, 13, b32⟩
/-- law: 0 _law_script 1 _law_cells_so 2 _law_k -/
def b33 : Ss := (.cons (.set 1 (.call 15 (.cons (.var 0) (.cons (.int 3) .nil))))
  (.cons (.ifs (.not (.call 31 .nil))
 (.cons (.ret (.bl false))
  .nil)
 .nil)
  (.cons (.ret (.blt .all (.cons (.comp false (.call 32 (.cons (.call 13 (.cons (.var 1) (.cons (.var 2) .nil))) .nil)) [2] (.rng (.blt .len (.cons (.var 1) .nil))) .nil [2]) .nil)))
  .nil)))
def f33 : Fn := ⟨1, 3, b33⟩
def P : List Fn := [f0, f1, f2, f3, f4, f5, f6, f7, f8, f9, f10, f11, f12, f13, f14, f15, f16, f17, f18, f19, f20, f21, f22, f23, f24, f25, f26, f27, f28, f29, f30, f31, f32, f33, mkC 35 1, mkE 0 1, mkC 37 1, mkE 1 1]
end K17
end

section
set_option maxRecDepth 100000
set_option maxHeartbeats 0
namespace K17
open Mi
theorem by_hand (X : List Int) : callN P 59 31 [] [.ro X] = .ok (.bl true) [.ro X] := by kernel_rfl
end K17
end

section
set_option linter.all false
set_option maxRecDepth 100000
set_option autoImplicit false
namespace K17
open Mi
def putAt (ds : List Deed) (j : Nat) : Bool := putIn ds (fun _ => true) j
section
variable {k : Nat} {st : Sto} {m : Bool} {tags : List Cs} {o : List (List Cs)} {ds : List Deed} {tb : D}
theorem put_at {j : Nat} {d : Deed} (h : ds[j]? = some d) : putAt ds j = !isGet d := by
  unfold putAt putIn
  rw [h]
  cases d <;> rfl
theorem get_at {j : Nat} {d : Deed} (h : ds[j]? = some d) : getAt ds j = isGet d := by
  unfold getAt
  rw [h]
  cases d <;> rfl
theorem tag_at {j : Nat} {d : Deed} (h : ds[j]? = some d) : tagAt ds j = d.tag := by
  unfold tagAt
  rw [h]
/-- puts_of -/
theorem puts_ok (hd : ds.length ≤ 1000) : callN P (k + 2) 6 [sq m (ds.map (rowQ m))] st = .ok (.tup (intN ((List.range ds.length).filter (putAt ds)))) st := by
  have e : callN P (k + 1) 7 [sq m (ds.map (rowQ m)), .str putC] st = .ok (.tup (intN ((List.range ds.length).filter (putAt ds)))) st := by
    refine call_rt (fn := f7) rfl rfl rfl (ss_ret (ev_tuple (es1 ?_)))
    have er : evR (callN P k) (.enum (.var 0)) [some (sq m (ds.map (rowQ m))), some (.str putC), none, none] st = .ok (enumD 0 (ds.map (rowQ m))) st := by cases m <;> rfl
    rw [enumD_map] at er
    refine ev_comp0 er (by rw [List.length_map, List.length_range]; omega) ?_ (comp_filter (h := fun (j : Nat) => D.tup [.int (j : Int), ((ds[j]?).map (rowQ m)).getD .non]) (g := fun (j : Nat) => D.int (j : Int)) (q := putAt ds) (List.range ds.length) fun j hj => ?_)
    · unfold intN
      have := List.length_filter_le (putAt ds) (List.range ds.length)
      rw [List.length_range] at this
      rw [List.length_map]
      omega
    · have hj := List.mem_range.mp hj
      obtain ⟨d, hd2⟩ : ∃ d, ds[j]? = some d := ⟨_, List.getElem?_eq_getElem hj⟩
      rw [hd2, put_at hd2]
      refine cB_if (ρ1 := [some (sq m (ds.map (rowQ m))), some (.str putC), some (.int (j : Int)), some (rowQ m d)]) (t := !isGet d) (y := .int (j : Int)) rfl ?_ rfl
      cases m <;> cases d <;> rfl
  exact call_rt (fn := f6) rfl rfl rfl (ss_ret (ev_call (es_cons rfl (es1 rfl)) e))
/-- what is told to anyone -/
def seenZ (tags : List Cs) (o : List (List Cs)) (ds : List Deed) : List (Option Nat) :=
  ((List.range ds.length).filter (getAt ds)).map (fun k => lastC (hx o) ds (hx o (tagAt ds k)) k) ++ tags.map fun c => lastC (hx o) ds (hx o c) ds.length
def lostN (tags : List Cs) (o : List (List Cs)) (ds : List Deed) : List Nat := (List.range ds.length).filter fun j => putAt ds j && !(seenZ tags o ds).contains (some j)
theorem seen_len (hl : tags.length ≤ 1000) (hd : ds.length ≤ 1000) : (seenZ tags o ds).length ≤ 2000 := by
  unfold seenZ
  rw [List.length_append, List.length_map, List.length_map]
  have := List.length_filter_le (getAt ds) (List.range ds.length)
  rw [List.length_range] at this
  omega
theorem lost_ok (h : Sit tags o ds) (hlow : Low st) : callN P (k + 4) 12 [tb, sq m (ds.map (rowQ m)), sq m (o.map (cellQ m))] st = .ok (.tup (intN (lostN tags o ds))) st := by
  have hd := h.dl
  have e1 := sources_at (k := k + 1) (P := P) (st := st) (m := m) (hm := 4) (so := 9) rfl rfl h.fl (by rw [h.len]; exact h.tl) (fun c hc => h.sh c (h.p.perm.mem_iff.mp hc)) h.dl (fun d hd => h.p.perm.mem_iff.mpr (h.tg d hd)) (fun d hd => h.ok _ (h.tg d hd)) h.sn hlow
  have e2 := puts_ok (k := k + 1) (st := st) (m := m) (ds := ds) hd
  obtain ⟨T, hT⟩ : ∃ T, T = toldN (hx o) ds ds.length := ⟨_, rfl⟩
  obtain ⟨N, hN⟩ : ∃ N, N = leftN o ds := ⟨_, rfl⟩
  rw [← hT, ← hN] at e1
  have hTl : T.length ≤ 1000 := by
    rw [hT]
    unfold toldN
    have := List.length_filter_le (getAt ds) (List.range ds.length)
    rw [List.length_range] at this
    rw [List.length_map]
    omega
  have hNl : N.length ≤ 1000 := by
    rw [hN]
    unfold leftN
    rw [List.length_map, h.len]
    exact h.tl
  have hZ : tvs T ++ tvs N = (T.map (·.2) ++ N.map (·.2)).map optD := by
    unfold tvs
    rw [List.map_append, List.map_map, List.map_map]
    rfl
  have hc : ∀ j : Nat, (T.map (·.2) ++ N.map (·.2)).contains (some j) = (seenZ tags o ds).contains (some j) := fun j => by
    rw [Bool.eq_iff_iff, List.contains_iff_mem, List.contains_iff_mem]
    unfold seenZ
    rw [List.mem_append, List.mem_append, hT, hN]
    unfold toldN leftN
    rw [List.map_map, List.map_map]
    refine or_congr Iff.rfl ?_
    rw [List.mem_map, List.mem_map]
    constructor
    · rintro ⟨c, h1, h2⟩
      exact ⟨c, h.p.perm.mem_iff.mp h1, h2⟩
    · rintro ⟨c, h1, h2⟩
      exact ⟨c, h.p.perm.mem_iff.mpr h1, h2⟩
  refine call_rt (fn := f12) rfl rfl rfl ?_
  refine (ss_unp (d := .tup [.dct (tks T) (tvs T), .dct (tks N) (tvs N)]) (s1 := st) (ev_call (es_cons rfl (es1 rfl)) e1) rfl).trans ?_
  refine (ss_set (d := .lst (tvs T ++ tvs N)) (s1 := st) ?_).trans (ss_ret (ev_tuple (es1 ?_)))
  · refine ev_catL (s1 := st) (x := tvs T) (y := tvs N) rfl rfl ?_
    unfold tvs
    rw [List.length_map, List.length_map]
    omega
  · have er : evR (callN P (k + 3)) (.it (.call 6 (.cons (.var 1) .nil))) [some tb, some (sq m (ds.map (rowQ m))), some (sq m (o.map (cellQ m))), some (.lst (tvs T ++ tvs N)), some (.dct (tks T) (tvs T)), some (.dct (tks N) (tvs N)), none] st = .ok (intN ((List.range ds.length).filter (putAt ds))) st := by
      rw [evR, ev_call (es1 rfl) e2]
      rfl
    have hfl := List.length_filter_le (putAt ds) (List.range ds.length)
    rw [List.length_range] at hfl
    have ec := ev_comp0 (elt := .var 6) (tg := [6]) (own := [6]) (ifs := .cons (.cmp .notin (.var 6) (.var 3)) .nil) er (by unfold intN; rw [List.length_map]; omega) (ys := intN (((List.range ds.length).filter (putAt ds)).filter fun j => !(seenZ tags o ds).contains (some j))) (by
      unfold intN
      rw [List.length_map]
      have := List.length_filter_le (fun j => !(seenZ tags o ds).contains (some j)) ((List.range ds.length).filter (putAt ds))
      omega) (comp_filter (h := fun (j : Nat) => D.int (j : Int)) (g := fun (j : Nat) => D.int (j : Int)) (q := fun j => !(seenZ tags o ds).contains (some j)) ((List.range ds.length).filter (putAt ds)) fun j _ => by
      refine cB_if (ρ1 := [some tb, some (sq m (ds.map (rowQ m))), some (sq m (o.map (cellQ m))), some (.lst (tvs T ++ tvs N)), some (.dct (tks T) (tvs T)), some (.dct (tks N) (tvs N)), some (.int (j : Int))]) (y := .int (j : Int)) rfl ?_ rfl
      show ofB st ((inD st (.int (j : Int)) (.lst (tvs T ++ tvs N))).map (!·)) = _
      rw [in_opts (Z := T.map (·.2) ++ N.map (·.2)) (by rw [hZ]; rfl), hc]
      rfl)
    rw [List.filter_filter] at ec
    refine ec.trans ?_
    unfold lostN
    have : (fun a => (!(seenZ tags o ds).contains (some a)) && putAt ds a) = fun j => putAt ds j && !(seenZ tags o ds).contains (some j) := by
      funext a
      exact Bool.and_comm _ _
    rw [this]
def spotC : Cs := [115, 112, 111, 116]
def nameC : Cs := [110, 97, 109, 101]
def noneC : Cs := [110, 111, 110, 101]
def spotV : D := .lst [.str spotC, .str noneC, .bl true]
def nameV : D := .lst [.str nameC, .str noneC, .bl true]
theorem heard_0 {A B : D} (h : callN P (k + 4) 10 [tb, A, B, .str noneC] st = .ex 1 [.str noneC] st) : callN P (k + 5) 29 [.int 0, tb, A, B, .str noneC] st = .ok spotV st := by
  refine call_rt (fn := f29) rfl rfl rfl ?_
  refine (ss_unp (d := .tup [.non, .non]) (s1 := st) rfl rfl).trans ?_
  refine (ss_tryX (q := 1) (es := [.str noneC]) (ρ1 := [some (.int 0), some tb, some A, some B, some (.str noneC), none, some .non, some .non]) (s1 := st) (ρ2 := [some (.int 0), some tb, some A, some B, some (.str noneC), none, some .non, some spotV]) (s2 := st) ?_ rfl).trans rfl
  exact ss_ifX (d := .bl true) (s1 := st) rfl rfl (ss_setX (ev_call (es_cons rfl (es_cons rfl (es_cons rfl (es1 rfl)))) h))
theorem ss_ifXf {C : Nat → List D → Sto → Rs D} {ρ ρ1 : Env} {s s1 s2 : Sto} {rest a b : Ss} {c : E} {d : D} {q : Nat} {es : List D} (h : evE C c ρ s = .ok d s1) (ht : truth s1 d = some false) (ha : evSs C b ρ s1 = .ok (.xn q es ρ1) s2) : evSs C (.cons (.ifs c a b) rest) ρ s = .ok (.xn q es ρ1) s2 := by
  simp only [evSs, evS, h, tst, bok, mok, ht, lift, Bool.false_eq_true, if_false, ha]
theorem heard_1 {A B : D} (h : callN P (k + 6) 11 [tb, A, B, .str noneC] st = .ex 0 [.str noneC] st) : callN P (k + 7) 29 [.int 1, tb, A, B, .str noneC] st = .ok nameV st := by
  refine call_rt (fn := f29) rfl rfl rfl ?_
  refine (ss_unp (d := .tup [.non, .non]) (s1 := st) rfl rfl).trans ?_
  refine (ss_tryX (q := 0) (es := [.str noneC]) (ρ1 := [some (.int 1), some tb, some A, some B, some (.str noneC), none, some .non, some .non]) (s1 := st) (ρ2 := [some (.int 1), some tb, some A, some B, some (.str noneC), none, some .non, some nameV]) (s2 := st) ?_ rfl).trans rfl
  exact ss_ifXf (d := .bl false) (s1 := st) rfl rfl (ss_setX (ev_call (es_cons rfl (es_cons rfl (es_cons rfl (es1 rfl)))) h))
end
def obody : Ss := match b32 with
  | .cons (.for_ _ _ b) _ => b
  | _ => .nil
theorem short_spots : ∀ c ∈ spotsC, okC c = true ∧ c.length ≤ 1000 ∧ c ≠ noneC := by decide
theorem short_names : ∀ c ∈ namesC, okC c = true ∧ c.length ≤ 1000 ∧ c ≠ noneC := by decide
section
variable {k b n : Nat} {st : Sto} {x1 : Option D}
set_option maxHeartbeats 0 in
theorem oturn {x2 x3 x4 x5 x6 x7 x8 x9 x10 x11 x12 : Option D} (hc : Cell st b n) (hlow : Low st) (hn : n < 40000) :
    ∃ y2 y3 y4 y5 y6 y7 y8 y9 y10 st', evSs (callN P (k + 9)) obody [some (.ref b), x1, x2, x3, x4, x5, x6, x7, x8, x9, x10, x11, x12] st = .ok (.nx [some (.ref b), x1, y2, y3, y4, y5, y6, y7, y8, y9, y10, x11, x12]) st' ∧ Mv st st' b ∧ Cell st' b (n + 2000) := by
  obtain ⟨tags, ones, ap, s1, e1, hT, m1, c1⟩ := table_ok (k := k + 6) (P := P) (t := 14) (p := 17) (pr := 20) (lo := 21) (tb := 22) (m := 5) rfl rfl rfl rfl rfl hc hlow (by omega) (by decide) (by decide)
  have l1 := m1.low hlow
  obtain ⟨Gs, e2, hG0, hGl, hG⟩ := allL_ok (k := k + 6) (st := s1) (P := P) (a := 23) (f := 24) (al := 25) rfl rfl rfl hT (by decide) l1
  obtain ⟨dd, s2, e3, m2, c2, hdm⟩ := of_ok (k := k + 7) (P := P) (t := 14) (o := 16) (g := .lst (Gs.map ownD)) rfl rfl c1 (by omega) rfl (fun q => hG0 (by simpa using q)) (by rw [List.length_map]; omega)
  obtain ⟨o, ho, rfl⟩ := List.mem_map.mp hdm
  have l2 := m2.low l1
  obtain ⟨ds, s3, e4, m3, c3, hd, h5, h6, h3⟩ := deeds_ok (k := k + 6) (P := P) (t := 14) (o := 16) (p := 17) (dd := 26) (m := 8) (tags := tags) (ones := ones) (ap := ap) rfl rfl rfl rfl c2 l2 (by omega) hT.ne (by have := hT.le; omega) (by decide)
  have l3 := m3.low l2
  have htl : tags.length ≤ 5 := hT.le
  have S : Sit tags o ds := ⟨hG o ho, hT.nodup, hT.ok, fun c hc => (short_names c (hT.sub c hc)).2.1, by omega, by omega, h3, h5, fun s hs => (short_spots s (h6 s hs)).1⟩
  have hol : o.length ≤ 1000 := by have := S.p.len; omega
  have hns : noneC ∉ spotsOf ds := fun q => (short_spots _ (h6 _ q)).2.2 rfl
  have hnt : noneC ∉ tags := fun q => (short_names _ (hT.sub _ q)).2.2 rfl
  have hok := hT.ok
  -- the soft ones
  obtain ⟨dk, hdk⟩ : ∃ dk, dk = softN 3 (deckD tags ones ap) := ⟨_, rfl⟩
  have pdeck : Pn 3 (deckD tags ones ap) := hT.pn (by decide)
  have pdk : Pn 3 dk := hdk ▸ pdeck.soft
  have hdk2 : hardN 3 dk = .tup (.tup (strC tags) :: [hardN 2 (.tup (ones.map prD)), hardN 2 (.tup (ap.map prD))]) := by rw [hdk, hard_soft pdeck, hT.hard]
  have pown := part_pn S.p hok (by omega)
  have prow : Pn 2 (.tup (ds.map deedD)) := S.deeds.pn false false
  have es : callN P (k + 9) 19 [.lst [deckD tags ones ap, .tup (ds.map deedD), ownD o]] s3 = .ok (.lst [dk, sq true (ds.map (rowQ true)), sq true (o.map (cellQ true))]) s3 := by
    have q := lists_pn (k := k + 4) (P := P) (st := s3) (l := 19) rfl (n := 4) (d := .lst [deckD tags ones ap, .tup (ds.map deedD), ownD o]) (Pn.seq rfl (by show 3 ≤ 100000; decide) fun e he => by
      simp only [List.mem_cons, List.not_mem_nil, or_false] at he
      rcases he with rfl | rfl | rfl
      · exact pdeck
      · exact prow.mono (by decide)
      · exact pown.mono (by decide))
    refine q.trans ?_
    show Rs.ok (D.lst [softN 3 (deckD tags ones ap), softN 3 (.tup (ds.map deedD)), softN 3 (ownD o)]) s3 = _
    rw [← hdk, soft_up (n := 2) (m := 3) prow (by decide), soft_up (n := 2) (m := 3) pown (by decide), S.deeds.soft, part_soft S.p hok]
  -- gets
  obtain ⟨G, hGd⟩ : ∃ G, G = (List.range ds.length).filter (getAt ds) := ⟨_, rfl⟩
  have hGm : ∀ j ∈ G, j < ds.length ∧ getAt ds j = true := fun j hj => by
    rw [hGd] at hj
    obtain ⟨a1, a2⟩ := List.mem_filter.mp hj
    exact ⟨List.mem_range.mp a1, a2⟩
  have hGlen : G.length ≤ 8 := by
    have := List.length_filter_le (getAt ds) (List.range ds.length)
    rw [List.length_range, ← hGd] at this
    omega
  obtain ⟨ZG, hZG⟩ : ∃ ZG, ZG = G.map fun j => lastC (hx o) ds (hx o (tagAt ds j)) j := ⟨_, rfl⟩
  obtain ⟨ZN, hZN⟩ : ∃ ZN, ZN = tags.map fun c => lastC (hx o) ds (hx o c) ds.length := ⟨_, rfl⟩
  have hZ : seenZ tags o ds = ZG ++ ZN := by
    unfold seenZ
    rw [hZG, hZN, hGd]
  obtain ⟨L, hL⟩ : ∃ L, L = D.tup (intN (lostN tags o ds)) := ⟨_, rfl⟩
  have q1 : callN P (k + 9) 12 [deckD tags ones ap, .tup (ds.map deedD), ownD o] s3 = .ok L s3 := hL ▸ lost_ok (k := k + 5) (m := false) S l3
  have q2 : callN P (k + 9) 12 [dk, sq true (ds.map (rowQ true)), sq true (o.map (cellQ true))] s3 = .ok L s3 := hL ▸ lost_ok (k := k + 5) (m := true) S l3
  have q3 : callN P (k + 9) 29 [.int 0, deckD tags ones ap, .tup (ds.map deedD), ownD o, .str noneC] s3 = .ok spotV s3 := heard_0 (k := k + 4) (read_no (k := k + 4) (P := P) (m := false) (st0 := 1) (sp := 5) (cs := 8) (so := 9) (rd := 10) (i1 := 36) (j1 := 37) (e1 := 1) rfl rfl rfl rfl rfl rfl S hns rfl)
  have q4 : callN P (k + 9) 29 [.int 1, dk, sq true (ds.map (rowQ true)), sq true (o.map (cellQ true)), .str noneC] s3 = .ok nameV s3 := heard_1 (k := k + 2) (left_no (k := k + 2) (P := P) (fz := 0) (nm := 3) (ck := 2) (so := 9) (lf := 11) (i2 := 34) (j2 := 35) (e2 := 0) rfl rfl rfl rfl rfl rfl S pdk hdk2 hnt rfl)
  have hm : ∀ ρ : Env, ρ[8]? = some (some (.tup (ds.map deedD))) → evE (callN P (k + 9)) (.blt .len (.cons (.var 8) .nil)) ρ s3 = .ok (.int (ds.length : Int)) s3 := fun ρ h => by
    have e0 : evE (callN P (k + 9)) (.var 8) ρ s3 = .ok (.tup (ds.map deedD)) s3 := by rw [evE, h]
    exact ev_blt (es1 e0) (by rw [len_seq (ds := ds.map deedD) rfl, List.length_map])
  obtain ⟨V, hV⟩ : ∃ V, V = D.lst (ZG.map optD ++ ZN.map optD ++ [L, L, spotV, nameV]) := ⟨_, rfl⟩
  have pL : Pn 1 L := by
    rw [hL]
    refine Pn.seq rfl (by
      unfold intN lostN
      rw [List.length_map]
      have := List.length_filter_le (fun j => putAt ds j && !(seenZ tags o ds).contains (some j)) (List.range ds.length)
      rw [List.length_range] at this
      omega) fun x hx => ?_
    obtain ⟨j, _, rfl⟩ := List.mem_map.mp hx
    exact leaf_int _
  have pS : Pn 1 spotV := by
    refine Pn.seq rfl (by show 3 ≤ 100000; decide) fun e he => ?_
    simp only [List.mem_cons, List.not_mem_nil, or_false] at he
    rcases he with rfl | rfl | rfl
    · exact leaf_str rfl
    · exact leaf_str rfl
    · exact leaf_bl _
  have pN : Pn 1 nameV := by
    refine Pn.seq rfl (by show 3 ≤ 100000; decide) fun e he => ?_
    simp only [List.mem_cons, List.not_mem_nil, or_false] at he
    rcases he with rfl | rfl | rfl
    · exact leaf_str rfl
    · exact leaf_str rfl
    · exact leaf_bl _
  have hZGl : ZG.length ≤ 8 := by rw [hZG, List.length_map]; exact hGlen
  have hZNl : ZN.length ≤ 5 := by rw [hZN, List.length_map]; exact htl
  have hpn : Pn 2 V := by
    rw [hV]
    refine Pn.seq rfl (by
      rw [List.length_append, List.length_append, List.length_map, List.length_map]
      show ZG.length + ZN.length + 4 ≤ 100000
      omega) fun e he => ?_
    rcases List.mem_append.mp he with he | he
    · rcases List.mem_append.mp he with he | he
      · obtain ⟨z, _, rfl⟩ := List.mem_map.mp he
        exact Pn.leaf (leaf_opt z)
      · obtain ⟨z, _, rfl⟩ := List.mem_map.mp he
        exact Pn.leaf (leaf_opt z)
    · simp only [List.mem_cons, List.not_mem_nil, or_false] at he
      rcases he with rfl | rfl | rfl | rfl
      · exact pL
      · exact pL
      · exact pS
      · exact pN
  have q5 : callN P (k + 9) 18 [V, V] s3 = .ok (.bl true) s3 := same_pn (k := k + 6) (P := P) (s := 18) (n := 2) rfl hpn
  refine ⟨some (deckD tags ones ap), some (.lst (intN G)), some (.lst (ZG.map optD ++ ZN.map optD)), some V, some L, some (ownD o), some (.tup (ds.map deedD)), some (.lst [dk, sq true (ds.map (rowQ true)), sq true (o.map (cellQ true))]), some (.int (ds.length : Int)), s3, ?_, (m1.trans m2).trans m3, c3.mono (by omega)⟩
  refine (ss_set (d := deckD tags ones ap) (s1 := s1) (ev_call (es_cons rfl (es1 rfl)) e1)).trans ?_
  refine (ss_unp (d := .tup [ownD o, .tup (ds.map deedD)]) (s1 := s3) (ev_tup (es_cons (s1 := s2) (ev_call (es_cons rfl (es1 (ev_call (es1 rfl) e2))) e3) (es1 (ev_call (es_cons rfl (es_cons rfl (es1 rfl))) e4))) (by show 2 ≤ 10000; decide)) rfl).trans ?_
  refine (ss_unp (d := .tup [.lst [dk, sq true (ds.map (rowQ true)), sq true (o.map (cellQ true))], .int (ds.length : Int)]) (s1 := s3) (ev_tup (es_cons (s1 := s3) (ev_call (es1 (ev_lst (es_cons rfl (es_cons rfl (es1 rfl))) (by show 3 ≤ 10000; decide))) es) (es1 (hm _ rfl))) (by show 2 ≤ 10000; decide)) rfl).trans ?_
  -- gets
  refine (ss_set (d := .lst (intN G)) (s1 := s3) ?g3).trans ?_
  case g3 =>
    rw [hGd]
    refine ev_comp0 (rng_var rfl (by omega)) (by unfold intN; rw [List.length_map, List.length_range]; omega) (by unfold intN; rw [List.length_map, ← hGd]; omega) (comp_filter (h := fun (j : Nat) => D.int (j : Int)) (g := fun (j : Nat) => D.int (j : Int)) (q := getAt ds) (List.range ds.length) fun j hj => ?_)
    have hj := List.mem_range.mp hj
    obtain ⟨d, hd2⟩ : ∃ d, ds[j]? = some d := ⟨_, List.getElem?_eq_getElem hj⟩
    rw [get_at hd2]
    exact cB_if (t := isGet d) (y := .int (j : Int)) rfl (kind_get (deed_0 (deed_at (i := 8) (j := 11) rfl rfl hd2))) rfl
  -- due, the gets
  refine (ss_set (d := .lst (ZG.map optD)) (s1 := s3) ?g4).trans ?_
  case g4 =>
    rw [hZG, List.map_map]
    refine ev_comp0 (xs := intN G) rfl (by unfold intN; rw [List.length_map]; omega) (by rw [List.length_map]; omega) (comp_each (h := fun (j : Nat) => D.int (j : Int)) (g := optD ∘ fun j => lastC (hx o) ds (hx o (tagAt ds j)) j) G fun j hj => ?_)
    obtain ⟨hj1, hj2⟩ := hGm j hj
    obtain ⟨d, hd2⟩ : ∃ d, ds[j]? = some d := ⟨_, List.getElem?_eq_getElem hj1⟩
    refine cB_all (e' := optD (lastC (hx o) ds (hx o (tagAt ds j)) j)) rfl (ev_call (es_cons rfl (es_cons rfl (es_cons (s1 := s3) (deed_1 (deed_at (i := 8) (j := 11) rfl rfl hd2)) (es1 rfl)))) ?_)
    rw [← tag_at hd2]
    exact last_ok (k := k + 7) (P := P) (a := 23) (la := 27) rfl rfl S.p S.nd hok (by omega) h3 (by rw [tag_at hd2]; exact h3 d (List.mem_of_getElem? hd2)) (by omega) (by omega)
  -- got, the gets
  refine (ss_set (d := .lst (ZG.map optD)) (s1 := s3) ?g5).trans ?_
  case g5 =>
    rw [hZG, List.map_map]
    refine ev_comp0 (xs := intN G) rfl (by unfold intN; rw [List.length_map]; omega) (by rw [List.length_map]; omega) (comp_each (h := fun (j : Nat) => D.int (j : Int)) (g := optD ∘ fun j => lastC (hx o) ds (hx o (tagAt ds j)) j) G fun j hj => ?_)
    obtain ⟨hj1, hj2⟩ := hGm j hj
    obtain ⟨d, hd2⟩ : ∃ d, ds[j]? = some d := ⟨_, List.getElem?_eq_getElem hj1⟩
    have hsp : thirdD d = .str (spotAt ds j) := by
      unfold spotAt
      rw [hd2]
      rw [get_at hd2] at hj2
      cases d with
      | put t v => cases hj2
      | get t s => rfl
    refine cB_all (e' := optD (lastC (hx o) ds (hx o (tagAt ds j)) j)) rfl (ev_call (es_cons rfl (es_cons rfl (es_cons rfl (es1 (deed_2 (deed_at (i := 8) (j := 11) rfl rfl hd2)))))) ?_)
    rw [hsp]
    exact read_ok (k := k + 5) (P := P) (m := false) (hm := 4) (so := 9) (st0 := 1) (sp := 5) (cs := 8) (rd := 10) (i1 := 36) rfl rfl rfl rfl rfl rfl S l3 hj1 hj2
  -- got, the names
  refine (ss_set (d := .lst (ZG.map optD ++ ZN.map optD)) (s1 := s3) (ev_catL (s1 := s3) (x := ZG.map optD) (y := ZN.map optD) rfl ?g6 (by rw [List.length_map, List.length_map]; omega))).trans ?_
  case g6 =>
    rw [hZN, List.map_map]
    refine ev_comp0 (xs := strC tags) rfl (by rw [strs_len]; omega) (by rw [List.length_map]; omega) (comp_each (h := D.str) (g := optD ∘ fun c => lastC (hx o) ds (hx o c) ds.length) tags fun c hc => ?_)
    refine cB_all (e' := optD (lastC (hx o) ds (hx o c) ds.length)) rfl (ev_call (es_cons rfl (es_cons rfl (es_cons rfl (es1 rfl)))) ?_)
    exact left_ok (k := k + 3) (P := P) (m := false) (hm := 4) (so := 9) (fz := 0) (nm := 3) (ck := 2) (lf := 11) (i2 := 34) rfl rfl rfl rfl rfl rfl S l3 pdeck hT.hard hc
  -- due, the names
  refine (ss_set (d := .lst (ZG.map optD ++ ZN.map optD)) (s1 := s3) (ev_catL (s1 := s3) (x := ZG.map optD) (y := ZN.map optD) rfl ?g7 (by rw [List.length_map, List.length_map]; omega))).trans ?_
  case g7 =>
    rw [hZN, List.map_map]
    refine ev_comp0 (xs := strC tags) rfl (by rw [strs_len]; omega) (by rw [List.length_map]; omega) (comp_each (h := D.str) (g := optD ∘ fun c => lastC (hx o) ds (hx o c) ds.length) tags fun c hc => ?_)
    refine cB_all (e' := optD (lastC (hx o) ds (hx o c) ds.length)) rfl (ev_call (es_cons rfl (es_cons rfl (es_cons rfl (es1 rfl)))) ?_)
    exact last_ok (k := k + 7) (P := P) (a := 23) (la := 27) rfl rfl S.p S.nd hok (by omega) h3 hc (Nat.le_refl _) (by omega)
  -- lost
  refine (ss_set (d := L) (s1 := s3) (hL ▸ ev_tuple (es1 ?g8))).trans ?_
  case g8 =>
    unfold lostN
    refine ev_comp0 (rng_var rfl (by omega)) (by unfold intN; rw [List.length_map, List.length_range]; omega) (by
      unfold intN
      rw [List.length_map]
      have := List.length_filter_le (fun j => putAt ds j && !(seenZ tags o ds).contains (some j)) (List.range ds.length)
      rw [List.length_range] at this
      omega) (comp_filter (h := fun (j : Nat) => D.int (j : Int)) (g := fun (j : Nat) => D.int (j : Int)) (q := fun j => putAt ds j && !(seenZ tags o ds).contains (some j)) (List.range ds.length) fun j hj => ?_)
    have hj := List.mem_range.mp hj
    obtain ⟨d, hd2⟩ : ∃ d, ds[j]? = some d := ⟨_, List.getElem?_eq_getElem hj⟩
    refine cB_if (t := putAt ds j && !(seenZ tags o ds).contains (some j)) (y := .int (j : Int)) rfl ?_ rfl
    rw [put_at hd2]
    refine ev_and (kind_put (deed_0 (deed_at (i := 8) (j := 11) rfl rfl hd2))) fun _ => ?_
    show ofB s3 ((inD s3 (.int (j : Int)) (.lst (ZG.map optD ++ ZN.map optD))).map (!·)) = _
    rw [in_opts (Z := ZG ++ ZN) (by rw [List.map_append]; rfl), hZ]
    rfl
  refine (ss_set (d := .lst (ZG.map optD ++ ZN.map optD ++ [L, L])) (s1 := s3) (ev_catL (s1 := s3) (x := ZG.map optD ++ ZN.map optD) (y := [L, L]) rfl (ev_lst (es_cons (s1 := s3) (ev_call (es_cons rfl (es_cons rfl (es1 rfl))) q1) (es1 (ev_call (es_cons rfl (es_cons rfl (es1 rfl))) q2))) (by show 2 ≤ 10000; decide)) (by rw [List.length_append, List.length_map, List.length_map]; show _ + 2 ≤ 10000; omega))).trans ?_
  refine (ss_set (d := .lst (ZG.map optD ++ ZN.map optD ++ [L, L] ++ [spotV])) (s1 := s3) (ev_catL (s1 := s3) (x := ZG.map optD ++ ZN.map optD ++ [L, L]) (y := [spotV]) rfl (ev_lst (es1 (ev_call (es_cons rfl (es_cons rfl (es_cons rfl (es_cons rfl (es1 rfl))))) q3)) (by show 1 ≤ 10000; decide)) (by rw [List.length_append, List.length_append, List.length_map, List.length_map]; show _ + 2 + 1 ≤ 10000; omega))).trans ?_
  have hV2 : D.lst (ZG.map optD ++ ZN.map optD ++ [L, L] ++ [spotV] ++ [nameV]) = V := by
    rw [hV, List.append_assoc _ [L, L], List.append_assoc _ ([L, L] ++ [spotV])]
    rfl
  refine (ss_set (d := V) (s1 := s3) (hV2 ▸ ev_catL (s1 := s3) (x := ZG.map optD ++ ZN.map optD ++ [L, L] ++ [spotV]) (y := [nameV]) rfl (ev_lst (es1 (ev_call (es_cons rfl (es_cons rfl (es_cons rfl (es_cons rfl (es1 rfl))))) q4)) (by show 1 ≤ 10000; decide)) (by rw [List.length_append, List.length_append, List.length_append, List.length_map, List.length_map]; show _ + 2 + 1 + 1 ≤ 10000; omega))).trans ?_
  refine (ss_ifF0 (d := .bl false) (s1 := s3) ?_ rfl).trans rfl
  rw [evE]
  refine (congrArg (fun z => Rs.bind z _) (ev_call (f := 18) (es_cons (s1 := s3) (d := V) rfl (es1 ?_)) q5)).trans rfl
  rw [hV]
  exact ev_catL (s1 := s3) (x := ZG.map optD ++ ZN.map optD) (y := [L, L, spotV, nameV]) rfl rfl (by rw [List.length_append, List.length_map, List.length_map]; show _ + 4 ≤ 10000; omega)
theorem oloop : ∀ (xs : List D) (n : Nat) (st : Sto) (x1 x2 x3 x4 x5 x6 x7 x8 x9 x10 x11 x12 : Option D), Cell st b n → Low st → n + 2000 * xs.length < 40000 →
    ∃ y1 y2 y3 y4 y5 y6 y7 y8 y9 y10 st', forL [1] (evSs (callN P (k + 9)) obody) xs [some (.ref b), x1, x2, x3, x4, x5, x6, x7, x8, x9, x10, x11, x12] st = .ok (.nx [some (.ref b), y1, y2, y3, y4, y5, y6, y7, y8, y9, y10, x11, x12]) st' ∧ Mv st st' b
  | [], n, st, x1, x2, x3, x4, x5, x6, x7, x8, x9, x10, x11, x12, hc, _, _ => ⟨x1, x2, x3, x4, x5, x6, x7, x8, x9, x10, st, rfl, .refl hc⟩
  | x :: xs, n, st, x1, x2, x3, x4, x5, x6, x7, x8, x9, x10, x11, x12, hc, hlow, hn => by
    rw [List.length_cons] at hn
    obtain ⟨y2, y3, y4, y5, y6, y7, y8, y9, y10, s1, e1, hm, hc1⟩ := oturn (k := k) (x1 := some x) (x2 := x2) (x3 := x3) (x4 := x4) (x5 := x5) (x6 := x6) (x7 := x7) (x8 := x8) (x9 := x9) (x10 := x10) (x11 := x11) (x12 := x12) hc hlow (by omega)
    obtain ⟨z1, z2, z3, z4, z5, z6, z7, z8, z9, z10, s2, e2, hm2⟩ := oloop xs (n + 2000) s1 (some x) y2 y3 y4 y5 y6 y7 y8 y9 y10 x11 x12 hc1 (hm.low hlow) (by omega)
    exact ⟨z1, z2, z3, z4, z5, z6, z7, z8, z9, z10, s2, (forL_nx rfl e1).trans e2, hm.trans hm2⟩
theorem right_ok (hc : Cell st b 0) (hlow : Low st) : ∃ st', callN P (k + 10) 32 [.ref b] st = .ok (.bl true) st' ∧ Mv st st' b := by
  obtain ⟨y1, y2, y3, y4, y5, y6, y7, y8, y9, y10, s1, e, hm⟩ := oloop (k := k) (rngD 0 8) 0 st none none none none none none none none none none none none hc hlow (by show 0 + 2000 * 8 < _; decide)
  refine ⟨s1, call_rt (fn := f32) rfl rfl hm.len ?_, hm⟩
  exact (ss_for (xs := rngD 0 8) (s1 := st) rfl e).trans (ss_ret rfl)
end
end K17
end

section
set_option linter.all false
set_option maxRecDepth 100000
set_option autoImplicit false
namespace K17
open Mi
theorem law_ok {ns : List Int} (hn : ns.length ≤ 63) : ∃ s', callN P 60 33 [.ref 0] [.ro ns] = .ok (.bl true) s' :=
  law_gen (P := P) (k := 58) (bx := 13) (ce := 15) (bh := 31) (ri := 32) (la := 33) rfl rfl rfl (by_hand ns) (fun st b hc hl => by
    obtain ⟨s', e, hm⟩ := right_ok (k := 49) hc hl
    exact ⟨s', e, hm.low hl⟩) hn
end K17
end

section
set_option maxRecDepth 100000
set_option linter.all false
namespace K17
open Mi PySem L2
def top (i : Nat) : Stmt := PySem.Challenge.pw_aliasrows_k17_which_puts_are_told_and_le.main.body.getD i (.Pass ⟨0, 0, 0, 0⟩)
def D0 : Dd := ⟨⟨("frozen", none), "frozen", "frozen", defArgs (top 1), defBody (top 1), defScope (top 1), [], []⟩, ["value", "part"], ["value"]⟩
def D1 : Dd := ⟨⟨("set_of", none), "set_of", "set_of", defArgs (top 2), defBody (top 2), defScope (top 2), [], []⟩, ["things"], ["things"]⟩
def D2 : Dd := ⟨⟨("check_names", none), "check_names", "check_names", defArgs (top 7), defBody (top 7), defScope (top 7), [], []⟩, ["names", "asked", "name"], ["names", "asked"]⟩
def D3 : Dd := ⟨⟨("names_of", none), "names_of", "names_of", defArgs (top 8), defBody (top 8), defScope (top 8), [], []⟩, ["table"], ["table"]⟩
def D4 : Dd := ⟨⟨("homes", none), "homes", "homes", defArgs (top 10), defBody (top 10), defScope (top 10), [], []⟩, ["sameness", "name", "place", "cell"], ["sameness"]⟩
def D5 : Dd := ⟨⟨("spots_of", none), "spots_of", "spots_of", defArgs (top 12), defBody (top 12), defScope (top 12), [], []⟩, ["row", "deed"], ["row"]⟩
def D6 : Dd := ⟨⟨("puts_of", none), "puts_of", "puts_of", defArgs (top 13), defBody (top 13), defScope (top 13), [], []⟩, ["row"], ["row"]⟩
def D7 : Dd := ⟨⟨("_places_of", none), "_places_of", "_places_of", defArgs (top 14), defBody (top 14), defScope (top 14), [], []⟩, ["row", "word", "place", "deed"], ["row", "word"]⟩
def D8 : Dd := ⟨⟨("check_spot", none), "check_spot", "check_spot", defArgs (top 15), defBody (top 15), defScope (top 15), [], []⟩, ["row", "spot"], ["row", "spot"]⟩
def D9 : Dd := ⟨⟨("sources", none), "sources", "sources", defArgs (top 16), defBody (top 16), defScope (top 16), [], []⟩, ["row", "sameness", "home", "latest", "told", "left", "place", "deed", "cell", "name"], ["row", "sameness"]⟩
def D10 : Dd := ⟨⟨("read_from", none), "read_from", "read_from", defArgs (top 17), defBody (top 17), defScope (top 17), [], []⟩, ["table", "row", "sameness", "spot"], ["table", "row", "sameness", "spot"]⟩
def D11 : Dd := ⟨⟨("left_from", none), "left_from", "left_from", defArgs (top 18), defBody (top 18), defScope (top 18), [], []⟩, ["table", "row", "sameness", "name"], ["table", "row", "sameness", "name"]⟩
def D12 : Dd := ⟨⟨("lost_puts", none), "lost_puts", "lost_puts", defArgs (top 19), defBody (top 19), defScope (top 19), [], []⟩, ["table", "row", "sameness", "seen", "told", "left", "place"], ["table", "row", "sameness"]⟩
def D13 : Dd := ⟨⟨("_law_box", none), "_law_box", "_law_box", defArgs (top 21), defBody (top 21), defScope (top 21), [], []⟩, ["_law_script", "_law_k", "_law_cell_so"], ["_law_script", "_law_k"]⟩
def D14 : Dd := ⟨⟨("_law_take", none), "_law_take", "_law_take", defArgs (top 22), defBody (top 22), defScope (top 22), [], []⟩, ["_law_box_here", "_law_size_so", "_law_once_so", "_law_far_so", "_law_twice_so", "_law_drawn_so"], ["_law_box_here", "_law_size_so"]⟩
def D15 : Dd := ⟨⟨("_law_cells", none), "_law_cells", "_law_cells", defArgs (top 23), defBody (top 23), defScope (top 23), [], []⟩, ["_law_script", "_law_most_so", "_law_cells_so", "_law_k", "_law_cell_so", "_law_at_so"], ["_law_script", "_law_most_so"]⟩
def D16 : Dd := ⟨⟨("_law_of", none), "_law_of", "_law_of", defArgs (top 24), defBody (top 24), defScope (top 24), [], []⟩, ["_law_box_here", "_law_some_so"], ["_law_box_here", "_law_some_so"]⟩
def D17 : Dd := ⟨⟨("_law_pick", none), "_law_pick", "_law_pick", defArgs (top 25), defBody (top 25), defScope (top 25), [], []⟩, ["_law_box_here", "_law_some_so", "_law_many_so", "_law_turn", "_law_left_so", "_law_found"], ["_law_box_here", "_law_some_so", "_law_many_so"]⟩
def D18 : Dd := ⟨⟨("_law_same", none), "_law_same", "_law_same", defArgs (top 26), defBody (top 26), defScope (top 26), [], []⟩, ["_law_got", "_law_due", "_law_mine_so", "_law_its_so"], ["_law_got", "_law_due"]⟩
def D19 : Dd := ⟨⟨("_law_lists", none), "_law_lists", "_law_lists", defArgs (top 27), defBody (top 27), defScope (top 27), [], []⟩, ["_law_matter_so", "_law_bit_so"], ["_law_matter_so"]⟩
def D20 : Dd := ⟨⟨("_law_pairs", none), "_law_pairs", "_law_pairs", defArgs (top 28), defBody (top 28), defScope (top 28), [], []⟩, ["_law_tags_so", "_law_found", "_law_k", "_law_tag"], ["_law_tags_so"]⟩
def D21 : Dd := ⟨⟨("_law_lots", none), "_law_lots", "_law_lots", defArgs (top 29), defBody (top 29), defScope (top 29), [], []⟩, ["_law_deck", "_law_lots_so", "_law_one_so", "_law_two_so", "_law_near_so", "_law_tag", "_law_lot"], ["_law_deck"]⟩
def D22 : Dd := ⟨⟨("_law_table", none), "_law_table", "_law_table", defArgs (top 30), defBody (top 30), defScope (top 30), [], []⟩, ["_law_box_here", "_law_most_so", "_law_tags_so", "_law_ones_so", "_law_lots_so", "_law_free_so", "_law_own", "_law_lot"], ["_law_box_here", "_law_most_so"]⟩
def D23 : Dd := ⟨⟨("_law_at", none), "_law_at", "_law_at", defArgs (top 31), defBody (top 31), defScope (top 31), [], []⟩, ["_law_cells_so", "_law_tag", "_law_own"], ["_law_cells_so", "_law_tag"]⟩
def D24 : Dd := ⟨⟨("_law_fits", none), "_law_fits", "_law_fits", defArgs (top 32), defBody (top 32), defScope (top 32), [], []⟩, ["_law_deck", "_law_cells_so", "_law_own"], ["_law_deck", "_law_cells_so"]⟩
def D25 : Dd := ⟨⟨("_law_all", none), "_law_all", "_law_all", defArgs (top 33), defBody (top 33), defScope (top 33), [], []⟩, ["_law_deck", "_law_found", "_law_tag", "_law_later", "_law_own", "_law_k"], ["_law_deck"]⟩
def D26 : Dd := ⟨⟨("_law_deeds", none), "_law_deeds", "_law_deeds", defArgs (top 34), defBody (top 34), defScope (top 34), [], []⟩, ["_law_box_here", "_law_deck", "_law_most_so", "_law_k", "_law_spots_so", "_law_found"], ["_law_box_here", "_law_deck", "_law_most_so"]⟩
def D27 : Dd := ⟨⟨("_law_last", none), "_law_last", "_law_last", defArgs (top 35), defBody (top 35), defScope (top 35), [], []⟩, ["_law_deeds_so", "_law_cells_so", "_law_tag", "_law_upto_so", "_law_own", "_law_spots_so", "_law_k"], ["_law_deeds_so", "_law_cells_so", "_law_tag", "_law_upto_so"]⟩
def D28 : Dd := ⟨⟨("_law_hand", none), "_law_hand", "_law_hand", defArgs (top 36), defBody (top 36), defScope (top 36), [], []⟩, ["_law_one_so", "_law_free_so", "_law_far_so"], []⟩
def D29 : Dd := ⟨⟨("_law_heard", none), "_law_heard", "_law_heard", defArgs (top 37), defBody (top 37), defScope (top 37), [], []⟩, ["_law_door", "_law_deck", "_law_deeds_so", "_law_cells_so", "_law_word_so", "error_so", "_law_told", "_law_caught"], ["_law_door", "_law_deck", "_law_deeds_so", "_law_cells_so", "_law_word_so"]⟩
def D30 : Dd := ⟨⟨("_law_more_right", none), "_law_more_right", "_law_more_right", defArgs (top 38), defBody (top 38), defScope (top 38), [], []⟩, ["_law_one_so", "_law_free_so", "_law_row_so", "_law_near", "_law_all_so", "_law_two_so", "_law_eight_so", "_law_got", "_law_due", "_law_soft_so", "_law_mixed_so", "_law_k"], ["_law_one_so", "_law_free_so", "_law_row_so", "_law_near", "_law_all_so", "_law_two_so"]⟩
def D31 : Dd := ⟨⟨("_law_by_hand_right", none), "_law_by_hand_right", "_law_by_hand_right", defArgs (top 39), defBody (top 39), defScope (top 39), [], []⟩, ["_law_row_so", "_law_got", "_law_due", "_law_like_so", "_law_asked_so", "_law_one_so", "_law_free_so", "_law_near", "_law_far", "_law_fine_so", "_law_all_so", "_law_two_so", "_law_own", "_law_tag"], []⟩
def D32 : Dd := ⟨⟨("_law_right", none), "_law_right", "_law_right", defArgs (top 40), defBody (top 40), defScope (top 40), [], []⟩, ["_law_box_here", "_law_turn", "_law_deck", "_law_gets_so", "_law_due", "_law_got", "_law_lost_so", "_law_own", "_law_deeds_so", "_law_soft_so", "_law_many_so", "_law_k", "_law_tag"], ["_law_box_here"]⟩
def D33 : Dd := ⟨⟨("law", none), "law", "law", defArgs (top 41), defBody (top 41), defScope (top 41), [], []⟩, ["_law_script", "_law_cells_so", "_law_k"], ["_law_script"]⟩
def cBody (s : Stmt) : List Stmt := match s with
  | .ClassDef _ _ _ b _ _ _ _ _ _ _ => b
  | _ => []
def mth (i j : Nat) : Stmt := (cBody (top i)).getD j (.Pass ⟨0, 0, 0, 0⟩)
def I0 : Dd := ⟨⟨("NoName", some "__init__"), "__init__", "NoName.__init__", defArgs (mth 4 0), defBody (mth 4 0), defScope (mth 4 0), [], []⟩, ["self", "name"], ["self", "name"]⟩
def C0 : Cr := ⟨"NoName", 34, true, some ("name", I0)⟩
def I1 : Dd := ⟨⟨("NoSpot", some "__init__"), "__init__", "NoSpot.__init__", defArgs (mth 5 0), defBody (mth 5 0), defScope (mth 5 0), [], []⟩, ["self", "spot"], ["self", "spot"]⟩
def C1 : Cr := ⟨"NoSpot", 36, true, some ("spot", I1)⟩
def cl : List Cr := [C0, C1]
def is : List Ir := [⟨"NoName", none, [1], [0]⟩, ⟨"LookupError", some "LookupError", [], [0, 1]⟩, ⟨"NoSpot", none, [0], [1]⟩]
def bl : List PySem.Str := ["len", "abs", "int", "list", "tuple", "sorted", "min", "max", "sum", "all", "any", "isinstance", "range", "zip", "enumerate", "str", "bool", "set", "dict", "LookupError"]
def kw : Kw := [("left_from", 11, ["name", "sameness", "row", "table"], [3, 2, 1, 0]), ("lost_puts", 12, ["sameness", "row", "table"], [2, 1, 0]), ("read_from", 10, ["spot", "sameness", "row", "table"], [3, 2, 1, 0])]
def Ds : List Dd := [D0, D1, D2, D3, D4, D5, D6, D7, D8, D9, D10, D11, D12, D13, D14, D15, D16, D17, D18, D19, D20, D21, D22, D23, D24, D25, D26, D27, D28, D29, D30, D31, D32, D33]
end K17
end

section
set_option maxRecDepth 115150
set_option maxHeartbeats 0
set_option linter.all false
namespace K17
open Mi PySem L2
def T : Tx := ⟨Ds, P, bl, kw, cl, is⟩
def okB (T : Tx) : Bool := T.Ds.zipIdx.all fun p => match T.P[p.2]? with
  | some fn => okD T.bl T.fs T.kw T.er T.isl p.1 fn
  | none => false
theorem ok_all : okB T = true := by kernel_rfl
theorem ok_at (i : Nat) (D : Dd) (h : T.Ds[i]? = some D) : ∃ fn, T.P[i]? = some fn ∧ okD T.bl T.fs T.kw T.er T.isl D fn = true := by
  have q := ok_all
  unfold okB at q
  rw [List.all_eq_true] at q
  have m : (D, i) ∈ T.Ds.zipIdx := by rw [List.mem_zipIdx_iff_getElem?]; exact h
  have q := q _ m
  simp only at q
  split at q
  · rename_i fn e; exact ⟨fn, e, q⟩
  · cases q
end K17
end

section
set_option Elab.async false
set_option linter.all false
set_option maxRecDepth 100000
set_option maxHeartbeats 0
namespace K17
open PySem PySem.Spec PyProof.Rows L2 Mi
def fnL : List He.DefD := Ds.map (·.d) ++ cl.filterMap fun r => r.fo.map fun q => q.2.d
def faL : List He.Fa := (Ds.map fun D => He.Fa.glo D.d.name) ++ (cl.map fun r => He.Fa.glo r.nm) ++ bl.map He.Fa.free
abbrev R : PySem.W.OpenRow := PySem.W.OpenLaw.row PySem.Challenge.rw_aliasrows_k17_which_puts_are_told_and_le
abbrev hk : PySem.W.Hook := Mi.hookM 5 faL fnL T.ex
def ob (s : PySem.W.SharedT) : AlM := obsM 5 faL fnL T.ex (HandSHeadRun.getT s)
theorem ob_eq (s : PySem.W.SharedT) : ob s = hk.obs s.abs := Mi.obsM_eq (HandSHeadRun.getT_eq s)
abbrev loose : List PySem.Str := [("frozen" : PySem.Str), ("set_of" : PySem.Str), ("NoName" : PySem.Str), ("NoSpot" : PySem.Str), ("check_names" : PySem.Str), ("names_of" : PySem.Str), ("homes" : PySem.Str), ("spots_of" : PySem.Str), ("puts_of" : PySem.Str), ("_places_of" : PySem.Str), ("check_spot" : PySem.Str), ("sources" : PySem.Str), ("read_from" : PySem.Str), ("left_from" : PySem.Str), ("lost_puts" : PySem.Str), ("_law_box" : PySem.Str)] ++ [("_law_take" : PySem.Str), ("_law_cells" : PySem.Str), ("_law_of" : PySem.Str), ("_law_pick" : PySem.Str), ("_law_same" : PySem.Str), ("_law_lists" : PySem.Str), ("_law_pairs" : PySem.Str), ("_law_lots" : PySem.Str), ("_law_table" : PySem.Str), ("_law_at" : PySem.Str), ("_law_fits" : PySem.Str), ("_law_all" : PySem.Str), ("_law_deeds" : PySem.Str), ("_law_last" : PySem.Str), ("_law_hand" : PySem.Str), ("_law_heard" : PySem.Str), ("_law_more_right" : PySem.Str), ("_law_by_hand_right" : PySem.Str), ("_law_right" : PySem.Str)]
theorem run (w : World) : HandSHeadRun.RunEq R (PySem.W.view R.prog [41]) hk ob 2000 loose w := by
  intro os
  kernel_rfl
end K17
end

section
set_option linter.all false
set_option Elab.async false
set_option maxRecDepth 100000
set_option maxHeartbeats 0
namespace K17
open PySem PySem.Spec PyProof.Rows L2 Mi
theorem bnd0 : Bnd D0 := fun _ _ _ _ _ _ us hl => match us, hl with | [_], _ => rfl
theorem bnd1 : Bnd D1 := fun _ _ _ _ _ _ us hl => match us, hl with | [_], _ => rfl
theorem bnd2 : Bnd D2 := fun _ _ _ _ _ _ us hl => match us, hl with | [_, _], _ => rfl
theorem bnd3 : Bnd D3 := fun _ _ _ _ _ _ us hl => match us, hl with | [_], _ => rfl
theorem bnd4 : Bnd D4 := fun _ _ _ _ _ _ us hl => match us, hl with | [_], _ => rfl
theorem bnd5 : Bnd D5 := fun _ _ _ _ _ _ us hl => match us, hl with | [_], _ => rfl
theorem bnd6 : Bnd D6 := fun _ _ _ _ _ _ us hl => match us, hl with | [_], _ => rfl
theorem bnd7 : Bnd D7 := fun _ _ _ _ _ _ us hl => match us, hl with | [_, _], _ => rfl
theorem bnd8 : Bnd D8 := fun _ _ _ _ _ _ us hl => match us, hl with | [_, _], _ => rfl
theorem bnd9 : Bnd D9 := fun _ _ _ _ _ _ us hl => match us, hl with | [_, _], _ => rfl
theorem bnd10 : Bnd D10 := fun _ _ _ _ _ _ us hl => match us, hl with | [_, _, _, _], _ => rfl
theorem bnd11 : Bnd D11 := fun _ _ _ _ _ _ us hl => match us, hl with | [_, _, _, _], _ => rfl
theorem bnd12 : Bnd D12 := fun _ _ _ _ _ _ us hl => match us, hl with | [_, _, _], _ => rfl
theorem bnd13 : Bnd D13 := fun _ _ _ _ _ _ us hl => match us, hl with | [_, _], _ => rfl
theorem bnd14 : Bnd D14 := fun _ _ _ _ _ _ us hl => match us, hl with | [_, _], _ => rfl
theorem bnd15 : Bnd D15 := fun _ _ _ _ _ _ us hl => match us, hl with | [_, _], _ => rfl
theorem bnd16 : Bnd D16 := fun _ _ _ _ _ _ us hl => match us, hl with | [_, _], _ => rfl
theorem bnd17 : Bnd D17 := fun _ _ _ _ _ _ us hl => match us, hl with | [_, _, _], _ => rfl
theorem bnd18 : Bnd D18 := fun _ _ _ _ _ _ us hl => match us, hl with | [_, _], _ => rfl
theorem bnd19 : Bnd D19 := fun _ _ _ _ _ _ us hl => match us, hl with | [_], _ => rfl
theorem bnd20 : Bnd D20 := fun _ _ _ _ _ _ us hl => match us, hl with | [_], _ => rfl
theorem bnd21 : Bnd D21 := fun _ _ _ _ _ _ us hl => match us, hl with | [_], _ => rfl
theorem bnd22 : Bnd D22 := fun _ _ _ _ _ _ us hl => match us, hl with | [_, _], _ => rfl
theorem bnd23 : Bnd D23 := fun _ _ _ _ _ _ us hl => match us, hl with | [_, _], _ => rfl
theorem bnd24 : Bnd D24 := fun _ _ _ _ _ _ us hl => match us, hl with | [_, _], _ => rfl
theorem bnd25 : Bnd D25 := fun _ _ _ _ _ _ us hl => match us, hl with | [_], _ => rfl
theorem bnd26 : Bnd D26 := fun _ _ _ _ _ _ us hl => match us, hl with | [_, _, _], _ => rfl
theorem bnd27 : Bnd D27 := fun _ _ _ _ _ _ us hl => match us, hl with | [_, _, _, _], _ => rfl
theorem bnd28 : Bnd D28 := fun _ _ _ _ _ _ us hl => match us, hl with | [], _ => rfl
theorem bnd29 : Bnd D29 := fun _ _ _ _ _ _ us hl => match us, hl with | [_, _, _, _, _], _ => rfl
theorem bnd30 : Bnd D30 := fun _ _ _ _ _ _ us hl => match us, hl with | [_, _, _, _, _, _], _ => rfl
theorem bnd31 : Bnd D31 := fun _ _ _ _ _ _ us hl => match us, hl with | [], _ => rfl
theorem bnd32 : Bnd D32 := fun _ _ _ _ _ _ us hl => match us, hl with | [_], _ => rfl
theorem bnd33 : Bnd D33 := fun _ _ _ _ _ _ us hl => match us, hl with | [_], _ => rfl
theorem bnd_all : ∀ D ∈ T.Ds, Bnd D := by
  intro D hD
  have hD : D ∈ [D0, D1, D2, D3, D4, D5, D6, D7, D8, D9, D10, D11, D12, D13, D14, D15, D16, D17, D18, D19, D20, D21, D22, D23, D24, D25, D26, D27, D28, D29, D30, D31, D32, D33] := hD
  simp only [List.mem_cons, List.not_mem_nil, or_false] at hD
  rcases hD with rfl | rfl | rfl | rfl | rfl | rfl | rfl | rfl | rfl | rfl | rfl | rfl | rfl | rfl | rfl | rfl | rfl | rfl | rfl | rfl | rfl | rfl | rfl | rfl | rfl | rfl | rfl | rfl | rfl | rfl | rfl | rfl | rfl | rfl
  · exact bnd0
  · exact bnd1
  · exact bnd2
  · exact bnd3
  · exact bnd4
  · exact bnd5
  · exact bnd6
  · exact bnd7
  · exact bnd8
  · exact bnd9
  · exact bnd10
  · exact bnd11
  · exact bnd12
  · exact bnd13
  · exact bnd14
  · exact bnd15
  · exact bnd16
  · exact bnd17
  · exact bnd18
  · exact bnd19
  · exact bnd20
  · exact bnd21
  · exact bnd22
  · exact bnd23
  · exact bnd24
  · exact bnd25
  · exact bnd26
  · exact bnd27
  · exact bnd28
  · exact bnd29
  · exact bnd30
  · exact bnd31
  · exact bnd32
  · exact bnd33
theorem kw11_3_2_1_0 : KwBnd D11 ["name", "sameness", "row", "table"] [3, 2, 1, 0] := fun _ _ _ _ _ _ ws hl => match ws, hl with | [_, _, _, _], _ => rfl
theorem kw12_2_1_0 : KwBnd D12 ["sameness", "row", "table"] [2, 1, 0] := fun _ _ _ _ _ _ ws hl => match ws, hl with | [_, _, _], _ => rfl
theorem kw10_3_2_1_0 : KwBnd D10 ["spot", "sameness", "row", "table"] [3, 2, 1, 0] := fun _ _ _ _ _ _ ws hl => match ws, hl with | [_, _, _, _], _ => rfl
theorem hkw : ∀ q ∈ T.kw, ∃ D, T.Ds[q.2.1]? = some D ∧ D.d.name = q.1 ∧ KwBnd D q.2.2.1 q.2.2.2 := fun q hq => by
  have hq : q ∈ kw := hq
  unfold kw at hq
  simp only [List.mem_cons, List.not_mem_nil, or_false] at hq
  rcases hq with rfl | rfl | rfl
  · exact ⟨D11, rfl, rfl, kw11_3_2_1_0⟩
  · exact ⟨D12, rfl, rfl, kw12_2_1_0⟩
  · exact ⟨D10, rfl, rfl, kw10_3_2_1_0⟩
theorem ini0 : InitOk "NoName" "name" I0 := ⟨rfl, rfl, okSc_ok (by decide +kernel), by decide +kernel, by decide +kernel, ⟨rfl, rfl⟩, fun _ _ _ _ _ _ _ _ => rfl, fun _ _ _ _ _ _ _ _ => rfl⟩
theorem ini1 : InitOk "NoSpot" "spot" I1 := ⟨rfl, rfl, okSc_ok (by decide +kernel), by decide +kernel, by decide +kernel, ⟨rfl, rfl⟩, fun _ _ _ _ _ _ _ _ => rfl, fun _ _ _ _ _ _ _ _ => rfl⟩
theorem hcl : ∀ (c : Nat) (r : Cr), T.cl[c]? = some r → ∃ j, T.P[r.ix]? = some (mkC j (if r.fd.isSome then 1 else 0)) ∧ T.P[j]? = some (mkE c (if r.fd.isSome then 1 else 0)) := fun c r h => by
  have h : cl[c]? = some r := h
  unfold cl at h
  match c, h with
  | 0, h => cases h; exact ⟨35, rfl, rfl⟩
  | 1, h => cases h; exact ⟨37, rfl, rfl⟩
  | n + 2, h => simp at h
theorem hini : ∀ r ∈ T.cl, ∀ f D, r.fo = some (f, D) → InitOk r.nm f D := fun r hr f D h => by
  have hr : r ∈ [C0, C1] := hr
  simp only [List.mem_cons, List.not_mem_nil, or_false] at hr
  rcases hr with rfl | rfl
  · cases h; exact ini0
  · cases h; exact ini1
theorem his : ∀ r ∈ T.is, (r.bt = none ∧ ∃ q ∈ T.cl, q.nm = r.nm) ∨ ∃ t, r.bt = some t ∧ bootBuiltins r.nm = some (.type t) ∧ r.nm ∈ T.bl := fun r hr => by
  have hr : r ∈ is := hr
  unfold is at hr
  simp only [List.mem_cons, List.not_mem_nil, or_false] at hr
  rcases hr with rfl | rfl | rfl
  · exact .inl ⟨rfl, C0, by show C0 ∈ cl; unfold cl; simp, rfl⟩
  · exact .inr ⟨"LookupError", rfl, by decide +kernel, by decide +kernel⟩
  · exact .inl ⟨rfl, C1, by show C1 ∈ cl; unfold cl; simp, rfl⟩
theorem okT : T.Ok := ⟨ok_at, bnd_all, hkw, hcl, hini, his⟩
theorem hfn : ∀ D ∈ T.Ds, D.d ∈ fnL ∧ D.d.at_ = (D.d.name, none) ∧ He.Fa.glo D.d.name ∈ faL := by
  intro D hD
  refine ⟨List.mem_append_left _ (List.mem_map_of_mem hD), ?_, List.mem_append_left _ (List.mem_append_left _ (List.mem_map_of_mem (f := fun D : Dd => He.Fa.glo D.d.name) hD))⟩
  have hD : D ∈ [D0, D1, D2, D3, D4, D5, D6, D7, D8, D9, D10, D11, D12, D13, D14, D15, D16, D17, D18, D19, D20, D21, D22, D23, D24, D25, D26, D27, D28, D29, D30, D31, D32, D33] := hD
  simp only [List.mem_cons, List.not_mem_nil, or_false] at hD
  rcases hD with rfl | rfl | rfl | rfl | rfl | rfl | rfl | rfl | rfl | rfl | rfl | rfl | rfl | rfl | rfl | rfl | rfl | rfl | rfl | rfl | rfl | rfl | rfl | rfl | rfl | rfl | rfl | rfl | rfl | rfl | rfl | rfl | rfl | rfl <;> rfl
theorem hclf : ∀ r ∈ T.cl, He.Fa.glo r.nm ∈ faL ∧ ∀ f D, r.fo = some (f, D) → D.d ∈ fnL := fun r hr => ⟨List.mem_append_left _ (List.mem_append_right _ (List.mem_map_of_mem (f := fun r : Cr => He.Fa.glo r.nm) hr)), fun f D h => List.mem_append_right _ (List.mem_filterMap.mpr ⟨r, hr, by rw [h]; rfl⟩)⟩
theorem hbl : ∀ x ∈ T.bl, He.Fa.free x ∈ faL := fun x hx => List.mem_append_right _ (List.mem_map_of_mem hx)
end K17
open PySem PySem.W PySem.Calls PyProof.Rows
theorem k17_of (hsp : ∀ ns : List Int, ns.length ≤ 63 → ∃ s', Mi.callN K17.P 60 33 [.ref 0] [.ro ns] = .ok (.bl true) s') : PySem.Challenge.rw_aliasrows_k17_which_puts_are_told_and_le.Holds := by
  w_on; o_law
  refine HandSHeadRun.head_any (r := OpenLaw.row PySem.Challenge.rw_aliasrows_k17_which_puts_are_told_and_le) (q := view (OpenLaw.row PySem.Challenge.rw_aliasrows_k17_which_puts_are_told_and_le).prog [41]) (H := K17.hk) (ob := K17.ob) (M := 2000) (loose := K17.loose) (d := HandSHeadRun.topDef (OpenLaw.row PySem.Challenge.rw_aliasrows_k17_which_puts_are_told_and_le).prog 41) (kwd := []) K17.ob_eq
    (by kernel_rfl) (fun s => by kernel_rfl) K17.run (by kernel_rfl) (by kernel_rfl) (by kernel_rfl) (by rfl) (by first | assumption | decide +kernel) (by decide +kernel) ⟨rfl, rfl, rfl, rfl, rfl, by decide +kernel⟩ ?hw ?hc
  case hw => w_witness2
  case hc =>
    refine Mi.walk_mi2 (P := K17.P) (i := 33) (l := PySem.Challenge.rw_aliasrows_k17_which_puts_are_told_and_le) (n := 63) (k := 60) (x := "_law_script") rfl (by decide) (by kernel_rfl) ⟨rfl, by decide, by decide⟩ ?F hsp
    intro w mg fa h Y G hmg0
    obtain ⟨K, c⟩ := Y
    have hmg : mg ("law" : PySem.Str) = some (.ref fa) := by
      have e : (HandSHeadRun.topDef (OpenLaw.row PySem.Challenge.rw_aliasrows_k17_which_puts_are_told_and_le).prog 41).name = ("law" : PySem.Str) := by kernel_rfl
      rw [← e]
      exact hmg0
    obtain ⟨⟨fA, fD, hF, hm⟩, kn⟩ := Mi.facts (T := K17.T) K17.okT c.kin G c.d c.e K17.hfn K17.hclf K17.hbl
    have eL : K17.T.Ds[33]? = some K17.D33 := rfl
    have hmL : mg ("law" : PySem.Str) = some (.ref (fA 33)) := hm 33 K17.D33 eL
    have ea : fA 33 = fa := by
      rw [hmg] at hmL
      cases hmL
      rfl
    have FL := hF 33 K17.D33 eL
    refine ⟨K17.T.cls K, K, fD 33, c.kin, c.sq, fun s v => L2.FunD.bindsA (ps := ["_law_script"]) FL (fun a b c d e f us hl => K17.bnd33 a b c d e f us hl) s [v] rfl, fun base hK hG => ?_⟩
    have r := Mi.all_ok (T := K17.T) (Pg := (PySem.Challenge.rw_aliasrows_k17_which_puts_are_told_and_le).prog) (w := w) (K := K) (mg := mg) (base := base) K17.okT kn fA fD hF hm 60 33 K17.D33 eL
    rw [ea] at r
    exact r
end

theorem PySem.Challenge.cw_aliasrows_k17_which_puts_are_told_and_le_holds : PySem.Challenge.rw_aliasrows_k17_which_puts_are_told_and_le.Holds := by
  exact k17_of fun ns h => K17.law_ok h
