import PyProof.Rows.All
import Wide.All
import OpenK.AllK
import Wide.FinOn
import HandS.ForMost
import HandS.ForExc
import HandS.Walk
import HandS.Flow
import HandS.IsInst
import HandS.Wide
import HandS.Style
import HandS.TupAny
import HandS.TupLe
import HandS.TupMul
import HandS.Zip
import HandS.Conv
import HandS.Exc
import HandS.ExcOwn
import HandS.ExcValue
import HandS.TryOnly
import HandS.ExcIs
import HandS.ExcField
import HandS.ExcInit
import HandS.CallSlots
import HandS.Deep
import HandS.Dict
import KE.DatumOrd
import KE.GoesEnum
import KE.KDictZip
import KE.KDictItemsList
import HandS.ListItems
import HandS.Small
import HandS.Sort
import KE.KExcIs
import KE.KExcInit
import PyProof.ExcBaseAll.LookupError
import KE.KDictKeyed
import KE.KDictPairs
import KE.KDictSum
import KE.KDictCopyH
import KE.KDictList
import HandS.TupSets
import HandS.SortInts
import HandS.Keys
import HandS.Star
import HandS.SetFor
import PySem.Challenge.RW_anyhands_k05_never_more_by_stretches
set_option Elab.async false
set_option linter.all false
set_option maxRecDepth 100000
set_option maxHeartbeats 8000000
section
namespace Ev
open PySem L2
/-! ### data, slots, results -/
inductive D where
  | non | bl (b : Bool) | int (i : Int) | str (x : Str) | lst (xs : List D) | tup (xs : List D) | scr (xs : List D) | err (c : Nat) (ns : List Str) (fs : List D) | dic (ks : List (List Int)) (vs : List D)
  deriving Inhabited
/-- what one's own object is: a list, a dict -/
inductive Ow where
  | l (xs : List D) | d (ks : List (List Int)) (xs : List D)
  deriving Inhabited
instance : Coe (List D) Ow := ⟨Ow.l⟩
def Ow.toD : Ow → D
  | .l xs => .lst xs
  | .d ks xs => .dic ks xs
inductive Sl where
  | em | va (d : D) | ow (w : Ow)
  deriving Inhabited
abbrev Env := List Sl
inductive R (α : Type) where
  | ok (a : α) (e : Env) | ex (c : Nat) (fs : List D) (e : Env) | no
def R.bind {α β : Type} (r : R α) (k : α → Env → R β) : R β := match r with
  | .ok a e => k a e
  | .ex c fs e => .ex c fs e
  | .no => .no
def lift {α : Type} (o : Option α) (e : Env) : R α := match o with
  | some a => .ok a e
  | none => .no
inductive B2 where | add | sub | mul | fdiv | mod | pow
  deriving DecidableEq
inductive C2 where | eq | ne | lt | le | gt | ge | isn | notn | inn | notin
  deriving DecidableEq
inductive Bi where | len | abs | int | list | tuple | all | sum | min | max | any
  deriving DecidableEq
inductive Ty where | list | tuple | int | bool | str
  deriving DecidableEq
inductive Tg where | nm (i : Nat) | tp (ts : Tg) | nil | cons (t ts : Tg)
inductive E where
  | ci (i : Int) | cs (x : Str) | cb (b : Bool) | cn
  | neg (a : E)
  | v (i : Nat)
  | bin (op : B2) (a b : E)
  | cmp (op : C2) (a b : E)
  | cmp2 (op op' : C2) (a b c : E)
  | cmp3 (o1 o2 o3 : C2) (a b c d : E)
  | band (es : E) | bor (es : E)
  | not (a : E)
  | orf (a b : E)
  | ite (c a b : E)
  | call (f : Nat) (as : E) | callo (f i : Nat) (as : E) | callb (f i j : Nat) | callf (f : Nat) (a as : E)
  | callk (f : Nat) (as kws : E) (pl : List Nat)
  | bi (b : Bi) (a : E)
  | leno (i : Nat)
  | isi (a : E) (t : Ty) | isis (a : E) (ts : List Ty)
  | ix (a i : E) | ixo (i : Nat) (k : E)
  | sl (a lo hi : E) | rev (a : E)
  | lst (as : E) | tup (as : E)
  | lc (elt : E) (t : Tg) (it c : E) (own : List Nat)
  | lc2 (elt : E) (t : Tg) (it : E) (t1 : Tg) (it1 c : E) (own own1 : List Nat) | inr1 (neg : Bool) (x hi : E) | inr2 (neg : Bool) (x lo hi : E)
  | mm (mx : Bool) (a b : E) | dct (a : E) | ladd (a b : E)
  | srt (a : E) | srto (i : Nat) | dget (i : Nat) (k d : E) | dino (neg : Bool) (k : E) (i : Nat) | demp | cat (a b : E) | lcnt (a b : E)
  | fld (a : E) (nm : Str) | isx (a : E) (yes : List Nat)
  | lz3 (as : E)
  | range1 (a : E) | range2 (a b : E) | enum (a : E) | zip (a b : E)
  | seq (a : E) | nil | cons (a as : E) | absent
/-! ### the operations by values -/
mutual
def D.lay : D → Bool
  | .non => true | .bl _ => true | .int _ => true
  | .str x => x.cps.toList.all fun c => decide (c < 0x110000)
  | .lst xs => D.lays xs | .tup xs => D.lays xs | .scr _ => false | .err _ _ _ => false | .dic _ _ => false
def D.lays : List D → Bool
  | [] => true
  | x :: xs => D.lay x && D.lays xs
end
mutual
/-- no list, no dict, no error in it -/
def noL : D → Bool
  | .non => true | .bl _ => true | .int _ => true | .str _ => true
  | .tup xs => noLs xs
  | .lst _ => false | .scr _ => false | .err _ _ _ => false | .dic _ _ => false
def noLs : List D → Bool
  | [] => true
  | x :: xs => noL x && noLs xs
end
mutual
def D.dep : D → Nat
  | .non => 0 | .bl _ => 0 | .int _ => 0 | .str _ => 0
  | .lst xs => D.deps xs + 1 | .tup xs => D.deps xs + 1 | .scr _ => 0 | .err _ _ _ => 0 | .dic _ _ => 0
def D.deps : List D → Nat
  | [] => 0
  | x :: xs => max (D.dep x) (D.deps xs)
end
mutual
def D.eqv : D → D → Bool
  | .non, .non => true
  | .bl a, .bl b => a == b
  | .bl a, .int j => (if a then 1 else 0) == j
  | .int i, .bl b => i == (if b then 1 else 0)
  | .int i, .int j => i == j
  | .str x, .str y => x == y
  | .lst xs, .lst ys => D.eqvs xs ys
  | .tup xs, .tup ys => D.eqvs xs ys
  | _, _ => false
def D.eqvs : List D → List D → Bool
  | [], [] => true
  | x :: xs, y :: ys => D.eqv x y && D.eqvs xs ys
  | _, _ => false
end
def eqO (d e : D) : Option Bool :=
  match d, e with
  | .int i, .int j => some (decide (i = j))
  | d, e => if d.lay && e.lay && decide (min d.dep e.dep ≤ 64) then some (D.eqv d e) else none
def truthy : D → Option Bool
  | .non => some false
  | .bl b => some b
  | .int i => some (i != 0)
  | .str x => if x.length ≤ sizeLine then some ((x.length : Int) != 0) else none
  | .lst xs => some (!xs.isEmpty)
  | .tup xs => some (!xs.isEmpty)
  | .scr _ => none
  | .err _ _ _ => none
  | .dic _ _ => none
def wide : Nat := 2 ^ 500
def big64 : Int := 18446744073709551616
def binop (op : B2) (d e : D) : Option D :=
  match op, d, e with
  | .add, .int i, .int j => some (.int (i + j))
  | .sub, .int i, .int j => some (.int (i - j))
  | .mul, .int i, .int j => if ((-big64 < i ∧ i < big64) ∨ (-big64 < j ∧ j < big64)) ∨ (i.natAbs < wide ∧ j.natAbs < wide) then some (.int (i * j)) else none
  | .fdiv, .int i, .int j => if 0 < j ∧ j < 10 ^ 60 then some (.int (i / j)) else none
  | .mod, .int i, .int j => if 0 < j then some (.int (i % j)) else none
  | .pow, .int i, .int j => if 0 ≤ j ∧ j ≤ 1000000 ∧ i.natAbs < 2 ^ 64 then some (.int (i ^ j.toNat)) else none
  | .add, .lst xs, .lst ys => if xs.length + ys.length ≤ sizeLine then some (.lst (xs ++ ys)) else none
  | .add, .tup xs, .tup ys => if xs.length + ys.length ≤ sizeLine then some (.tup (xs ++ ys)) else none
  | .mul, .tup xs, .int j => if 0 < xs.length ∧ xs.length ≤ 1000 ∧ 2 ≤ j ∧ j ≤ 1000 then some (.tup (List.replicate j.toNat xs).flatten) else none
  | .mul, .lst xs, .int j => if -(2 ^ 63) ≤ j ∧ j < 2 ^ 63 ∧ xs.length * j.toNat ≤ sizeLine then some (.lst (List.replicate j.toNat xs).flatten) else none
  | _, _, _ => none
def ints? : List D → Option (List Int)
  | [] => some []
  | .int i :: r => (ints? r).map fun q => i :: q
  | _ :: _ => none
def bools? : List D → Option (List Bool)
  | [] => some []
  | .bl i :: r => (bools? r).map fun q => i :: q
  | _ :: _ => none
def flat : D → Bool
  | .non => true | .bl _ => true | .int _ => true | .str _ => true
  | _ => false
def eqF : D → D → Bool
  | .non, .non => true
  | .bl a, .bl b => a == b
  | .bl a, .int j => (if a then 1 else 0) == j
  | .int i, .bl b => i == (if b then 1 else 0)
  | .int i, .int j => i == j
  | .str a, .str b => a == b
  | _, _ => false
def items? : D → Option (List D)
  | .lst xs => some xs
  | .tup xs => some xs
  | _ => none
def inDeep (d e : D) : Bool := (match e with | .lst _ => true | _ => false) && d.lay && e.lay && decide (d.dep ≤ 64) && decide (e.dep ≤ 64)
def cmpop (op : C2) (d e : D) : Option Bool :=
  match op with
  | .eq => eqO d e
  | .ne => (eqO d e).map fun b => !b
  | .isn => match e with | .non => some (match d with | .non => true | _ => false) | _ => none
  | .notn => match e with | .non => some (match d with | .non => false | _ => true) | _ => none
  | .inn => (items? e).bind fun xs => if flat d && xs.all flat then some (xs.any fun y => eqF y d) else if inDeep d e then some (xs.any fun y => D.eqv y d) else none
  | .notin => (items? e).bind fun xs => if flat d && xs.all flat then some (!xs.any fun y => eqF y d) else if inDeep d e then some (!xs.any fun y => D.eqv y d) else none
  | .lt => match d, e with
    | .int i, .int j => some (decide (i < j))
    | .tup xs, .tup ys => (ints? xs).bind fun ns => (ints? ys).map fun ms => HT.lexLt ns ms
    | _, _ => none
  | .le => match d, e with
    | .int i, .int j => some (decide (i ≤ j))
    | .tup xs, .tup ys => (ints? xs).bind fun ns => (ints? ys).map fun ms => lexLeI ns ms
    | _, _ => none
  | .gt => match d, e with
    | .int i, .int j => some (decide (j < i))
    | _, _ => none
  | .ge => match d, e with
    | .int i, .int j => some (decide (j ≤ i))
    | _, _ => none
def minI : List Int → Option D
  | [] => none
  | n :: ns => some (.int (ns.foldl min n))
def maxI : List Int → Option D
  | [] => none
  | n :: ns => some (.int (ns.foldl max n))
def builtin (b : Bi) (d : D) : Option D :=
  match b, d with
  | .len, .lst xs => some (.int xs.length)
  | .len, .tup xs => some (.int xs.length)
  | .abs, .int i => some (.int (if i < 0 then -i else i))
  | .int, .int i => some (.int i)
  | .int, .bl k => some (.int (if k then 1 else 0))
  | .list, .lst xs => some (.lst xs)
  | .list, .tup xs => some (.lst xs)
  | .tuple, .lst xs => some (.tup xs)
  | .tuple, .tup xs => some (.tup xs)
  | .all, .lst xs => (bools? xs).map fun bs => .bl (bs.all id)
  | .sum, .lst xs => (ints? xs).map fun ns => .int ns.sum
  | .min, .lst xs => (ints? xs).bind minI
  | .min, .tup xs => (ints? xs).bind minI
  | .max, .lst xs => (ints? xs).bind maxI
  | .max, .tup xs => (ints? xs).bind maxI
  | .any, .lst xs => (bools? xs).map fun bs => .bl (bs.any id)
  | _, _ => none
def isTy (t : Ty) (d : D) : Bool :=
  match t, d with
  | .list, .lst _ => true
  | .tuple, .tup _ => true
  | .int, .int _ => true
  | .int, .bl _ => true
  | .bool, .bl _ => true
  | .str, .str _ => true
  | _, _ => false
def noScr : D → Bool
  | .scr _ => false
  | .err _ _ _ => false
  | .dic _ _ => false
  | _ => true
def dget (ks : List (List Int)) (xs : List D) (k : List Int) : Option D := ((ks.zip xs).find? fun p => decide (p.1 = k)).map (·.2)
def dputP (kvs : List (List Int × D)) (k : List Int) (d : D) : List (List Int × D) := if (kvs.any fun p => decide (p.1 = k)) = true then kvs.map fun p => if p.1 = k then (p.1, d) else p else kvs ++ [(k, d)]
def dput (ks : List (List Int)) (xs : List D) (k : List Int) (d : D) : Ow := .d ((dputP (ks.zip xs) k d).map (·.1)) ((dputP (ks.zip xs) k d).map (·.2))
def pairs? : List D → Option (List (List Int × D))
  | [] => some []
  | .tup [.tup ys, d] :: r => (ints? ys).bind fun k => (pairs? r).map fun q => (k, d) :: q
  | _ :: _ => none
def mergeP (kvs : List (List Int × D)) : List (List Int × D) := kvs.foldl (fun acc p => dputP acc p.1 p.2) []
def item (d k : D) : Option D :=
  match d, k with
  | .lst xs, .int i => atI xs i
  | .tup xs, .int i => atI xs i
  | .dic ks xs, .tup ys => (ints? ys).bind fun k => dget ks xs k
  | _, _ => none
/-! sorting -/
def insI (n : Int) : List Int → List Int
  | [] => [n]
  | m :: r => if n ≤ m then n :: m :: r else m :: insI n r
def sortI : List Int → List Int
  | [] => []
  | n :: r => insI n (sortI r)
def leK : List Int → List Int → Bool
  | [a, b], [c, d] => decide (a < c) || (decide (a = c) && decide (b ≤ d))
  | _, _ => false
def insK (k : List Int) : List (List Int) → List (List Int)
  | [] => [k]
  | m :: r => if leK k m = true then k :: m :: r else m :: insK k r
def sortK : List (List Int) → List (List Int)
  | [] => []
  | k :: r => insK k (sortK r)
/-- a key of two numbers from 0 -/
def two : List Int → Bool
  | [a, b] => decide (0 ≤ a) && decide (0 ≤ b)
  | _ => false
def tupK (k : List Int) : D := .tup (k.map .int)
def srtD : D → Option D
  | .lst xs => (ints? xs).map fun ns => .lst ((sortI ns).map .int)
  | .dic ks _ => if decide (ks.length < 64) && ks.all two then some (.lst ((sortK ks).map tupK)) else none
  | _ => none
def rdS : Sl → Option D
  | .va d => some d
  | .ow w => some w.toD
  | .em => none
def cutD (xs : List D) (lo hi : Option Int) : List D := (xs.drop (HT.sIx xs.length 0 lo)).take (HT.sIx xs.length xs.length hi - HT.sIx xs.length 0 lo)
def slice (d : D) (lo hi : Option Int) : Option D :=
  match d with
  | .lst xs => some (.lst (cutD xs lo hi))
  | .tup xs => some (.tup (cutD xs lo hi))
  | .scr xs => some (.lst (cutD xs lo hi))
  | _ => none
def getS (e : Env) (i : Nat) : Sl := e.getD i .em
mutual
def tset : Tg → D → Env → Option Env
  | .nm i, d, e => some (e.set i (.va d))
  | .tp ts, .tup xs, e => tsets ts xs e
  | .tp ts, .lst xs, e => tsets ts xs e
  | _, _, _ => none
def tsets : Tg → List D → Env → Option Env
  | .nil, [], e => some e
  | .cons t ts, d :: ds, e => (tset t d e).bind fun e' => tsets ts ds e'
  | _, _, _ => none
end
def tnames : Tg → List Nat
  | .nm i => [i]
  | .tp ts => tnames ts
  | .nil => []
  | .cons t ts => tnames t ++ tnames ts
def wipeE (e : Env) : List Nat → Env
  | [] => e
  | v :: vs => (wipeE e vs).set v .em
def restE (e e0 : Env) : List Nat → Env
  | [] => e
  | v :: vs => (restE e e0 vs).set v (getS e0 v)
/-- a comprehension's loop -/
def loopC (own : List Nat) (f : Env → R (Option D)) (t : Tg) : List D → List D → Env → R (List D)
  | [], acc, e => .ok acc e
  | x :: xs, acc, e => match tset t x e with
    | none => .no
    | some e' => match f e' with
      | .ok (some y) e2 => if acc.length < sizeLine then loopC own f t xs (acc ++ [y]) (wipeE e2 own) else .no
      | .ok none e2 => loopC own f t xs acc (wipeE e2 own)
      | _ => .no
/-- .. with two loops -/
def loopC2 (own own1 : List Nat) (fi : Env → R (List D)) (fb : Env → R (Option D)) (t t1 : Tg) : List D → List D → Env → R (List D)
  | [], acc, e => .ok acc e
  | x :: xs, acc, e => match tset t x e with
    | none => .no
    | some e' => match fi e' with
      | .ok ds1 e2 => match loopC own1 fb t1 ds1 acc (wipeE e2 own1) with
        | .ok acc' e3 => loopC2 own own1 fi fb t t1 xs acc' (wipeE e3 own)
        | _ => .no
      | _ => .no
inductive CR where
  | ok (d : D) (o : List D) | ex (c : Nat) (fs : List D) (o : List D) | no
abbrev CF := Nat → Option (List D) → List D → CR
def outC (r : CR) (_ : Env) (k : List D → Env) : R D := match r with
  | .ok d o => .ok d (k o)
  | .ex c fs o => .ex c fs (k o)
  | .no => .no
def enumD : Nat → List D → List D
  | _, [] => []
  | n, x :: xs => .tup [.int n, x] :: enumD (n + 1) xs
def zipD : List D → List D → List D
  | x :: xs, y :: ys => .tup [x, y] :: zipD xs ys
  | _, _ => []
def zip3D : List D → List D → List D → List D
  | x :: xs, y :: ys, z :: zs => .tup [x, y, z] :: zip3D xs ys zs
  | _, _, _ => []
def rangeD (lo : Int) : Nat → List D
  | 0 => []
  | n + 1 => .int lo :: rangeD (lo + 1) n
def in62 (i : Int) : Bool := decide (-4611686018427387904 ≤ i ∧ i < 4611686018427387904)
def optI (r : R D) : R (Option Int) := match r with
  | .ok (.int i) e => .ok (some i) e
  | .ok _ _ => .no
  | .ex c fs e => .ex c fs e
  | .no => .no
/-- positional values and keywords' values in the parameters' order: pl tells for each parameter which one it gets -/
def perm (xs : List D) (pl : List Nat) : Option (List D) := pl.mapM fun i => xs[i]?
def lstS : Sl → Option (List D)
  | .ow (.l xs) => some xs
  | .va (.lst xs) => some xs
  | _ => none
def owS : Sl → Option (List D)
  | .ow (.l xs) => some xs
  | _ => none
def isOw (s : Sl) : Bool := (owS s).isSome
def isOwn (s : Sl) : Bool := match s with
  | .ow _ => true
  | _ => false
def isL (s : Sl) : Bool := (lstS s).isSome
def dicS : Sl → Option (List (List Int) × List D)
  | .ow (.d ks xs) => some (ks, xs)
  | .va (.dic ks xs) => some (ks, xs)
  | _ => none
def isDc (s : Sl) : Bool := (dicS s).isSome
def odS : Sl → Option (List (List Int) × List D)
  | .ow (.d ks xs) => some (ks, xs)
  | _ => none
def isOd (s : Sl) : Bool := (odS s).isSome
def isNil : E → Bool
  | .nil => true
  | _ => false
def isAbs : E → Bool
  | .absent => true
  | _ => false
mutual
def ev (cf : CF) : E → Env → R D
  | .ci i, e => .ok (.int i) e
  | .cs x, e => .ok (.str x) e
  | .cb b, e => .ok (.bl b) e
  | .cn, e => .ok .non e
  | .neg a, e => (ev cf a e).bind fun x e => match x with | .int i => .ok (.int (-i)) e | _ => .no
  | .v i, e => match getS e i with
    | .va d => .ok d e
    | .ow w => .ok w.toD (e.set i (.va w.toD))
    | .em => .no
  | .bin op a b, e => (ev cf a e).bind fun x e => (ev cf b e).bind fun y e => lift (binop op x y) e
  | .cmp op a b, e => (ev cf a e).bind fun x e => (ev cf b e).bind fun y e => (lift (cmpop op x y) e).bind fun k e => .ok (.bl k) e
  | .cmp2 op op' a b c, e => (ev cf a e).bind fun x e => (ev cf b e).bind fun y e => (lift (cmpop op x y) e).bind fun k e =>
      if k = true then (ev cf c e).bind fun z e => (lift (cmpop op' y z) e).bind fun k e => .ok (.bl k) e else .ok (.bl false) e
  | .cmp3 o1 o2 o3 a b c d, e => ((ev cf a e).bind fun x e => (ev cf b e).bind fun y e => (lift (cmpop o1 x y) e).bind fun k e => if k = true then (ev cf c e).bind fun z e => (lift (cmpop o2 y z) e).bind fun k e =>
      if k = true then (ev cf d e).bind fun w e => lift (cmpop o3 z w) e else .ok false e else .ok false e).bind fun k e => .ok (.bl k) e
  | .band es, e => evB cf true es e
  | .bor es, e => evB cf false es e
  | .not a, e => (ev cf a e).bind fun x e => (lift (truthy x) e).bind fun k e => .ok (.bl (!k)) e
  | .orf a b, e => (ev cf a e).bind fun x e => (lift (truthy x) e).bind fun k e => if k = true then .ok x e else ev cf b e
  | .ite c a b, e => (ev cf c e).bind fun x e => (lift (truthy x) e).bind fun k e => if k = true then ev cf a e else ev cf b e
  | .call f as, e => (evs cf as e).bind fun ds e => outC (cf f none ds) e fun _ => e
  | .callo f i as, e => if isOw (getS e i) = true then (evs cf as e).bind fun ds e => (lift (owS (getS e i)) e).bind fun xs e => outC (cf f (some xs) ds) e fun o => e.set i (.ow o) else .no
  | .callb f i j, e => match getS e i, getS e j with
    | .ow (.l xs), .ow (.l ys) => match cf f (some xs) [.lst ys] with
      | .ok d o => if (noL d && noLs o) = true then .ok d (e.set i (.ow (.l o))) else .no
      | _ => .no
    | _, _ => .no
  | .callf f a as, e => (ev cf a e).bind fun x e => (evs cf as e).bind fun ds e => match x with
    | .lst xs => outC (cf f (some xs) ds) e fun _ => e
    | _ => .no
  | .callk f as kws pl, e => (evs cf as e).bind fun xs e => (evs cf kws e).bind fun ys e => (lift (perm (xs ++ ys) pl) e).bind fun ds e => outC (cf f none ds) e fun _ => e
  | .bi b a, e => (ev cf a e).bind fun x e => lift (builtin b x) e
  | .leno i, e => (lift (lstS (getS e i)) e).bind fun xs e => .ok (.int xs.length) e
  | .isi a t, e => (ev cf a e).bind fun x e => if noScr x = true then .ok (.bl (isTy t x)) e else .no
  | .isis a ts, e => (ev cf a e).bind fun x e => if noScr x = true then .ok (.bl (ts.any fun t => isTy t x)) e else .no
  | .ix a k, e => (ev cf a e).bind fun x e => (ev cf k e).bind fun y e => lift (item x y) e
  | .ixo i k, e => if isL (getS e i) = true then (ev cf k e).bind fun y e => (lift (lstS (getS e i)) e).bind fun xs e => match y with
    | .int j => lift (atI xs j) e
    | _ => .no else if isDc (getS e i) = true then (ev cf k e).bind fun y e => (lift (dicS (getS e i)) e).bind fun q e => match y with
    | .tup ys => lift ((ints? ys).bind fun k => dget q.1 q.2 k) e
    | _ => .no else .no
  | .sl a lo hi, e => (ev cf a e).bind fun x e => (if isAbs lo = true then R.ok none e else optI (ev cf lo e)).bind fun l e => (if isAbs hi = true then R.ok none e else optI (ev cf hi e)).bind fun h e => lift (slice x l h) e
  | .fld a nm, e => (ev cf a e).bind fun x e => match x with
    | .err _ ns fs => lift ((ns.zip fs).lookup nm) e
    | _ => .no
  | .isx a yes, e => (ev cf a e).bind fun x e => match x with
    | .err c _ _ => .ok (.bl (yes.contains c)) e
    | _ => .no
  | .rev a, e => (ev cf a e).bind fun x e => match x with
    | .lst xs => .ok (.lst xs.reverse) e
    | .tup xs => .ok (.tup xs.reverse) e
    | _ => .no
  | .lst as, e => (evs cf as e).bind fun xs e => if xs.length ≤ sizeLine then .ok (.lst xs) e else .no
  | .tup as, e => (evs cf as e).bind fun xs e => if xs.length ≤ sizeLine then .ok (.tup xs) e else .no
  | .lc elt t it c own, e => (evI cf it e).bind fun ds e => if (own.all fun j => !isOwn (getS e j)) = true then (loopC own (fun e => (if isAbs c = true then R.ok true e else (ev cf c e).bind fun x e => lift (truthy x) e).bind fun k e => if k = true then (ev cf elt e).bind fun y e => .ok (some y) e else .ok none e) t ds [] (wipeE e own)).bind fun ys e' =>
      .ok (.lst ys) (restE e' e own) else .no
  | .lc2 elt t it t1 it1 c own own1, e => (evI cf it e).bind fun ds e => if (own.all fun j => !isOwn (getS e j)) = true then (loopC2 own own1 (fun e => evI cf it1 e) (fun e => (if isAbs c = true then R.ok true e else (ev cf c e).bind fun x e => lift (truthy x) e).bind fun k e => if k = true then (ev cf elt e).bind fun y e => .ok (some y) e else .ok none e) t t1 ds [] (wipeE e own)).bind fun ys e' =>
      .ok (.lst ys) (restE e' e own) else .no
  | .inr1 neg x hi, e => (ev cf x e).bind fun x e => (ev cf hi e).bind fun y e => match x, y with
    | .int i, .int h => .ok (.bl (if neg then !decide (0 ≤ i ∧ i < h) else decide (0 ≤ i ∧ i < h))) e
    | _, _ => .no
  | .inr2 neg x lo hi, e => (ev cf x e).bind fun x e => (ev cf lo e).bind fun z e => (ev cf hi e).bind fun y e => match x, z, y with
    | .int i, .int l, .int h => .ok (.bl (if neg then !decide (l ≤ i ∧ i < h) else decide (l ≤ i ∧ i < h))) e
    | _, _, _ => .no
  | .dct a, e => (ev cf a e).bind fun x e => match x with
    | .lst xs => (lift (pairs? xs) e).bind fun kvs => fun e => if xs.length ≤ 1000 then .ok (.dic ((mergeP kvs).map (·.1)) ((mergeP kvs).map (·.2))) e else .no
    | _ => .no
  | .ladd a b, e => (ev cf a e).bind fun x e => (ev cf b e).bind fun y e => match x, y with
    | .lst xs, .lst ys => if xs.length + ys.length ≤ sizeLine then .ok (.lst (xs ++ ys)) e else .no
    | _, _ => .no
  | .srt a, e => (ev cf a e).bind fun x e => lift (srtD x) e
  | .srto i, e => (lift (rdS (getS e i)) e).bind fun x e => lift (srtD x) e
  | .dget i k d, e => if isDc (getS e i) = true then (ev cf k e).bind fun y e => (ev cf d e).bind fun z e => (lift (dicS (getS e i)) e).bind fun q e => match y with
    | .tup ys => lift ((ints? ys).map fun k => (dget q.1 q.2 k).getD z) e
    | _ => .no else .no
  | .dino neg k i, e => (ev cf k e).bind fun y e => (lift (dicS (getS e i)) e).bind fun q e => match y with
    | .tup ys => lift ((ints? ys).map fun k => .bl (if neg = true then !(dget q.1 q.2 k).isSome else (dget q.1 q.2 k).isSome)) e
    | _ => .no
  | .demp, e => .ok (.dic [] []) e
  | .lz3 as, e => (evs cf as e).bind fun ds e => match ds with
    | [x, y, z] => (lift (items? x) e).bind fun xs e => (lift (items? y) e).bind fun ys e => (lift (items? z) e).bind fun zs e => if xs.length = ys.length ∧ xs.length = zs.length then .ok (.lst (zip3D xs ys zs)) e else .no
    | _ => .no
  | .cat a b, e => (ev cf a e).bind fun x e => (lift (items? x) e).bind fun xs e => (ev cf b e).bind fun y e => (lift (items? y) e).bind fun ys e => if xs.length + ys.length ≤ sizeLine then .ok (.lst (xs ++ ys)) e else .no
  | .lcnt a b, e => (ev cf a e).bind fun x e => match x with
    | .lst xs => (ev cf b e).bind fun y e => match y with
      | .int k => lift ((ints? xs).map fun ns => .int (ns.count k)) e
      | _ => .no
    | _ => .no
  | .mm mx a b, e => (ev cf a e).bind fun x e => (ev cf b e).bind fun y e => match x, y with
    | .int i, .int j => .ok (.int (if mx then (if j > i then j else i) else if j < i then j else i)) e
    | _, _ => .no
  | _, _ => .no
termination_by structural x => x
/-- and (k = true), or: by truth -/
def evB (cf : CF) (k : Bool) : E → Env → R D
  | .cons a as, e => (ev cf a e).bind fun x e => if isNil as = true then .ok x e else (lift (truthy x) e).bind fun b e => if b = k then evB cf k as e else .ok x e
  | _, _ => .no
termination_by structural x => x
def evs (cf : CF) : E → Env → R (List D)
  | .nil, e => .ok [] e
  | .cons a as, e => (ev cf a e).bind fun x e => (evs cf as e).bind fun xs e => .ok (x :: xs) e
  | _, _ => .no
termination_by structural x => x
/-- what is walked: its items -/
def evI (cf : CF) : E → Env → R (List D)
  | .range1 a, e => (ev cf a e).bind fun x e => match x with | .int j => if in62 j = true then .ok (rangeD 0 j.toNat) e else .no | _ => .no
  | .range2 a b, e => (ev cf a e).bind fun x e => (ev cf b e).bind fun y e => match x, y with
    | .int i, .int j => if in62 i = true ∧ in62 j = true then .ok (rangeD i (j - i).toNat) e else .no
    | _, _ => .no
  | .enum a, e => (ev cf a e).bind fun x e => match x with | .lst xs => .ok (enumD 0 xs) e | .tup xs => .ok (enumD 0 xs) e | _ => .no
  | .zip a b, e => (ev cf a e).bind fun x e => (ev cf b e).bind fun y e => match x, y with
    | .lst xs, .lst ys => .ok (zipD xs ys) e
    | .tup xs, .tup ys => .ok (zipD xs ys) e
    | _, _ => .no
  | .seq a, e => (ev cf a e).bind fun x e => lift (items? x) e
  | _, _ => .no
termination_by structural x => x
end
/-- an expression whose value is a new list that nobody else holds -/
def isF (fr : Nat → Bool) : E → Bool
  | .lst _ => true
  | .lc _ _ _ _ _ => true
  | .lc2 _ _ _ _ _ _ _ _ => true
  | .bi .list _ => true
  | .call f _ => fr f
  | .callo f _ _ => fr f
  | .callf f _ _ => fr f
  | .callk f _ _ _ => fr f
  | .orf _ _ => true
  | .dct _ => true
  | .ladd _ _ => true
  | .srt _ => true
  | .srto _ => true
  | .demp => true
  | .lz3 _ => true
  | .cat _ _ => true
  | _ => false
inductive S where
  | asg (t : Tg) (x : E) | asgo (i : Nat) (x : E)
  | par (i j : Nat) (oi oj : Bool) (a b : E) | par3 (i j l : Nat) (oi oj ol : Bool) (a b c : E)
  | seti (i : Nat) (k x : E) | app (i : Nat) (x : E) | exp (x : E)
  | ite (c : E) (a b : S) | for_ (t : Tg) (it : E) (b : S)
  | rais (c g : Nat) (as : E) | try_ (b : S) (c : Nat) (ns : List Str) (i : Nat) (h : S) | tryn (b hs : S) | hnd (c : Nat) (ns : List Str) (i : Nat) (h r : S)
  | ret (x : E) | reto (i : Nat) | retn | brk | cnt | pass | doc
  | nil | cons (s ss : S)
inductive RS where
  | nx (e : Env) | rt (d : D) (e : Env) | bk (e : Env) | ct (e : Env) | exn (c : Nat) (fs : List D) (e : Env) | no
def R.thn {α : Type} (r : R α) (k : α → Env → RS) : RS := match r with
  | .ok a e => k a e
  | .ex c fs e => .exn c fs e
  | .no => .no
def slot (o : Bool) (d : D) : Option Sl := if o = true then (match d with | .lst xs => some (.ow (.l xs)) | .dic ks xs => some (.ow (.d ks xs)) | _ => none) else some (.va d)
def loopS (f : Env → RS) (t : Tg) : List D → Env → RS
  | [], e => .nx e
  | x :: xs, e => match tset t x e with
    | none => .no
    | some e' => match f e' with
      | .nx e2 => loopS f t xs e2
      | .ct e2 => loopS f t xs e2
      | .bk e2 => .nx e2
      | .rt d e2 => .rt d e2
      | .exn c fs e2 => .exn c fs e2
      | .no => .no
/-- behind an except suite: its name is gone -/
def unS (i : Nat) : RS → RS
  | .nx e => .nx (e.set i .em)
  | .rt d e => .rt d (e.set i .em)
  | _ => .no
mutual
def ex (cf : CF) : S → Env → RS
  | .asg t x, e => (ev cf x e).thn fun d e => match tset t d e with | some e' => .nx e' | none => .no
  | .asgo i x, e => (ev cf x e).thn fun d e => match d with | .lst xs => .nx (e.set i (.ow (.l xs))) | .dic ks xs => .nx (e.set i (.ow (.d ks xs))) | _ => .no
  | .par i j oi oj a b, e => (ev cf a e).thn fun x e => (ev cf b e).thn fun y e => match slot oi x, slot oj y with
    | some s, some s' => .nx ((e.set i s).set j s')
    | _, _ => .no
  | .par3 i j l oi oj ol a b c, e => (ev cf a e).thn fun x e => (ev cf b e).thn fun y e => (ev cf c e).thn fun z e => match slot oi x, slot oj y, slot ol z with
    | some s, some s', some s2 => .nx (((e.set i s).set j s').set l s2)
    | _, _, _ => .no
  | .seti i k x, e => (ev cf x e).thn fun d e => if isOd (getS e i) = true then (ev cf k e).thn fun y e => (lift (odS (getS e i)) e).thn fun q e => match y with
    | .tup ys => (lift (ints? ys) e).thn fun k e => if q.1.length < sizeLine then .nx (e.set i (.ow (dput q.1 q.2 k d))) else .no
    | _ => .no else if isOw (getS e i) = true then (ev cf k e).thn fun y e => (lift (owS (getS e i)) e).thn fun xs e => match y with
    | .int n => (lift (ixN xs.length n) e).thn fun j e => .nx (e.set i (.ow (xs.set j d)))
    | _ => .no else .no
  | .app i x, e => if isOw (getS e i) = true then (ev cf x e).thn fun d e => (lift (owS (getS e i)) e).thn fun xs e => if xs.length < sizeLine then .nx (e.set i (.ow (xs ++ [d]))) else .no else .no
  | .exp x, e => (ev cf x e).thn fun _ e => .nx e
  | .ite c a b, e => (ev cf c e).thn fun x e => (lift (truthy x) e).thn fun k e => if k = true then ex cf a e else ex cf b e
  | .for_ t it b, e => (evI cf it e).thn fun ds e => loopS (fun e => ex cf b e) t ds e
  | .rais c g as, e => (evs cf as e).thn fun ds e => match cf g none ds with
    | .ok (.tup fs) _ => .exn c fs e
    | _ => .no
  | .try_ b c ns i h, e => match ex cf b e with
    | .exn k fs e' => if k = c then unS i (ex cf h (e'.set i (.va (.err c ns fs)))) else .exn k fs e'
    | r => r
  | .tryn b hs, e => match ex cf b e with
    | .exn k fs e' => exH cf hs k fs e'
    | r => r
  | .ret x, e => (ev cf x e).thn fun d e => .rt d e
  | .reto i, e => match getS e i with | .ow w => .rt w.toD (e.set i .em) | _ => .no
  | .retn, e => .rt .non e
  | .brk, e => .bk e
  | .cnt, e => .ct e
  | .pass, e => .nx e
  | .doc, e => .nx e
  | .nil, e => .nx e
  | .cons s ss, e => match ex cf s e with
    | .nx e' => ex cf ss e'
    | r => r
  | .hnd _ _ _ _ _, _ => .no
termination_by structural x => x
/-- the except clauses, one by one -/
def exH (cf : CF) : S → Nat → List D → Env → RS
  | .hnd c ns i h r, k, fs, e' => if k = c then unS i (ex cf h (e'.set i (.va (.err c ns fs)))) else exH cf r k fs e'
  | .nil, k, fs, e' => .exn k fs e'
  | _, _, _, _ => .no
termination_by structural x => x
end
/-- md: 0 a def, 1 the __init__ of an error's class (its fields as a tuple), 2 the making of one (by the def np) -/
structure Def where
  np : Nat
  ns : Nat
  io : Bool
  fr : Bool
  body : S
  md : Nat := 0
def asl (o : Option (List D)) (ds : List D) : Env := match o with
  | none => ds.map .va
  | some xs => .ow xs :: ds.map .va
def outO (io : Bool) (e : Env) : Option (List D) := if io = true then (match e with | .ow (.l xs) :: _ => some xs | _ => none) else some []
def fin (io fr : Bool) : RS → CR
  | .nx e => if fr = true then .no else match outO io e with | some o => .ok .non o | none => .no
  | .rt d e => match outO io e with | some o => .ok d o | none => .no
  | .exn c fs e => match outO io e with | some o => .ex c fs o | none => .no
  | _ => .no
def callF (defs : List Def) : Nat → CF
  | 0 => fun _ _ _ => .no
  | n + 1 => fun f o ds => match defs[f]? with
    | none => .no
    | some d => if d.md = 2 then callF defs n d.np none ds else if d.md = 1 then (if ds.length + 1 = d.np then (match o, ex (callF defs n) d.body (.em :: ds.map .va) with
      | none, .rt (.tup fs) _ => .ok (.tup fs) []
      | _, _ => .no) else .no) else if (asl o ds).length = d.np ∧ o.isSome = d.io ∧ d.np ≤ d.ns then fin d.io d.fr (ex (callF defs n) d.body (asl o ds ++ List.replicate (d.ns - d.np) .em)) else .no
end Ev
end
section
namespace Ev
open PySem PySem.Spec L2
open PyProof.Rows hiding St
/-- what an exception carries -/
structure XT where
  cls : Nat → Value
  flds : Nat → List Str
/-- the written part that the script may be of; the classes of the errors -/
class KF where
  K : PySem.W.Frag
  T : XT
  /-- how many classes of errors -/
  nc : Nat
variable [KF]
/-- at a: an error of the class cls, with its own dict at d -/
def exv (a : Addr) (cls : Value) (d : Option Addr) : HO := .ext fun h => ∃ (o : Obj) (us : Array Value), h.get? a = some o ∧ Zc cls d o ∧ o.data = .fields us
/-! ### what a value stands for -/
/-- the error's own dict -/
def XdAt (G : Hp) (ns : List Str) (d : Option Addr) (vs : List V) : Prop := (vs = [] ∧ d = none) ∨ ∃ dd fl, d = some dd ∧ G dd = some (.xd fl) ∧ ∀ f, fl.lookup f = (ns.zip vs).lookup f
theorem XdAt.mono {G G' : Hp} (s : Same G G') {ns : List Str} {d : Option Addr} {vs : List V} (h : XdAt G ns d vs) : XdAt G' ns d vs := h.imp id fun ⟨dd, fl, e, q, z⟩ => ⟨dd, fl, e, s _ _ q, z⟩
mutual
inductive Rep (G : Hp) : V → D → Prop where
  | non : Rep G .non .non
  | bl (b : Bool) : Rep G (.bl b) (.bl b)
  | int (i : Int) : Rep G (.int i) (.int i)
  | str (x : Str) : Rep G (.str x) (.str x)
  | lst {a : Addr} {vs : List V} {ds : List D} : G a = some (.lst vs) → RepA G vs ds → Rep G (.ref a) (.lst ds)
  | scr {a : Addr} {vs : List V} {ds : List D} : SqL KF.K G a vs → RepA G vs ds → Rep G (.ref a) (.scr ds)
  | tup {a : Addr} {vs : List V} {ds : List D} : G a = some (.tup vs) → RepA G vs ds → Rep G (.ref a) (.tup ds)
  | err {a : Addr} {c : Nat} {d : Option Addr} {vs : List V} {fs : List D} : G a = some (exv a (KF.T.cls c) d) → c < KF.nc → (KF.T.flds c).length = fs.length → XdAt G (KF.T.flds c) d vs → RepA G vs fs → Rep G (.ref a) (.err c (KF.T.flds c) fs)
  | dic {a : Addr} {ks : List (List Int)} {vs : List V} {ds : List D} : G a = some (.dT ((ks.map fun k => k.map Sum.inl).zip vs)) → ks.length = vs.length → RepA G vs ds → Rep G (.ref a) (.dic ks ds)
inductive RepA (G : Hp) : List V → List D → Prop where
  | nil : RepA G [] []
  | cons {v : V} {vs : List V} {d : D} {ds : List D} : Rep G v d → RepA G vs ds → RepA G (v :: vs) (d :: ds)
end
theorem same_rd {G G' : Hp} {a : Addr} {u : HO} (s : Same G G') (r : Rd G a u) : Rd G' a u := by
  rcases r with r | ⟨o, r⟩
  · exact .inl (s _ _ r)
  · exact .inr ⟨o, s _ _ r⟩
mutual
theorem Rep.mono {G G' : Hp} (s : Same G G') : ∀ {v : V} {d : D}, Rep G v d → Rep G' v d
  | _, _, .non => .non
  | _, _, .bl b => .bl b
  | _, _, .int i => .int i
  | _, _, .str x => .str x
  | _, _, .lst r a => .lst (s _ _ r) (RepA.mono s a)
  | _, _, .scr r a => .scr (Same.seq s r) (RepA.mono s a)
  | _, _, .tup r a => .tup (s _ _ r) (RepA.mono s a)
  | _, _, .err r k l z a => .err (s _ _ r) k l (z.mono s) (RepA.mono s a)
  | _, _, .dic r l a => .dic (s _ _ r) l (RepA.mono s a)
theorem RepA.mono {G G' : Hp} (s : Same G G') : ∀ {vs : List V} {ds : List D}, RepA G vs ds → RepA G' vs ds
  | _, _, .nil => .nil
  | _, _, .cons r a => .cons (Rep.mono s r) (RepA.mono s a)
end
section
variable {G : Hp}
theorem RepA.length : ∀ {vs : List V} {ds : List D}, RepA G vs ds → vs.length = ds.length
  | _, _, .nil => rfl
  | _, _, .cons _ a => by rw [List.length_cons, List.length_cons, RepA.length a]
theorem RepA.get : ∀ {vs : List V} {ds : List D} {i : Nat} {d : D}, RepA G vs ds → ds[i]? = some d → ∃ v, vs[i]? = some v ∧ Rep G v d
  | _, _, i, _, .nil, e => by simp at e
  | _, _, 0, _, .cons r _, e => by simp at e; subst e; exact ⟨_, rfl, r⟩
  | _, _, i + 1, _, .cons _ a, e => by
    obtain ⟨v, h1, h2⟩ := RepA.get (i := i) a (by simpa using e)
    exact ⟨v, by simpa using h1, h2⟩
theorem RepA.getV : ∀ {vs : List V} {ds : List D} {i : Nat} {v : V}, RepA G vs ds → vs[i]? = some v → ∃ d, ds[i]? = some d ∧ Rep G v d
  | _, _, i, _, .nil, e => by simp at e
  | _, _, 0, _, .cons r _, e => by simp at e; subst e; exact ⟨_, rfl, r⟩
  | _, _, i + 1, _, .cons _ a, e => by
    obtain ⟨v, h1, h2⟩ := RepA.getV (i := i) a (by simpa using e)
    exact ⟨v, by simpa using h1, h2⟩
theorem RepA.append : ∀ {vs us : List V} {ds es : List D}, RepA G vs ds → RepA G us es → RepA G (vs ++ us) (ds ++ es)
  | _, _, _, _, .nil, b => b
  | _, _, _, _, .cons r a, b => .cons r (RepA.append a b)
theorem RepA.set {v : V} {d : D} (r : Rep G v d) : ∀ {vs : List V} {ds : List D} (i : Nat), RepA G vs ds → RepA G (vs.set i v) (ds.set i d)
  | _, _, _, .nil => .nil
  | _, _, 0, .cons _ a => .cons r a
  | _, _, i + 1, .cons q a => .cons q (RepA.set r i a)
theorem RepA.take : ∀ {vs : List V} {ds : List D} (n : Nat), RepA G vs ds → RepA G (vs.take n) (ds.take n)
  | _, _, 0, _ => .nil
  | _, _, _ + 1, .nil => .nil
  | _, _, n + 1, .cons r a => .cons r (RepA.take n a)
theorem RepA.drop : ∀ {vs : List V} {ds : List D} (n : Nat), RepA G vs ds → RepA G (vs.drop n) (ds.drop n)
  | _, _, 0, a => a
  | _, _, _ + 1, .nil => .nil
  | _, _, n + 1, .cons _ a => RepA.drop n a
theorem RepA.reverse : ∀ {vs : List V} {ds : List D}, RepA G vs ds → RepA G vs.reverse ds.reverse
  | _, _, .nil => .nil
  | _, _, .cons r a => by
    rw [List.reverse_cons, List.reverse_cons]
    exact (RepA.reverse a).append (.cons r .nil)
theorem RepA.rep {vs : List V} {ds : List D} (a : RepA G vs ds) : ∀ n : Nat, RepA G (List.replicate n vs).flatten (List.replicate n ds).flatten
  | 0 => .nil
  | n + 1 => by
    rw [List.replicate_succ, List.replicate_succ, List.flatten_cons, List.flatten_cons]
    exact a.append (RepA.rep a n)
theorem RepA.cut {vs : List V} {ds : List D} (a : RepA G vs ds) (lo hi : Option Int) : RepA G (cutV vs lo hi) (cutD ds lo hi) := by
  unfold cutV cutD
  rw [a.length]
  exact (a.drop _).take _
theorem RepA.ints : ∀ {vs : List V} {ds : List D} {ns : List Int}, RepA G vs ds → ints? ds = some ns → vs = ns.map V.int
  | _, _, ns, .nil, e => by cases e; rfl
  | _, _, ns, .cons r a, e => by
    cases r <;> (try (simp [ints?] at e; done))
    simp only [ints?, Option.map_eq_some_iff] at e
    obtain ⟨q, h1, rfl⟩ := e
    rw [RepA.ints a h1]
    rfl
theorem RepA.bools : ∀ {vs : List V} {ds : List D} {ns : List Bool}, RepA G vs ds → bools? ds = some ns → vs = ns.map V.bl
  | _, _, ns, .nil, e => by cases e; rfl
  | _, _, ns, .cons r a, e => by
    cases r <;> (try (simp [bools?] at e; done))
    simp only [bools?, Option.map_eq_some_iff] at e
    obtain ⟨q, h1, rfl⟩ := e
    rw [RepA.bools a h1]
    rfl
end
/-! ### the state -/
/-- the object, what it stands for -/
def Ow.ho : Ow → List V → HO
  | .l _, vs => .lst vs
  | .d ks _, vs => .dT ((ks.map fun k => k.map Sum.inl).zip vs)
def RepO (G : Hp) (vs : List V) : Ow → Prop
  | .l xs => RepA G vs xs
  | .d ks xs => ks.length = vs.length ∧ RepA G vs xs
theorem RepO.mono {G G' : Hp} {vs : List V} (s : Same G G') : ∀ {w : Ow}, RepO G vs w → RepO G' vs w
  | .l _, h => RepA.mono s h
  | .d _ _, h => ⟨h.1, RepA.mono s h.2⟩
theorem rep_ow {G : Hp} {a : Addr} {vs : List V} : ∀ {w : Ow}, G a = some (w.ho vs) → RepO G vs w → Rep G (.ref a) w.toD
  | .l _, h, r => .lst h r
  | .d _ _, h, r => .dic h r.1 r.2
def OA (σ : St) (e : Env) (a : Addr) : Prop := ∃ (i : Nat) (xs : Ow), e[i]? = some (.ow xs) ∧ σ[i]? = some (some (.ref a))
structure Rel (H G : Hp) (σ : St) (e : Env) : Prop where
  sub : Same G H
  len : σ.length = e.length
  va : ∀ (i : Nat) (d : D), e[i]? = some (.va d) → ∃ v, σ[i]? = some (some v) ∧ Rep G v d
  ow : ∀ (i : Nat) (ds : Ow), e[i]? = some (.ow ds) → ∃ a vs, σ[i]? = some (some (.ref a)) ∧ H a = some (ds.ho vs) ∧ G a = none ∧ RepO G vs ds
  dis : ∀ (i j : Nat) (xs ys : Ow), e[i]? = some (.ow xs) → e[j]? = some (.ow ys) → σ[i]? = σ[j]? → i = j
/-- a tuple that was known below already -/
def Kt (H : Hp) (b : Addr) (o : HO) : Prop := ∃ us, o = .tup us ∧ H b = some o
theorem Kt.ne {H : Hp} {b : Addr} {o : HO} {w : Ow} {vs : List V} (h : Kt H b o) (q : H b = some (w.ho vs)) : False := by
  obtain ⟨us, rfl, z⟩ := h
  rw [q] at z
  cases w <;> cases z
theorem Kt.neL {H : Hp} {b : Addr} {o : HO} {vs : List V} (h : Kt H b o) (q : H b = some (.lst vs)) : False := by
  obtain ⟨us, rfl, z⟩ := h
  rw [q] at z
  cases z
structure Stp (σ : St) (e : Env) (G H : Hp) (e' : Env) (G' H' : Hp) : Prop where
  gs : Same G G'
  fr : ∀ b o, H b = some o → ¬ OA σ e b → H' b = some o
  nw : ∀ b o, G' b = some o → G b = some o ∨ H b = none ∨ OA σ e b ∨ Kt H b o
  al : ∀ b, H' b = none → H b = none
  oa : ∀ a, OA σ e' a → OA σ e a
theorem Stp.refl {σ : St} {e : Env} {G H : Hp} : Stp σ e G H e G H := ⟨Same.refl _, fun _ _ h _ => h, fun _ _ h => .inl h, fun _ h => h, fun _ h => h⟩
theorem Stp.trans {σ : St} {e e1 e2 : Env} {G G1 G2 H H1 H2 : Hp} (a : Stp σ e G H e1 G1 H1) (b : Stp σ e1 G1 H1 e2 G2 H2) : Stp σ e G H e2 G2 H2 where
  gs := a.gs.trans b.gs
  fr := fun c o h n => b.fr c o (a.fr c o h n) fun q => n (a.oa c q)
  nw := fun c o h => by
    rcases b.nw c o h with q | q | q | q
    · exact a.nw c o q
    · exact .inr (.inl (a.al c q))
    · exact .inr (.inr (.inl (a.oa c q)))
    · obtain ⟨us, rfl, q⟩ := q
      cases hc : H c with
      | none => exact .inr (.inl rfl)
      | some o' =>
        by_cases ho : OA σ e c
        · exact .inr (.inr (.inl ho))
        · have := a.fr c o' hc ho
          rw [q] at this
          cases this
          exact .inr (.inr (.inr ⟨us, rfl, hc⟩))
  al := fun c h => a.al c (b.al c h)
  oa := fun c h => a.oa c (b.oa c h)
/-- a new list, nobody's yet -/
def Fresh (σ : St) (e e' : Env) (G' H H' : Hp) (v : V) (d : D) : Prop :=
  ∃ p vs ds, v = .ref p ∧ d = Ow.toD ds ∧ H p = none ∧ H' p = some (ds.ho vs) ∧ G' p = none ∧ RepO G' vs ds ∧ ¬ OA σ e' p
def Res (fr : Bool) (σ : St) (e e' : Env) (G' H H' : Hp) (v : V) (d : D) : Prop := if fr = true then Fresh σ e e' G' H H' v d else Rep G' v d
def ExAt (T : XT) (c : Nat) (fs : List D) (d : Option Addr) (G' _H' : Hp) : Prop :=
  c < KF.nc ∧ (T.flds c).length = fs.length ∧ ∃ vs, RepA G' vs fs ∧ XdAt G' (T.flds c) d vs
/-- the wish of a result -/
def Rn (T : XT) (W : St → XK) (σ : St) (e : Env) (G H : Hp) (r : R D) (fr : Bool) (Q : VK) : Prop := match r with
  | .ok d e' => ∀ v H' G', Rel H' G' σ e' → Stp σ e G H e' G' H' → Res fr σ e e' G' H H' v d → Q v H'
  | .ex c fs e' => ∀ d H' G', Rel H' G' σ e' → Stp σ e G H e' G' H' → ExAt T c fs d G' H' → W σ (T.cls c) d H'
  | .no => False
def RnA (T : XT) (W : St → XK) (σ : St) (e : Env) (G H : Hp) (r : R (List D)) (Q : List V → Hp → Prop) : Prop := match r with
  | .ok ds e' => ∀ vs H' G', Rel H' G' σ e' → Stp σ e G H e' G' H' → RepA G' vs ds → Q vs H'
  | .ex c fs e' => ∀ d H' G', Rel H' G' σ e' → Stp σ e G H e' G' H' → ExAt T c fs d G' H' → W σ (T.cls c) d H'
  | .no => False
section
variable {T : XT} {W : St → XK} {σ : St} {e : Env} {G H : Hp} {fr : Bool} {Q : VK}
/-- a new list is put among the things that stay -/
theorem freeze {e' : Env} {G' H' : Hp} {v : V} {d : D} (r : Rel H' G' σ e') (s : Stp σ e G H e' G' H') (f : Fresh σ e e' G' H H' v d) :
    ∃ G2, Rel H' G2 σ e' ∧ Stp σ e G H e' G2 H' ∧ Rep G2 v d := by
  obtain ⟨p, vs, ds, rfl, rfl, h0, h1, h2, h3, h4⟩ := f
  have sm : Same G' (upd G' p (ds.ho vs)) := fun b o h => by
    rw [upd_ne (ne_of_none h h2)]
    exact h
  refine ⟨upd G' p (ds.ho vs), ⟨fun b o h => ?_, r.len, fun i d q => ?_, fun i ds q => ?_, r.dis⟩, ⟨s.gs.trans sm, s.fr, fun b o h => ?_, s.al, s.oa⟩, rep_ow upd_same (h3.mono sm)⟩
  · by_cases hb : b = p
    · subst hb
      rw [upd_same] at h
      cases h
      exact h1
    · rw [upd_ne hb] at h
      exact r.sub b o h
  · obtain ⟨v, q1, q2⟩ := r.va i d q
    exact ⟨v, q1, q2.mono sm⟩
  · obtain ⟨a, us, q1, q2, q3, q4⟩ := r.ow i ds q
    refine ⟨a, us, q1, q2, ?_, q4.mono sm⟩
    have hn : a ≠ p := fun z => by
      subst z
      exact h4 ⟨i, _, q, q1⟩
    rw [upd_ne hn]
    exact q3
  · by_cases hb : b = p
    · subst hb
      exact .inr (.inl h0)
    · rw [upd_ne hb] at h
      exact s.nw b o h
theorem Rn.weak {r : R D} (h : Rn T W σ e G H r false Q) : Rn T W σ e G H r fr Q := by
  cases r with
  | no => exact h
  | ex c fs e' => exact h
  | ok d e' =>
    intro v H' G' r1 s1 q
    cases fr with
    | false => exact h v H' G' r1 s1 q
    | true =>
      obtain ⟨G2, r2, s2, q2⟩ := freeze r1 s1 q
      exact h v H' G2 r2 s2 q2
theorem Rn.bind {fr' : Bool} {r : R D} {k : D → Env → R D} {Q1 : VK} (h : Rn T W σ e G H (r.bind k) fr Q)
    (hk : ∀ x e1 v H1 G1, r = .ok x e1 → Rel H1 G1 σ e1 → Stp σ e G H e1 G1 H1 → Res fr' σ e e1 G1 H H1 v x → Rn T W σ e1 G1 H1 (k x e1) false Q → Q1 v H1)
    (hf : fr = false := by rfl) : Rn T W σ e G H r fr' Q1 := by
  subst hf
  cases r with
  | no => exact h
  | ex c fs e' => exact h
  | ok x e1 =>
    intro v H1 G1 r1 s1 q1
    refine hk x e1 v H1 G1 rfl r1 s1 q1 ?_
    have h : Rn T W σ e G H (k x e1) false Q := h
    cases hq : k x e1 with
    | no => rw [hq] at h; exact h
    | ex c fs e2 =>
      rw [hq] at h
      exact fun d H2 G2 r2 s2 q2 => h d H2 G2 r2 (s1.trans s2) q2
    | ok y e2 =>
      rw [hq] at h
      exact fun u H2 G2 r2 s2 q2 => h u H2 G2 r2 (s1.trans s2) q2
end
end Ev
end
section
namespace Ev
open PySem PySem.Spec L2
open PyProof.Rows hiding St
variable [KF]
def tEv (T : XT) (W : St → XK) (cf : CF) (fr : Bool) (x : E) : TE := fun σ H Q => ∃ G e, Rel H G σ e ∧ Rn T W σ e G H (ev cf x e) fr Q
def tEvA (T : XT) (W : St → XK) (cf : CF) (x : E) : TA := fun σ H Q => ∃ G e, Rel H G σ e ∧ RnA T W σ e G H (evs cf x e) Q
theorem wkE {X : Cx} {x : Expr} {t t' : TE} (h : PE X x t) (k : ∀ σ H Q, t' σ H Q → t σ H Q) : PE X x t' := ⟨fun pins s σ H Q I q => h.run pins s σ H Q I (k σ H Q q)⟩
theorem wkT {X : Cx} {x : Expr} {t t' : TT} (h : PT X x t) (k : ∀ σ H Q, t' σ H Q → t σ H Q) : PT X x t' := ⟨fun pins s σ H Q I q => h.run pins s σ H Q I (k σ H Q q)⟩
theorem wkA {X : Cx} {x : List Expr} {t t' : TA} (h : PA X x t) (k : ∀ σ H Q, t' σ H Q → t σ H Q) : PA X x t' := ⟨fun p pins s σ H Q I q => h.run p pins s σ H Q I (k σ H Q q)⟩
section
variable {X : Cx} {T : XT} {W : St → XK} {cf : CF} {σ : St} {e : Env} {G H : Hp} {Q : VK} {x y : Expr} {a b c : E} {pos : Pos}
theorem tEv_val (h : PE X x (tEv T W cf fr a)) : PE X x (tEv T W cf false a) := wkE h fun σ H Q ⟨G, e, r, q⟩ => ⟨G, e, r, q.weak⟩
theorem Rn.bindL {α : Type} {o : Option α} {k : α → Env → R D} (h : Rn T W σ e G H ((lift o e).bind k) false Q) : ∃ y, o = some y ∧ Rn T W σ e G H (k y e) false Q := by
  cases o with
  | none => exact h.elim
  | some y => exact ⟨y, rfl, h⟩
theorem Rn.liftV {o : Option D} (h : Rn T W σ e G H (lift o e) false Q) : ∃ y, o = some y ∧ Rn T W σ e G H (.ok y e) false Q := by
  cases o with
  | none => exact h.elim
  | some y => exact ⟨y, rfl, h⟩
/-- a value that is there without a step -/
theorem Rn.here {d : D} {v : V} (h : Rn T W σ e G H (.ok d e) false Q) (r : Rel H G σ e) (q : Rep G v d) : Q v H := h v H G r Stp.refl q
/-- a new object that no one holds, laid at p, is put among the things that stay -/
theorem Rel.lay {H G : Hp} {σ : St} {e : Env} {p : Addr} {o : HO} (r : Rel H G σ e) (hp : H p = none) : Rel (upd H p o) (upd G p o) σ e ∧ Stp σ e G H e (upd G p o) (upd H p o) := by
  have gp : G p = none := by
    cases q : G p with
    | none => rfl
    | some u => rw [r.sub p u q] at hp; cases hp
  have sm : Same G (upd G p o) := fun b u h => by
    rw [upd_ne (ne_of_none h gp)]
    exact h
  refine ⟨⟨fun b u h => ?_, r.len, fun i d q => ?_, fun i ds q => ?_, r.dis⟩, ⟨sm, fun b u h _ => ?_, fun b u h => ?_, fun b h => ?_, fun _ h => h⟩⟩
  · by_cases hb : b = p
    · subst hb
      rw [upd_same] at h ⊢
      exact h
    · rw [upd_ne hb] at h ⊢
      exact r.sub b u h
  · obtain ⟨v, q1, q2⟩ := r.va i d q
    exact ⟨v, q1, q2.mono sm⟩
  · obtain ⟨a, us, q1, q2, q3, q4⟩ := r.ow i ds q
    have hn : a ≠ p := ne_of_none q2 hp
    exact ⟨a, us, q1, by rw [upd_ne hn]; exact q2, by rw [upd_ne hn]; exact q3, q4.mono sm⟩
  · rw [upd_ne (ne_of_none h hp)]
    exact h
  · by_cases hb : b = p
    · subst hb
      exact .inr (.inl hp)
    · rw [upd_ne hb] at h
      exact .inl h
  · by_cases hb : b = p
    · subst hb
      rw [upd_same] at h
      cases h
    · rw [upd_ne hb] at h
      exact h
theorem Rel.free {H G : Hp} {σ : St} {e : Env} {p : Addr} (r : Rel H G σ e) (hp : H p = none) : G p = none := by
  cases q : G p with
  | none => rfl
  | some u => rw [r.sub p u q] at hp; cases hp
/-- the same, nobody's yet -/
theorem Rel.own {H G : Hp} {σ : St} {e : Env} {p : Addr} {o : HO} (r : Rel H G σ e) (hp : H p = none) : Rel (upd H p o) G σ e ∧ Stp σ e G H e G (upd H p o) ∧ ¬ OA σ e p := by
  refine ⟨⟨fun b u h => ?_, r.len, r.va, fun i ds q => ?_, r.dis⟩, ⟨Same.refl _, fun b u h _ => ?_, fun b u h => .inl h, fun b h => ?_, fun _ h => h⟩, fun ⟨i, xs, q1, q2⟩ => ?_⟩
  · rw [upd_ne (ne_of_none (r.sub b u h) hp)]
    exact r.sub b u h
  · obtain ⟨a, us, q1, q2, q3, q4⟩ := r.ow i ds q
    have hn : a ≠ p := ne_of_none q2 hp
    exact ⟨a, us, q1, by rw [upd_ne hn]; exact q2, q3, q4⟩
  · rw [upd_ne (ne_of_none h hp)]
    exact h
  · by_cases hb : b = p
    · subst hb
      rw [upd_same] at h
      cases h
    · rw [upd_ne hb] at h
      exact h
  · obtain ⟨a, us, z1, z2, _, _⟩ := r.ow i xs q1
    rw [q2] at z1
    cases z1
    rw [hp] at z2
    cases z2
theorem Rn.newT {ds : List D} {vs : List V} {p : Addr} (h : Rn T W σ e G H (.ok (.tup ds) e) false Q) (r : Rel H G σ e) (q : RepA G vs ds) (hp : H p = none) : Q (.ref p) (upd H p (.tup vs)) := by
  obtain ⟨r1, s1⟩ := r.lay (o := .tup vs) hp
  exact h _ _ _ r1 s1 (.tup upd_same (q.mono s1.gs))
theorem Rn.newL {ds : List D} {vs : List V} {p : Addr} (h : Rn T W σ e G H (.ok (.lst ds) e) false Q) (r : Rel H G σ e) (q : RepA G vs ds) (hp : H p = none) : Q (.ref p) (upd H p (.lst vs)) := by
  obtain ⟨r1, s1⟩ := r.lay (o := .lst vs) hp
  exact h _ _ _ r1 s1 (.lst upd_same (q.mono s1.gs))
theorem Rn.newF {ds : List D} {vs : List V} {p : Addr} (h : Rn T W σ e G H (.ok (.lst ds) e) true Q) (r : Rel H G σ e) (q : RepA G vs ds) (hp : H p = none) : Q (.ref p) (upd H p (.lst vs)) := by
  obtain ⟨r1, s1, n1⟩ := r.own (o := .lst vs) hp
  exact h _ _ _ r1 s1 ⟨p, vs, ds, rfl, rfl, hp, upd_same, r.free hp, q, n1⟩
/-! ### constants, names -/
theorem se_ci {i : Int} {j : Nat} : PE X (.Constant (.int i) j pos) (tEv T W cf false (.ci i)) := wkE (pe_int (X := X)) fun σ H Q ⟨G, e, r, q⟩ => q.here r (.int i)
theorem se_cs {z : Str} {j : Nat} : PE X (.Constant (.str z) j pos) (tEv T W cf false (.cs z)) := wkE (pe_str (X := X)) fun σ H Q ⟨G, e, r, q⟩ => q.here r (.str z)
theorem se_cb {k : Bool} {j : Nat} : PE X (.Constant (.bool k) j pos) (tEv T W cf false (.cb k)) := wkE (pe_bl (X := X)) fun σ H Q ⟨G, e, r, q⟩ => q.here r (.bl k)
theorem se_cn {j : Nat} : PE X (.Constant .none j pos) (tEv T W cf false .cn) := wkE (pe_non (X := X)) fun σ H Q ⟨G, e, r, q⟩ => q.here r .non
theorem getS_some {e : Env} {i : Nat} {s : Sl} (h : getS e i = s) (n : s ≠ .em) : e[i]? = some s := by
  unfold getS at h
  rw [List.getD_eq_getElem?_getD] at h
  cases q : e[i]? with
  | none => rw [q] at h; exact (n h.symm).elim
  | some u => rw [q] at h; rw [← h]; rfl
theorem se_v {i : Nat} {n : Str} (hN : X.N[i]? = some n) (hv : Vis X.env.scope n) (hd : (n == ("__debug__" : Str)) = false) (hcd : (n == ("__classdict__" : Str)) = false) : PE X (.Name n pos) (tEv T W cf false (.v i)) := by
  refine wkE (pe_var (X := X) hN hv hd hcd) fun σ H Q ⟨G, e, r, q⟩ => ?_
  have q : Rn T W σ e G H (match getS e i with | .va d => .ok d e | .ow xs => .ok xs.toD (e.set i (.va xs.toD)) | .em => .no) false Q := q
  cases hs : getS e i with
  | em => rw [hs] at q; exact q.elim
  | va d =>
    rw [hs] at q
    obtain ⟨v, h1, h2⟩ := r.va i d (getS_some hs (fun z => nomatch z))
    exact ⟨v, h1, q.here r h2⟩
  | ow xs =>
    rw [hs] at q
    have hi := getS_some hs (fun z => nomatch z)
    obtain ⟨a, vs, h1, h2, h3, h4⟩ := r.ow i xs hi
    have hil : i < e.length := by
      have := List.getElem?_eq_some_iff.mp hi
      exact this.1
    refine ⟨.ref a, h1, ?_⟩
    have sm : Same G (upd G a (xs.ho vs)) := fun b u h => by
      rw [upd_ne (ne_of_none h h3)]
      exact h
    have oth : ∀ (j : Nat) (s : Sl), (e.set i (.va xs.toD))[j]? = some s → (j = i ∧ s = .va xs.toD) ∨ (j ≠ i ∧ e[j]? = some s) := fun j s h => by
      by_cases hj : j = i
      · subst hj
        rw [List.getElem?_set_self hil] at h
        exact .inl ⟨rfl, (Option.some.inj h).symm⟩
      · rw [List.getElem?_set_ne (Ne.symm hj)] at h
        exact .inr ⟨hj, h⟩
    have ownK : ∀ (j : Nat) (ys : Ow), (e.set i (.va xs.toD))[j]? = some (.ow ys) → j ≠ i ∧ e[j]? = some (.ow ys) := fun j ys h => by
      rcases oth j _ h with ⟨_, z⟩ | z
      · cases z
      · exact z
    refine q (.ref a) H (upd G a (xs.ho vs)) ⟨fun b u h => ?_, by rw [List.length_set]; exact r.len, fun j d h => ?_, fun j ds h => ?_, fun j k ys zs hj hk hjk => ?_⟩ ⟨sm, fun b o h _ => h, fun b o h => ?_, fun b h => h, fun b ⟨j, ys, z1, z2⟩ => ?_⟩ (rep_ow upd_same (h4.mono sm))
    · by_cases hb : b = a
      · subst hb
        rw [upd_same] at h
        cases h
        exact h2
      · rw [upd_ne hb] at h
        exact r.sub b u h
    · rcases oth j _ h with ⟨hj, z⟩ | ⟨_, z⟩
      · cases z
        rw [hj]
        exact ⟨.ref a, h1, rep_ow upd_same (h4.mono sm)⟩
      · obtain ⟨v, z1, z2⟩ := r.va j d z
        exact ⟨v, z1, z2.mono sm⟩
    · obtain ⟨hj, z⟩ := ownK j ds h
      obtain ⟨a2, us, z1, z2, z3, z4⟩ := r.ow j ds z
      have hn : a2 ≠ a := fun hh => by
        rw [hh] at z1
        exact hj (r.dis j i _ _ z hi (z1.trans h1.symm))
      exact ⟨a2, us, z1, z2, by rw [upd_ne hn]; exact z3, z4.mono sm⟩
    · exact r.dis j k ys zs (ownK j ys hj).2 (ownK k zs hk).2 hjk
    · by_cases hb : b = a
      · subst hb
        exact .inr (.inr (.inl ⟨i, xs, hi, h1⟩))
      · rw [upd_ne hb] at h
        exact .inl h
    · exact ⟨j, ys, (ownK j ys z1).2, z2⟩
end
end Ev
end
section
namespace Ev
open PySem PySem.Spec L2
open PyProof.Rows hiding St
variable [KF]
/-! ### == at any depth -/
mutual
def toPy : D → PyData
  | .non => .none
  | .bl b => .bool b
  | .int i => .int i
  | .str x => .str x
  | .lst xs => .list (toPys xs)
  | .tup xs => .tuple (toPys xs)
  | .scr _ => .none
  | .err _ _ _ => .none
  | .dic _ _ => .none
def toPys : List D → List PyData
  | [] => []
  | x :: xs => toPy x :: toPys xs
end
mutual
theorem lay_py : ∀ d : D, d.lay = true → PyData.canLay0 (toPy d) = true
  | .non, _ => rfl
  | .bl _, _ => rfl
  | .int _, _ => rfl
  | .str x, h => by
    show PyData.strOk x = true
    unfold PyData.strOk
    have h : (x.cps.toList.all fun c => decide (c < 0x110000)) = true := h
    rw [← Array.all_toList]
    exact h
  | .lst xs, h => lays_py xs h
  | .tup xs, h => lays_py xs h
  | .scr _, h => nomatch h
  | .err _ _ _, h => nomatch h
  | .dic _ _, h => nomatch h
theorem lays_py : ∀ ds : List D, D.lays ds = true → PyData.canLayAll0 (toPys ds) = true
  | [], _ => rfl
  | x :: xs, h => by
    have h : (x.lay && D.lays xs) = true := h
    rw [Bool.and_eq_true] at h
    show (PyData.canLay0 (toPy x) && PyData.canLayAll0 (toPys xs)) = true
    rw [lay_py x h.1, lays_py xs h.2]
    rfl
end
mutual
theorem dep_py : ∀ d : D, d.lay = true → PyData.depth (toPy d) = d.dep
  | .non, _ => by simp [toPy, PyData.depth, D.dep]
  | .bl _, _ => by simp [toPy, PyData.depth, D.dep]
  | .int _, _ => by simp [toPy, PyData.depth, D.dep]
  | .str _, _ => by simp [toPy, PyData.depth, D.dep]
  | .lst xs, h => by
    show PyData.depth (.list (toPys xs)) = D.deps xs + 1
    rw [PyData.depth, deps_py xs h]
  | .tup xs, h => by
    show PyData.depth (.tuple (toPys xs)) = D.deps xs + 1
    rw [PyData.depth, deps_py xs h]
  | .scr _, h => nomatch h
  | .err _ _ _, h => nomatch h
  | .dic _ _, h => nomatch h
theorem deps_py : ∀ ds : List D, D.lays ds = true → PyData.depthAll (toPys ds) = D.deps ds
  | [], _ => by simp [toPys, PyData.depthAll, D.deps]
  | x :: xs, h => by
    have h : (x.lay && D.lays xs) = true := h
    rw [Bool.and_eq_true] at h
    show PyData.depthAll (toPy x :: toPys xs) = max x.dep (D.deps xs)
    rw [PyData.depthAll, dep_py x h.1, deps_py xs h.2]
end
mutual
theorem eqv_py : ∀ d e : D, d.lay = true → e.lay = true → PyData.eqv (toPy d) (toPy e) = D.eqv d e
  | .lst xs, e, h, h' => by
    cases e with
    | lst ys =>
      show PyData.eqv (.list (toPys xs)) (.list (toPys ys)) = D.eqvs xs ys
      rw [PyData.eqv, eqvs_py xs ys h h']
    | scr _ => exact nomatch h'
    | err _ _ _ => exact nomatch h'
    | dic _ _ => exact nomatch h'
    | _ => simp [toPy, PyData.eqv, D.eqv]
  | .tup xs, e, h, h' => by
    cases e with
    | tup ys =>
      show PyData.eqv (.tuple (toPys xs)) (.tuple (toPys ys)) = D.eqvs xs ys
      rw [PyData.eqv, eqvs_py xs ys h h']
    | scr _ => exact nomatch h'
    | err _ _ _ => exact nomatch h'
    | dic _ _ => exact nomatch h'
    | _ => simp [toPy, PyData.eqv, D.eqv]
  | .non, e, _, h' => by
    cases e with
    | scr _ => exact nomatch h'
    | err _ _ _ => exact nomatch h'
    | dic _ _ => exact nomatch h'
    | _ => simp [toPy, PyData.eqv, D.eqv]
  | .bl _, e, _, h' => by
    cases e with
    | scr _ => exact nomatch h'
    | err _ _ _ => exact nomatch h'
    | dic _ _ => exact nomatch h'
    | _ => simp [toPy, PyData.eqv, D.eqv]
  | .int _, e, _, h' => by
    cases e with
    | scr _ => exact nomatch h'
    | err _ _ _ => exact nomatch h'
    | dic _ _ => exact nomatch h'
    | _ => simp [toPy, PyData.eqv, D.eqv]
  | .str _, e, _, h' => by
    cases e with
    | scr _ => exact nomatch h'
    | err _ _ _ => exact nomatch h'
    | dic _ _ => exact nomatch h'
    | _ => simp [toPy, PyData.eqv, D.eqv]
  | .scr _, _, h, _ => nomatch h
  | .err _ _ _, _, h, _ => nomatch h
  | .dic _ _, _, h, _ => nomatch h
theorem eqvs_py : ∀ ds es : List D, D.lays ds = true → D.lays es = true → PyData.eqvAll (toPys ds) (toPys es) = D.eqvs ds es
  | [], [], _, _ => by simp [toPys, PyData.eqvAll, D.eqvs]
  | [], _ :: _, _, _ => by simp [toPys, PyData.eqvAll, D.eqvs]
  | _ :: _, [], _, _ => by simp [toPys, PyData.eqvAll, D.eqvs]
  | x :: xs, y :: ys, h, h' => by
    have h : (x.lay && D.lays xs) = true := h
    have h' : (y.lay && D.lays ys) = true := h'
    rw [Bool.and_eq_true] at h h'
    show PyData.eqvAll (toPy x :: toPys xs) (toPy y :: toPys ys) = (D.eqv x y && D.eqvs xs ys)
    rw [PyData.eqvAll, eqv_py x y h.1 h'.1, eqvs_py xs ys h.2 h'.2]
end
mutual
theorem Rep.dp {K : PySem.W.Frag} {G H : Hp} (s : Same G H) : ∀ {v : V} {d : D}, Rep G v d → d.lay = true → Dp K H v (toPy d)
  | _, _, .non, _ => .non
  | _, _, .bl b, _ => .bl b
  | _, _, .int i, _ => .int i
  | _, _, .str x, _ => .str x
  | _, _, .lst r a, h => .lst (.inl (.inl (s _ _ r))) (RepA.dp s a h)
  | _, _, .tup r a, h => .tup (.inl (.inl (s _ _ r))) (RepA.dp s a h)
  | _, _, .scr _ _, h => nomatch h
  | _, _, .err _ _ _ _ _, h => nomatch h
  | _, _, .dic _ _ _, h => nomatch h
theorem RepA.dp {K : PySem.W.Frag} {G H : Hp} (s : Same G H) : ∀ {vs : List V} {ds : List D}, RepA G vs ds → D.lays ds = true → DpAll K H vs (toPys ds)
  | _, _, .nil, _ => .nil
  | _, _, @RepA.cons _ _ _ _ x xs r a, h => by
    have h : (x.lay && D.lays xs) = true := h
    rw [Bool.and_eq_true] at h
    exact .cons (Rep.dp s r h.1) (RepA.dp s a h.2)
end
/-! ### the operators -/
section
variable {X : Cx}
theorem op_or {f : Value → Value → Sem Value} {r r' : R2} (h : OpR X f r) (h' : OpR X f r') : OpR X f (fun x y H Q => r x y H Q ∨ r' x y H Q) := by
  intro pins s σ H x y v u Q I rx ry q
  rcases q with q | q
  · exact h pins s σ H x y v u Q I rx ry q
  · exact h' pins s σ H x y v u Q I rx ry q
def opB : B2 → Operator
  | .add => .Add | .sub => .Sub | .mul => .Mult | .fdiv => .FloorDiv | .mod => .Mod | .pow => .Pow
/-- what binop tells is so -/
def rB (op : B2) : R2 := fun x y H Q => ∃ (G : Hp) (d e z : D), Same G H ∧ Rep G x d ∧ Rep G y e ∧ binop op d e = some z ∧
  ∀ (v : V) (H' : Hp), ((∃ G', H' = H ∧ G' = G ∧ Rep G' v z) ∨ (∃ p vs ds, z = .lst ds ∧ v = .ref p ∧ H p = none ∧ H' = upd H p (.lst vs) ∧ RepA G vs ds) ∨ (∃ p vs ds, z = .tup ds ∧ v = .ref p ∧ H p = none ∧ H' = upd H p (.tup vs) ∧ RepA G vs ds)) → Q v H'
theorem lt60 {j : Int} (h0 : 0 < j) (h : j < 10 ^ 60) : j.natAbs.log2 < 9000 := by
  have h1 : j.natAbs < 2 ^ 200 := by
    have h2 : (10 : Int) ^ 60 < 2 ^ 200 := by decide
    have h3 : j < (2 : Int) ^ 200 := Int.lt_trans h h2
    have h4 : ((j.natAbs : Nat) : Int) < ((2 ^ 200 : Nat) : Int) := by
      rw [Int.natAbs_of_nonneg (Int.le_of_lt h0)]
      exact_mod_cast h3
    exact_mod_cast h4
  exact (wide_div (i := 0) h0 h1 (by decide) (by decide)).2
theorem op_B (op : B2) : OpR X (binaryOp (opB op)) (rB op) := by
  intro pins s σ H x y v u Q I rx ry h
  obtain ⟨G, d, e, z, sm, hd, he, hz, q⟩ := h
  have scal : ∀ (v : V) (z' : D), z = z' → Rep G v z' → Q v H := fun v z' e1 r => q v H (.inl ⟨G, rfl, rfl, e1 ▸ r⟩)
  cases hd with
  | int i =>
    cases he with
    | int j =>
      cases op with
      | add => exact op_add pins s σ H _ _ v u Q I rx ry ⟨i, j, rfl, rfl, scal _ _ (Option.some.inj hz).symm (.int _)⟩
      | sub => exact op_sub pins s σ H _ _ v u Q I rx ry ⟨i, j, rfl, rfl, scal _ _ (Option.some.inj hz).symm (.int _)⟩
      | mul =>
        have hz : (if ((-big64 < i ∧ i < big64) ∨ (-big64 < j ∧ j < big64)) ∨ (i.natAbs < wide ∧ j.natAbs < wide) then some (D.int (i * j)) else none) = some z := hz
        split at hz
        · next hc =>
          rcases hc with hc | hc
          · exact op_mul pins s σ H _ _ v u Q I rx ry ⟨i, j, rfl, rfl, hc, scal _ _ (Option.some.inj hz).symm (.int _)⟩
          · exact op_mulW pins s σ H _ _ v u Q I rx ry ⟨i, j, rfl, rfl, wide_mul (a := 500) (b := 500) hc.1 hc.2 (by decide) (by decide) (by decide), scal _ _ (Option.some.inj hz).symm (.int _)⟩
        · cases hz
      | fdiv =>
        have hz : (if 0 < j ∧ j < 10 ^ 60 then some (D.int (i / j)) else none) = some z := hz
        split at hz
        · next hc => exact op_fdivW pins s σ H _ _ v u Q I rx ry ⟨i, j, rfl, rfl, ⟨hc.1, lt60 hc.1 hc.2⟩, scal _ _ (Option.some.inj hz).symm (.int _)⟩
        · cases hz
      | mod =>
        have hz : (if 0 < j then some (D.int (i % j)) else none) = some z := hz
        split at hz
        · next hc => exact op_mod pins s σ H _ _ v u Q I rx ry ⟨i, j, rfl, rfl, hc, scal _ _ (Option.some.inj hz).symm (.int _)⟩
        · cases hz
      | pow =>
        have hz : (if 0 ≤ j ∧ j ≤ 1000000 ∧ i.natAbs < 2 ^ 64 then some (D.int (i ^ j.toNat)) else none) = some z := hz
        split at hz
        · next hc => exact op_pow pins s σ H _ _ v u Q I rx ry ⟨i, j, rfl, rfl, hc, scal _ _ (Option.some.inj hz).symm (.int _)⟩
        · cases hz
    | _ => cases op <;> cases hz
  | @lst a vs xs ha hA =>
    cases he with
    | int j =>
      cases op with
      | mul =>
        have hz : (if -(2 ^ 63) ≤ j ∧ j < 2 ^ 63 ∧ xs.length * j.toNat ≤ sizeLine then some (D.lst (List.replicate j.toNat xs).flatten) else none) = some z := hz
        split at hz
        · next hc =>
          refine op_rep pins s σ H _ _ v u Q I rx ry ⟨a, j, vs, rfl, rfl, sm _ _ ha, hc.1, hc.2.1, by rw [hA.length]; exact hc.2.2, fun p hp => ?_⟩
          exact q _ _ (.inr (.inl ⟨p, _, _, (Option.some.inj hz).symm, rfl, hp, rfl, hA.rep _⟩))
        · cases hz
      | _ => cases hz
    | @lst b us ys hb hB =>
      cases op with
      | add =>
        have hz : (if xs.length + ys.length ≤ sizeLine then some (D.lst (xs ++ ys)) else none) = some z := hz
        split at hz
        · next hc =>
          refine op_cat pins s σ H _ _ v u Q I rx ry ⟨a, b, vs, us, rfl, rfl, sm _ _ ha, sm _ _ hb, by rw [hA.length, hB.length]; exact hc, fun p hp => ?_⟩
          exact q _ _ (.inr (.inl ⟨p, _, _, (Option.some.inj hz).symm, rfl, hp, rfl, hA.append hB⟩))
        · cases hz
      | _ => cases hz
    | _ => cases op <;> cases hz
  | @tup a vs xs ha hA =>
    cases he with
    | int j =>
      cases op with
      | mul =>
        have hz : (if 0 < xs.length ∧ xs.length ≤ 1000 ∧ 2 ≤ j ∧ j ≤ 1000 then some (D.tup (List.replicate j.toNat xs).flatten) else none) = some z := hz
        split at hz
        · next hc =>
          refine op_repT pins s σ H _ _ v u Q I rx ry ⟨a, j, vs, rfl, rfl, .inl (.inl (sm _ _ ha)), fun e => ?_, by omega, by omega, by rw [hA.length]; omega, fun p hp => ?_⟩
          · have := hA.length
            rw [e] at this
            have h0 := hc.1
            rw [← this] at h0
            exact absurd h0 (Nat.lt_irrefl 0)
          · exact q _ _ (.inr (.inr ⟨p, _, _, (Option.some.inj hz).symm, rfl, hp, rfl, hA.rep _⟩))
        · cases hz
      | _ => cases hz
    | @tup b us ys hb hB =>
      cases op with
      | add =>
        have hz : (if xs.length + ys.length ≤ sizeLine then some (D.tup (xs ++ ys)) else none) = some z := hz
        split at hz
        · next hc =>
          have ez := (Option.some.inj hz).symm
          refine op_catA pins s σ H _ _ v u Q I rx ry ⟨a, b, vs, us, rfl, rfl, .inl (.inl (sm _ _ ha)), .inl (.inl (sm _ _ hb)), by rw [hA.length, hB.length]; exact hc, fun z1 => ?_, fun _ z2 => ?_, fun _ _ p hp => ?_⟩
          · subst z1
            cases hA
            exact scal _ _ ez (.tup hb hB)
          · subst z2
            cases hB
            rw [List.append_nil] at ez
            exact scal _ _ ez (.tup ha hA)
          · exact q _ _ (.inr (.inr ⟨p, _, _, ez, rfl, hp, rfl, hA.append hB⟩))
        · cases hz
      | _ => cases hz
    | _ => cases op <;> cases hz
  | _ => cases he <;> cases op <;> cases hz
end
section
variable {X : Cx}
def opC : C2 → CmpOp
  | .eq => .Eq | .ne => .NotEq | .lt => .Lt | .le => .LtE | .gt => .Gt | .ge => .GtE | .isn => .Is | .notn => .IsNot | .inn => .In | .notin => .NotIn
theorem lexAt_shift (e r : Nat → Bool) (z : Bool) : ∀ (k i : Nat), Ob.lexAt e r z (i + 1) k = Ob.lexAt (fun j => e (j + 1)) (fun j => r (j + 1)) z i k
  | 0, _ => rfl
  | k + 1, i => by
    rw [Ob.lexAt_succ, Ob.lexAt_succ, lexAt_shift e r z k (i + 1)]
theorem lexAt_le : ∀ ns ms : List Int, Ob.lexAt (fun j => decide (ns.getD j 0 = ms.getD j 0)) (fun j => decide (ns.getD j 0 ≤ ms.getD j 0)) (decide (ns.length ≤ ms.length)) 0 (min ns.length ms.length) = lexLeI ns ms
  | [], ms => by simp [Ob.lexAt, lexLeI]
  | n :: ns, [] => by simp [Ob.lexAt, lexLeI]
  | n :: ns, m :: ms => by
    have ih := lexAt_le ns ms
    rw [List.length_cons, List.length_cons, Nat.succ_min_succ, Ob.lexAt_succ, lexAt_shift]
    simp only [List.getD_cons_zero, List.getD_cons_succ, lexLeI]
    by_cases h : n = m
    · simp only [h, decide_true, if_true]
      rw [← ih]
      congr 1
      simp
    · simp [h]
theorem inV_of {G : Hp} {x : V} {d : D} (hx : Rep G x d) (fx : flat d = true) : flatV x = true := by
  cases hx <;> first | rfl | cases fx
theorem inVs_of {G : Hp} : ∀ {xs : List V} {ds : List D}, RepA G xs ds → ds.all flat = true → xs.all flatV = true
  | _, _, .nil, _ => rfl
  | _, _, .cons r a, h => by
    rw [List.all_cons, Bool.and_eq_true] at h ⊢
    exact ⟨inV_of r h.1, inVs_of a h.2⟩
theorem eqF_of {G : Hp} {x y : V} {d e : D} (hx : Rep G x d) (hy : Rep G y e) (fx : flat d = true) (fy : flat e = true) : eqV y x = eqF e d := by
  cases hx <;> cases hy <;> first | rfl | cases fx | cases fy
theorem inF_of {G : Hp} {x : V} {d : D} (hx : Rep G x d) (fx : flat d = true) : ∀ {ys : List V} {es : List D}, RepA G ys es → es.all flat = true → inV x ys = es.any fun y => eqF y d
  | _, _, .nil, _ => rfl
  | _, _, .cons r a, h => by
    rw [List.all_cons, Bool.and_eq_true] at h
    have ih := inF_of hx fx a h.2
    unfold inV at ih ⊢
    rw [List.any_cons, List.any_cons, ih, eqF_of hx r fx h.1]
/-- what cmpop tells is so -/
def rC (op : C2) : R2 := fun x y H Q => ∃ (G : Hp) (d e : D) (k : Bool), Same G H ∧ Rep G x d ∧ Rep G y e ∧ cmpop op d e = some k ∧ Q (.bl k) H
theorem eqO_some {d e : D} {k : Bool} (h : eqO d e = some k) : (∃ i j, d = .int i ∧ e = .int j ∧ k = decide (i = j)) ∨ (d.lay = true ∧ e.lay = true ∧ min d.dep e.dep ≤ 64 ∧ k = D.eqv d e) := by
  unfold eqO at h
  split at h
  · exact .inl ⟨_, _, rfl, rfl, (Option.some.inj h).symm⟩
  · split at h
    · next hc =>
      rw [Bool.and_eq_true, Bool.and_eq_true, decide_eq_true_eq] at hc
      exact .inr ⟨hc.1.1, hc.1.2, hc.2, (Option.some.inj h).symm⟩
    · cases h
theorem scal_ii {i j : Int} : scal (.int i) (.int j) = true := by
  first | rfl | decide
theorem op_C (hu : X.A.units + 66 < cLine) (op : C2) : OpR X (compareOp (opC op)) (rC op) := by
  intro pins s σ H x y v u Q I rx ry h
  obtain ⟨G, d, e, k, sm, hd, he, hk, q⟩ := h
  have hu0 : X.A.units < cLine := by omega
  have ords : ∀ (i j : Int), x = .int i → y = .int j → d = .int i → e = .int j → (op = .lt ∨ op = .le ∨ op = .gt ∨ op = .ge) → wpAny (model X.prog X.w) X.A (compareOp (opC op) v u) (EP X pins σ Q) X.xe s := by
    intro i j e1 e2 e3 e4 ho
    subst e1 e2 e3 e4
    rcases ho with ho | ho | ho | ho <;> subst ho
    · have ek : decide (i < j) = k := Option.some.inj hk
      refine op_lt pins s σ H _ _ v u Q I rx ry ⟨i, j, rfl, rfl, ?_⟩
      show Q (V.bl (decide (i < j))) H
      rw [ek]
      exact q
    · have ek : decide (i ≤ j) = k := Option.some.inj hk
      refine op_le pins s σ H _ _ v u Q I rx ry ⟨i, j, rfl, rfl, ?_⟩
      show Q (V.bl (decide (i ≤ j))) H
      rw [ek]
      exact q
    · have ek : decide (j < i) = k := Option.some.inj hk
      refine op_gt pins s σ H _ _ v u Q I rx ry ⟨i, j, rfl, rfl, ?_⟩
      show Q (V.bl (decide (j < i))) H
      rw [ek]
      exact q
    · have ek : decide (j ≤ i) = k := Option.some.inj hk
      refine op_ge pins s σ H _ _ v u Q I rx ry ⟨i, j, rfl, rfl, ?_⟩
      show Q (V.bl (decide (j ≤ i))) H
      rw [ek]
      exact q
  have eqd : ∀ kk, eqO d e = some kk → (op = .eq → k = kk) → (op = .ne → k = !kk) → (op = .eq ∨ op = .ne) → wpAny (model X.prog X.w) X.A (compareOp (opC op) v u) (EP X pins σ Q) X.xe s := by
    intro kk hkk h1 h2 ho
    have all : d.lay = true ∧ e.lay = true ∧ min d.dep e.dep ≤ 64 ∧ kk = D.eqv d e := by
      rcases eqO_some hkk with ⟨i, j, rfl, rfl, e3⟩ | z
      · refine ⟨rfl, rfl, by simp [D.dep], ?_⟩
        rw [e3]
        simp only [D.eqv]
        exact (Bool.beq_eq_decide_eq i j).symm
      · exact z
    obtain ⟨l1, l2, dp, e3⟩ := all
    obtain ⟨as, r1⟩ := Dp.reads I _ x v (hd.dp sm l1) rx
    obtain ⟨bs, r2⟩ := Dp.reads I _ y u (he.dp sm l2) ry
    have room : X.A.units + min (toPy d).depth (toPy e).depth < cLine := by
      rw [dep_py d l1, dep_py e l2]
      omega
    rcases ho with ho | ho <;> subst ho
    · refine SeqAt.compareEq_reads r1 r2 (lay_py d l1) (lay_py e l2) room ⟨.bl _, H, I, rfl, ?_⟩
      rw [eqv_py d e l1 l2, ← e3, ← h1 rfl]
      exact q
    · refine SeqAt.compareNe_reads r1 r2 (lay_py d l1) (lay_py e l2) room ⟨.bl _, H, I, rfl, ?_⟩
      rw [eqv_py d e l1 l2, ← e3, ← h2 rfl]
      exact q
  have isn : ∀ kk, cmpop .isn d e = some kk → y = .non ∧ decide (x = .non) = kk := by
    intro kk h1
    cases he <;> (try (cases h1; done))
    refine ⟨rfl, ?_⟩
    cases hd <;> first | (cases h1; rfl) | (cases h1; exact decide_eq_false (fun z => nomatch z))
  have mem : ∀ (es : List D), items? e = some es → ∃ p ys, y = .ref p ∧ (SqL X.K H p ys ∨ SqT X.K H p ys) ∧ RepA G ys es := by
    intro es h1
    cases he with
    | lst hb hB => cases h1; exact ⟨_, _, rfl, .inl (.inl (.inl (sm _ _ hb))), hB⟩
    | tup hb hB => cases h1; exact ⟨_, _, rfl, .inr (.inl (.inl (sm _ _ hb))), hB⟩
    | _ => cases h1
  have hu1 : X.A.units + 65 < cLine := by omega
  have anyq : ∀ (l : d.lay = true) (es : List D), D.lays es = true → ((toPys es).any fun z => z.eqv (toPy d)) = es.any fun y => D.eqv y d := fun l es => by
    induction es with
    | nil => intro _; rfl
    | cons y es ih =>
      intro hl
      have hl : (y.lay && D.lays es) = true := hl
      rw [Bool.and_eq_true] at hl
      show ((toPy y :: toPys es).any fun z => z.eqv (toPy d)) = _
      rw [List.any_cons, List.any_cons, ih hl.2, eqv_py y d hl.1 l]
  have deep : inDeep d e = true → ∀ {es : List D}, items? e = some es → Dp X.K H x (toPy d) ∧ Dp X.K H y (.list (toPys es)) ∧ SeqAt.shaped (toPy d) = true ∧ SeqAt.shaped (.list (toPys es)) = true ∧ ((toPys es).any fun z => z.eqv (toPy d)) = es.any fun y => D.eqv y d := fun hc es h1 => by
    unfold inDeep at hc
    simp only [Bool.and_eq_true, decide_eq_true_eq] at hc
    obtain ⟨⟨⟨⟨c1, c2⟩, c3⟩, c4⟩, c5⟩ := hc
    cases e with
    | lst zs =>
      cases h1
      refine ⟨hd.dp sm c2, he.dp sm c3, ?_, ?_, anyq c2 es c3⟩
      · show (PyData.canLay0 (toPy d) && decide (PyData.depth (toPy d) ≤ 64)) = true
        rw [lay_py d c2, dep_py d c2, decide_eq_true c4]
        rfl
      · have a1 := lay_py (.lst es) c3
        have a2 := dep_py (.lst es) c3
        show (PyData.canLay0 (toPy (.lst es)) && decide (PyData.depth (toPy (.lst es)) ≤ 64)) = true
        rw [a1, a2, decide_eq_true c5]
        rfl
    | _ => cases c1
  cases op with
  | eq => exact eqd k hk (fun _ => rfl) (fun z => nomatch z) (.inl rfl)
  | ne =>
    have hk : (eqO d e).map (fun b => !b) = some k := hk
    rw [Option.map_eq_some_iff] at hk
    obtain ⟨kk, h1, h2⟩ := hk
    exact eqd kk h1 (fun z => nomatch z) (fun _ => h2.symm) (.inr rfl)
  | isn =>
    obtain ⟨e1, e2⟩ := isn k hk
    exact op_isN pins s σ H _ _ v u Q I rx ry ⟨e1, by rw [e2]; exact q⟩
  | notn =>
    have hk2 : cmpop .isn d e = some (!k) := by
      cases e <;> (try (cases hk; done))
      cases d <;> (cases hk; rfl)
    obtain ⟨e1, e2⟩ := isn (!k) hk2
    refine op_notN pins s σ H _ _ v u Q I rx ry ⟨e1, ?_⟩
    rw [e2, Bool.not_not]
    exact q
  | inn =>
    have hk : (items? e).bind (fun xs => if flat d && xs.all flat then some (xs.any fun y => eqF y d) else if inDeep d e then some (xs.any fun y => D.eqv y d) else none) = some k := hk
    rw [Option.bind_eq_some_iff] at hk
    obtain ⟨es, h1, h2⟩ := hk
    split at h2
    · next hc =>
      rw [Bool.and_eq_true] at hc
      obtain ⟨p, ys, e1, e2, e3⟩ := mem es h1
      refine op_in_seq pins s σ H _ _ v u Q I rx ry ⟨p, ys, e1, e2, inV_of hd hc.1, inVs_of e3 hc.2, ?_⟩
      rw [if_neg Bool.false_ne_true, inF_of hd hc.1 e3 hc.2, Option.some.inj h2]
      exact q
    · split at h2
      · next hc =>
        obtain ⟨g1, g2, g3, g4⟩ := deep hc h1
        refine op_inD hu1 pins s σ H _ _ v u Q I rx ry ⟨toPy d, toPys es, g1, g2, g3, g4.1, ?_⟩
        rw [g4.2, Option.some.inj h2]
        exact q
      · cases h2
  | notin =>
    have hk : (items? e).bind (fun xs => if flat d && xs.all flat then some (!xs.any fun y => eqF y d) else if inDeep d e then some (!xs.any fun y => D.eqv y d) else none) = some k := hk
    rw [Option.bind_eq_some_iff] at hk
    obtain ⟨es, h1, h2⟩ := hk
    split at h2
    · next hc =>
      rw [Bool.and_eq_true] at hc
      obtain ⟨p, ys, e1, e2, e3⟩ := mem es h1
      refine op_notIn_seq pins s σ H _ _ v u Q I rx ry ⟨p, ys, e1, e2, inV_of hd hc.1, inVs_of e3 hc.2, ?_⟩
      rw [if_pos rfl, inF_of hd hc.1 e3 hc.2, Option.some.inj h2]
      exact q
    · split at h2
      · next hc =>
        obtain ⟨g1, g2, g3, g4⟩ := deep hc h1
        refine op_notInD hu1 pins s σ H _ _ v u Q I rx ry ⟨toPy d, toPys es, g1, g2, g3, g4.1, ?_⟩
        rw [g4.2, Option.some.inj h2]
        exact q
      · cases h2
  | lt =>
    cases hd with
    | int i => cases he with
      | int j => exact ords i j rfl rfl rfl rfl (.inl rfl)
      | _ => cases hk
    | @tup a vs xs ha hA => cases he with
      | @tup b us ys hb hB =>
        have hk : (ints? xs).bind (fun ns => (ints? ys).map fun ms => HT.lexLt ns ms) = some k := hk
        rw [Option.bind_eq_some_iff] at hk
        obtain ⟨ns, h1, h2⟩ := hk
        rw [Option.map_eq_some_iff] at h2
        obtain ⟨ms, h3, h4⟩ := h2
        have e1 := hA.ints h1
        have e2 := hB.ints h3
        subst e1 e2
        exact op_ltT hu0 pins s σ H _ _ v u Q I rx ry ⟨a, b, ns, ms, rfl, rfl, .inl (.inl (sm _ _ ha)), .inl (.inl (sm _ _ hb)), by rw [h4]; exact q⟩
      | _ => cases hk
    | _ => cases he <;> cases hk
  | le =>
    cases hd with
    | int i => cases he with
      | int j => exact ords i j rfl rfl rfl rfl (.inr (.inl rfl))
      | _ => cases hk
    | @tup a vs xs ha hA => cases he with
      | @tup b us ys hb hB =>
        have hk : (ints? xs).bind (fun ns => (ints? ys).map fun ms => lexLeI ns ms) = some k := hk
        rw [Option.bind_eq_some_iff] at hk
        obtain ⟨ns, h1, h2⟩ := hk
        rw [Option.map_eq_some_iff] at h2
        obtain ⟨ms, h3, h4⟩ := h2
        have e1 := hA.ints h1
        have e2 := hB.ints h3
        subst e1 e2
        exact op_leT hu0 pins s σ H _ _ v u Q I rx ry ⟨a, b, ns, ms, rfl, rfl, .inl (.inl (sm _ _ ha)), .inl (.inl (sm _ _ hb)), by rw [lexAt_le, h4]; exact q⟩
      | _ => cases hk
    | _ => cases he <;> cases hk
  | gt =>
    cases hd with
    | int i => cases he with
      | int j => exact ords i j rfl rfl rfl rfl (.inr (.inr (.inl rfl)))
      | _ => cases hk
    | _ => cases he <;> cases hk
  | ge =>
    cases hd with
    | int i => cases he with
      | int j => exact ords i j rfl rfl rfl rfl (.inr (.inr (.inr rfl)))
      | _ => cases hk
    | _ => cases he <;> cases hk
end
end Ev
end
section
namespace Ev
open PySem PySem.Spec L2
open PyProof.Rows hiding St
variable [KF]
/-- the wish of a result of any kind -/
def RnG {α β : Type} (P : Hp → β → α → Prop) (T : XT) (W : St → XK) (σ : St) (e : Env) (G H : Hp) (r : R α) (Q : β → Hp → Prop) : Prop := match r with
  | .ok d e' => ∀ v H' G', Rel H' G' σ e' → Stp σ e G H e' G' H' → P G' v d → Q v H'
  | .ex c fs e' => ∀ d H' G', Rel H' G' σ e' → Stp σ e G H e' G' H' → ExAt T c fs d G' H' → W σ (T.cls c) d H'
  | .no => False
abbrev IsK {α : Type} : Hp → α → α → Prop := fun _ k b => k = b
abbrev IsU {α : Type} : Hp → Unit → α → Prop := fun _ _ _ => True
section
variable {T : XT} {W : St → XK} {σ : St} {e : Env} {G H : Hp} {α β γ δ : Type}
theorem Rn.toG {r : R D} {Q : VK} (h : Rn T W σ e G H r false Q) : RnG Rep T W σ e G H r Q := by
  cases r <;> exact h
theorem RnG.toV {r : R D} {Q : VK} (h : RnG Rep T W σ e G H r Q) : Rn T W σ e G H r false Q := by
  cases r <;> exact h
theorem RnG.bind {P1 : Hp → β → α → Prop} {P2 : Hp → δ → γ → Prop} {r : R α} {k : α → Env → R γ} {Q : δ → Hp → Prop} {Q1 : β → Hp → Prop} (h : RnG P2 T W σ e G H (r.bind k) Q)
    (hk : ∀ x e1 v H1 G1, r = .ok x e1 → Rel H1 G1 σ e1 → Stp σ e G H e1 G1 H1 → P1 G1 v x → RnG P2 T W σ e1 G1 H1 (k x e1) Q → Q1 v H1) : RnG P1 T W σ e G H r Q1 := by
  cases r with
  | no => exact h
  | ex c fs e' => exact h
  | ok x e1 =>
    intro v H1 G1 r1 s1 q1
    refine hk x e1 v H1 G1 rfl r1 s1 q1 ?_
    have h : RnG P2 T W σ e G H (k x e1) Q := h
    cases hq : k x e1 with
    | no => rw [hq] at h; exact h
    | ex c fs e2 =>
      rw [hq] at h
      exact fun d H2 G2 r2 s2 q2 => h d H2 G2 r2 (s1.trans s2) q2
    | ok y e2 =>
      rw [hq] at h
      exact fun u H2 G2 r2 s2 q2 => h u H2 G2 r2 (s1.trans s2) q2
/-- the same where the result may be a new list -/
theorem Rn.bindR {fr : Bool} {P1 : Hp → β → α → Prop} {r : R α} {k : α → Env → R D} {Q : VK} {Q1 : β → Hp → Prop} (h : Rn T W σ e G H (r.bind k) fr Q)
    (hk : ∀ x e1 v H1 G1, r = .ok x e1 → Rel H1 G1 σ e1 → Stp σ e G H e1 G1 H1 → P1 G1 v x → Rn T W σ e1 G1 H1 (k x e1) fr Q → Q1 v H1) : RnG P1 T W σ e G H r Q1 := by
  cases r with
  | no => exact h
  | ex c fs e' => exact h
  | ok x e1 =>
    intro v H1 G1 r1 s1 q1
    refine hk x e1 v H1 G1 rfl r1 s1 q1 ?_
    have h : Rn T W σ e G H (k x e1) fr Q := h
    cases hq : k x e1 with
    | no => rw [hq] at h; exact h
    | ex c fs e2 =>
      rw [hq] at h
      exact fun d H2 G2 r2 s2 q2 => h d H2 G2 r2 (s1.trans s2) q2
    | ok y e2 =>
      rw [hq] at h
      intro u H2 G2 r2 s2 q2
      refine h u H2 G2 r2 (s1.trans s2) ?_
      cases fr with
      | false => exact q2
      | true =>
        obtain ⟨p, vs, ds, e1, e2, e3, e4, e5, e6, e7⟩ := q2
        exact ⟨p, vs, ds, e1, e2, s1.al _ e3, e4, e5, e6, e7⟩
theorem RnG.lift {P : Hp → β → α → Prop} {o : Option α} {Q : β → Hp → Prop} (h : RnG P T W σ e G H (lift o e) Q) : ∃ y, o = some y ∧ RnG P T W σ e G H (.ok y e) Q := by
  cases o with
  | none => exact h.elim
  | some y => exact ⟨y, rfl, h⟩
theorem RnG.liftB {P : Hp → β → α → Prop} {o : Option γ} {k : γ → Env → R α} {Q : β → Hp → Prop} (h : RnG P T W σ e G H ((Ev.lift o e).bind k) Q) : ∃ y, o = some y ∧ RnG P T W σ e G H (k y e) Q := by
  cases o with
  | none => exact h.elim
  | some y => exact ⟨y, rfl, h⟩
theorem RnG.here {P : Hp → β → α → Prop} {d : α} {v : β} {Q : β → Hp → Prop} (h : RnG P T W σ e G H (.ok d e) Q) (r : Rel H G σ e) (q : P G v d) : Q v H := h v H G r Stp.refl q
theorem RnG.newT {Q : VK} {ds : List D} {vs : List V} {p : Addr} (h : RnG Rep T W σ e G H (.ok (.tup ds) e) Q) (r : Rel H G σ e) (q : RepA G vs ds) (hp : H p = none) : Q (.ref p) (upd H p (.tup vs)) := (RnG.toV h).newT r q hp
theorem RnG.newL {Q : VK} {ds : List D} {vs : List V} {p : Addr} (h : RnG Rep T W σ e G H (.ok (.lst ds) e) Q) (r : Rel H G σ e) (q : RepA G vs ds) (hp : H p = none) : Q (.ref p) (upd H p (.lst vs)) := (RnG.toV h).newL r q hp
/-- one more object is laid between (a tuple of the call's own) -/
theorem RnG.after {P : Hp → β → α → Prop} {r : R α} {Q : β → Hp → Prop} {G' H' : Hp} (h : RnG P T W σ e G H r Q) (s : Stp σ e G H e G' H') : RnG P T W σ e G' H' r Q := by
  cases r with
  | no => exact h
  | ex c fs e' => exact fun d H2 G2 r2 s2 q2 => h d H2 G2 r2 (s.trans s2) q2
  | ok x e1 => exact fun v H2 G2 r2 s2 q2 => h v H2 G2 r2 (s.trans s2) q2
end
def tV (T : XT) (W : St → XK) (cf : CF) (x : E) : TE := fun σ H Q => ∃ G e, Rel H G σ e ∧ RnG Rep T W σ e G H (ev cf x e) Q
def tA (T : XT) (W : St → XK) (cf : CF) (x : E) : TA := fun σ H Q => ∃ G e, Rel H G σ e ∧ RnG RepA T W σ e G H (evs cf x e) Q
def tT (T : XT) (W : St → XK) (cf : CF) (x : E) : TT := fun σ H Q => ∃ G e, Rel H G σ e ∧ RnG IsK T W σ e G H ((ev cf x e).bind fun x e => lift (truthy x) e) Q
def plainE : Expr → Bool
  | .UnaryOp .Not _ _ => false
  | .BoolOp _ _ _ => false
  | .IfExp _ _ _ _ => false
  | .Compare _ _ _ _ => false
  | _ => true
theorem plain_is {x : Expr} (h : plainE x = true) (env : PySem.Env) (whole : Sem Value) : isTrue x env whole = (do let v ← whole; standAt x.pos; holding [v] (PySem.truthy v)) := by
  cases x with
  | UnaryOp op a p => cases op <;> first | rfl | cases h
  | BoolOp _ _ _ => cases h
  | IfExp _ _ _ _ => cases h
  | Compare _ _ _ _ => cases h
  | _ => rfl
def starless : Expr → Bool
  | .Starred _ _ => false
  | _ => true
theorem star_cons {x : Expr} (h : starless x = true) (es : List Expr) (env : PySem.Env) : starEach (x :: es) env = (false, PySem.eval x env) :: starEach es env := by
  cases x <;> first | rfl | cases h
theorem tru_of {K : PySem.W.Frag} {G H : Hp} {v : V} {d : D} {k : Bool} (r : Rep G v d) (s : Same G H) (h : truthy d = some k) : TruV K v H k := by
  cases r with
  | non => exact (Option.some.inj h).symm
  | bl b => exact (Option.some.inj h).symm
  | int i => exact (Option.some.inj h).symm
  | str x =>
    have h : (if x.length ≤ sizeLine then some ((x.length : Int) != 0) else none) = some k := h
    split at h
    · next hc => exact ⟨hc, (Option.some.inj h).symm⟩
    · cases h
  | lst ha hA =>
    refine .inl ⟨_, .inl (.inl (s _ _ ha)), ?_⟩
    rw [← Option.some.inj h]
    cases hA <;> rfl
  | tup ha hA =>
    refine .inr (.inl ⟨_, .inl (.inl (s _ _ ha)), ?_⟩)
    rw [← Option.some.inj h]
    cases hA <;> rfl
  | scr _ _ => cases h
  | err _ _ _ _ _ => cases h
  | dic _ _ _ => cases h
section
variable {X : Cx} {T : XT} {W : St → XK} {cf : CF} {x y z : Expr} {xs : List Expr} {a b c : E} {pos : Pos}
theorem v_of {fr : Bool} (h : PE X x (tEv T W cf fr a)) : PE X x (tV T W cf a) := wkE h fun σ H Q ⟨G, e, r, q⟩ => ⟨G, e, r, q.toV.weak⟩
theorem of_v (h : PE X x (tV T W cf a)) : PE X x (tEv T W cf false a) := wkE h fun σ H Q ⟨G, e, r, q⟩ => ⟨G, e, r, q.toG⟩
theorem sv_ci {i : Int} {j : Nat} : PE X (.Constant (.int i) j pos) (tV T W cf (.ci i)) := v_of se_ci
theorem sv_cs {s : Str} {j : Nat} : PE X (.Constant (.str s) j pos) (tV T W cf (.cs s)) := v_of se_cs
theorem sv_cb {k : Bool} {j : Nat} : PE X (.Constant (.bool k) j pos) (tV T W cf (.cb k)) := v_of se_cb
theorem sv_cn {j : Nat} : PE X (.Constant .none j pos) (tV T W cf .cn) := v_of se_cn
theorem sv_v {i : Nat} {n : Str} (hN : X.N[i]? = some n) (hv : Vis X.env.scope n) (hd : (n == ("__debug__" : Str)) = false) (hcd : (n == ("__classdict__" : Str)) = false) : PE X (.Name n pos) (tV T W cf (.v i)) := v_of (se_v hN hv hd hcd)
theorem sv_neg (ha : PE X x (tV T W cf a)) : PE X (.UnaryOp .USub x pos) (tV T W cf (.neg a)) := wkE (pe_un un_neg ha) fun σ H Q ⟨G, e, r, q⟩ => ⟨G, e, r, RnG.bind q fun d e1 v H1 G1 _ r1 s1 q1 h1 => by
  cases q1 with
  | int i => exact ⟨i, rfl, h1.here r1 (.int _)⟩
  | _ => exact h1.elim⟩
theorem sv_bin {op : B2} (ha : PE X x (tV T W cf a)) (hb : PE X y (tV T W cf b)) : PE X (.BinOp x (opB op) y pos) (tV T W cf (.bin op a b)) :=
  wkE (pe_op (op_B op) ha hb) fun σ H Q ⟨G, e, r, q⟩ => ⟨G, e, r, RnG.bind q fun d e1 v H1 G1 _ r1 s1 q1 h1 => ⟨G1, e1, r1, RnG.bind h1 fun d2 e2 u H2 G2 _ r2 s2 q2 h2 => by
    obtain ⟨z, hz, h3⟩ := h2.lift
    refine ⟨G2, d, d2, z, r2.sub, q1.mono s2.gs, q2, hz, fun w H' hw => ?_⟩
    rcases hw with ⟨G', rfl, rfl, q3⟩ | ⟨p, vs, ds, rfl, rfl, hp, rfl, q3⟩ | ⟨p, vs, ds, rfl, rfl, hp, rfl, q3⟩
    · exact h3.here r2 q3
    · exact h3.newL r2 q3 hp
    · exact h3.newT r2 q3 hp⟩⟩
theorem cmp_end {op : C2} {σ : St} {e1 e2 : Env} {G1 G2 H1 H2 : Hp} {d d2 : D} {v u : V} {Q : VK} (r2 : Rel H2 G2 σ e2) (s2 : Stp σ e1 G1 H1 e2 G2 H2) (q1 : Rep G1 v d) (q2 : Rep G2 u d2) {k : Bool} (hk : cmpop op d d2 = some k)
    (h : Q (.bl k) H2) : rC op v u H2 Q := ⟨G2, d, d2, k, r2.sub, q1.mono s2.gs, q2, hk, h⟩
theorem sv_cmp {op : C2} (hu : X.A.units + 66 < cLine) (hm : behindInMarks (opC op) y = false) (ha : PE X x (tV T W cf a)) (hb : PE X y (tV T W cf b)) : PE X (.Compare x [opC op] [y] pos) (tV T W cf (.cmp op a b)) :=
  wkE (pe_cmpR (op_C hu op) ha hb hm) fun σ H Q ⟨G, e, r, q⟩ => ⟨G, e, r, RnG.bind q fun d e1 v H1 G1 _ r1 s1 q1 h1 => ⟨G1, e1, r1, RnG.bind h1 fun d2 e2 u H2 G2 _ r2 s2 q2 h2 => by
    obtain ⟨k, hk, h3⟩ := h2.liftB
    exact cmp_end r2 s2 q1 q2 hk (h3.here r2 (.bl k))⟩⟩
theorem st_cmp {op : C2} (hu : X.A.units + 66 < cLine) (hm : behindInMarks (opC op) y = false) (ha : PE X x (tV T W cf a)) (hb : PE X y (tV T W cf b)) : PT X (.Compare x [opC op] [y] pos) (tT T W cf (.cmp op a b)) :=
  wkT (pt_cmpR (op_C hu op) ha hb hm) fun σ H Q ⟨G, e, r, q⟩ => by
    have q : RnG IsK T W σ e G H (((ev cf a e).bind fun x e => (ev cf b e).bind fun y e => (lift (cmpop op x y) e).bind fun k e => .ok (.bl k) e).bind fun x e => lift (truthy x) e) Q := q
    have ea : ∀ r1 : R D, ((r1.bind fun x e => (ev cf b e).bind fun y e => (lift (cmpop op x y) e).bind fun k e => .ok (.bl k) e).bind fun x e => lift (truthy x) e) = r1.bind fun x e => (ev cf b e).bind fun y e => (lift (cmpop op x y) e).bind fun k e => .ok k e := by
      intro r1
      cases r1 with
      | ok d e1 =>
        show ((ev cf b e1).bind _).bind _ = (ev cf b e1).bind _
        cases ev cf b e1 with
        | ok d2 e2 =>
          show ((lift (cmpop op d d2) e2).bind _).bind _ = (lift (cmpop op d d2) e2).bind _
          cases cmpop op d d2 <;> rfl
        | ex _ _ _ => rfl
        | no => rfl
      | ex _ _ _ => rfl
      | no => rfl
    rw [ea] at q
    exact ⟨G, e, r, RnG.bind q fun d e1 v H1 G1 _ r1 s1 q1 h1 => ⟨G1, e1, r1, RnG.bind h1 fun d2 e2 u H2 G2 _ r2 s2 q2 h2 => by
      obtain ⟨k, hk, h3⟩ := h2.liftB
      exact cmp_end r2 s2 q1 q2 hk ⟨k, rfl, h3.here r2 rfl⟩⟩⟩
theorem st_plain (hp : plainE x = true) (ha : PE X x (tV T W cf a)) : PT X x (tT T W cf a) :=
  wkT (pt_truth ha fun w => plain_is hp _ w) fun σ H Q ⟨G, e, r, q⟩ => ⟨G, e, r, RnG.bind q fun d e1 v H1 G1 _ r1 s1 q1 h1 => by
    obtain ⟨k, hk, h3⟩ := h1.lift
    exact ⟨k, tru_of q1 r1.sub hk, h3.here r1 rfl⟩⟩
theorem sv_not (ha : PE X x (tV T W cf a)) : PE X (.UnaryOp .Not x pos) (tV T W cf (.not a)) :=
  wkE (pe_notT ha) fun σ H Q ⟨G, e, r, q⟩ => ⟨G, e, r, RnG.bind q fun d e1 v H1 G1 _ r1 s1 q1 h1 => by
    obtain ⟨k, hk, h3⟩ := h1.liftB
    exact ⟨k, tru_of q1 r1.sub hk, h3.here r1 (.bl _)⟩⟩
theorem st_not (ha : PT X x (tT T W cf a)) : PT X (.UnaryOp .Not x pos) (tT T W cf (.not a)) :=
  wkT (pt_not ha) fun σ H Q ⟨G, e, r, q⟩ => by
    have q : RnG IsK T W σ e G H (((ev cf a e).bind fun x e => (lift (truthy x) e).bind fun k e => .ok (.bl (!k)) e).bind fun x e => lift (truthy x) e) Q := q
    have ea : ∀ r1 : R D, ((r1.bind fun x e => (lift (truthy x) e).bind fun k e => .ok (.bl (!k)) e).bind fun x e => lift (truthy x) e) = (r1.bind fun x e => lift (truthy x) e).bind fun k e => .ok (!k) e := by
      intro r1
      cases r1 with
      | ok d e1 =>
        show ((lift (truthy d) e1).bind _).bind _ = (lift (truthy d) e1).bind _
        cases truthy d <;> rfl
      | ex _ _ _ => rfl
      | no => rfl
    rw [ea] at q
    exact ⟨G, e, r, RnG.bind q fun k e1 v H1 G1 _ r1 s1 q1 h1 => by
      cases q1
      exact h1.here r1 rfl⟩
theorem sv_ite (hc : PT X z (tT T W cf c)) (ha : PE X x (tV T W cf a)) (hb : PE X y (tV T W cf b)) : PE X (.IfExp z x y pos) (tV T W cf (.ite c a b)) :=
  wkE (pe_ifExp hc ha hb) fun σ H Q ⟨G, e, r, q⟩ => by
    have ea : ∀ r1 : R D, (r1.bind fun x e => (lift (truthy x) e).bind fun k e => if k = true then ev cf a e else ev cf b e) = (r1.bind fun x e => lift (truthy x) e).bind fun k e => if k = true then ev cf a e else ev cf b e := by
      intro r1
      cases r1 with
      | ok d e1 =>
        show (lift (truthy d) e1).bind _ = (lift (truthy d) e1).bind _
        rfl
      | ex _ _ _ => rfl
      | no => rfl
    have q : RnG Rep T W σ e G H ((ev cf c e).bind fun x e => (lift (truthy x) e).bind fun k e => if k = true then ev cf a e else ev cf b e) Q := q
    rw [ea] at q
    exact ⟨G, e, r, RnG.bind q fun k e1 v H1 G1 _ r1 s1 q1 h1 => by
      cases q1
      cases k with
      | true => exact ⟨G1, e1, r1, h1⟩
      | false => exact ⟨G1, e1, r1, h1⟩⟩
end
end Ev
end
section
namespace Ev
open PySem PySem.Spec L2
open PyProof.Rows hiding St
variable [KF]
section
variable {X : Cx} {T : XT} {W : St → XK} {cf : CF} {x y z : Expr} {xs : List Expr} {a b c as : E} {pos : Pos}
theorem sv_cmp2 {op op' : C2} (hu : X.A.units + 66 < cLine) (hm : lastMarks [opC op, opC op'] [y, z] = false) (ha : PE X x (tV T W cf a)) (hb : PE X y (tV T W cf b)) (hc : PE X z (tV T W cf c)) :
    PE X (.Compare x [opC op, opC op'] [y, z] pos) (tV T W cf (.cmp2 op op' a b c)) :=
  wkE (pe_chain (op_C hu op) (op_C hu op') ha hb hc hm) fun σ H Q ⟨G, e, r, q⟩ => ⟨G, e, r, RnG.bind q fun d e1 v H1 G1 _ r1 s1 q1 h1 => ⟨G1, e1, r1, RnG.bind h1 fun d2 e2 u H2 G2 _ r2 s2 q2 h2 => by
    obtain ⟨k, hk, h3⟩ := h2.liftB
    refine cmp_end r2 s2 q1 q2 hk ⟨k, rfl, ?_⟩
    cases k with
    | false => exact h3.here r2 (.bl _)
    | true =>
      exact ⟨G2, e2, r2, RnG.bind h3 fun d3 e3 w H3 G3 _ r3 s3 q3 h4 => by
        obtain ⟨k, hk, h5⟩ := h4.liftB
        exact cmp_end r3 s3 q2 q3 hk (h5.here r3 (.bl k))⟩⟩⟩
theorem st_cmp2 {op op' : C2} (hu : X.A.units + 66 < cLine) (hm : lastMarks [opC op, opC op'] [y, z] = false) (ha : PE X x (tV T W cf a)) (hb : PE X y (tV T W cf b)) (hc : PE X z (tV T W cf c)) :
    PT X (.Compare x [opC op, opC op'] [y, z] pos) (tT T W cf (.cmp2 op op' a b c)) :=
  wkT (pt_chain (op_C hu op) (op_C hu op') ha hb hc hm) fun σ H Q ⟨G, e, r, q⟩ => by
    have q : RnG IsK T W σ e G H (((ev cf a e).bind fun x e => (ev cf b e).bind fun y e => (lift (cmpop op x y) e).bind fun k e =>
      if k = true then (ev cf c e).bind fun z e => (lift (cmpop op' y z) e).bind fun k e => .ok (.bl k) e else .ok (.bl false) e).bind fun x e => lift (truthy x) e) Q := q
    have ea : ∀ r1 : R D, ((r1.bind fun x e => (ev cf b e).bind fun y e => (lift (cmpop op x y) e).bind fun k e =>
      if k = true then (ev cf c e).bind fun z e => (lift (cmpop op' y z) e).bind fun k e => .ok (.bl k) e else .ok (.bl false) e).bind fun x e => lift (truthy x) e) = r1.bind fun x e => (ev cf b e).bind fun y e => (lift (cmpop op x y) e).bind fun k e =>
      if k = true then (ev cf c e).bind fun z e => (lift (cmpop op' y z) e).bind fun k e => .ok k e else .ok false e := by
      intro r1
      cases r1 with
      | ok d e1 =>
        show ((ev cf b e1).bind _).bind _ = (ev cf b e1).bind _
        cases ev cf b e1 with
        | ok d2 e2 =>
          show ((lift (cmpop op d d2) e2).bind _).bind _ = (lift (cmpop op d d2) e2).bind _
          cases cmpop op d d2 with
          | none => rfl
          | some k =>
            cases k with
            | false => rfl
            | true =>
              show ((ev cf c e2).bind _).bind _ = (ev cf c e2).bind _
              cases ev cf c e2 with
              | ok d3 e3 =>
                show ((lift (cmpop op' d2 d3) e3).bind _).bind _ = (lift (cmpop op' d2 d3) e3).bind _
                cases cmpop op' d2 d3 <;> rfl
              | ex _ _ _ => rfl
              | no => rfl
        | ex _ _ _ => rfl
        | no => rfl
      | ex _ _ _ => rfl
      | no => rfl
    rw [ea] at q
    refine ⟨G, e, r, RnG.bind q fun d e1 v H1 G1 _ r1 s1 q1 h1 => ⟨G1, e1, r1, RnG.bind h1 fun d2 e2 u H2 G2 _ r2 s2 q2 h2 => ?_⟩⟩
    obtain ⟨k, hk, h3⟩ := h2.liftB
    refine cmp_end r2 s2 q1 q2 hk ⟨k, rfl, ?_⟩
    cases k with
    | false => exact ⟨false, rfl, h3.here r2 rfl⟩
    | true =>
      exact ⟨G2, e2, r2, RnG.bind h3 fun d3 e3 w H3 G3 _ r3 s3 q3 h4 => by
        obtain ⟨k, hk, h5⟩ := h4.liftB
        exact cmp_end r3 s3 q2 q3 hk ⟨k, rfl, h5.here r3 rfl⟩⟩
/-! ### lists of expressions -/
inductive SEs (X : Cx) (T : XT) (W : St → XK) (cf : CF) : List Expr → E → Prop where
  | nil : SEs X T W cf [] .nil
  | cons {x : Expr} {xs : List Expr} {a as : E} : starless x = true → PE X x (tV T W cf a) → PT X x (tT T W cf a) → SEs X T W cf xs as → SEs X T W cf (x :: xs) (.cons a as)
theorem sa_of (h : SEs X T W cf xs as) : PA X xs (tA T W cf as) := by
  induction h with
  | nil => exact wkA pa_nil fun σ H Q ⟨G, e, r, q⟩ => q.here r .nil
  | cons hs ha _ _ ih =>
    exact wkA (pa_cons ha ih (star_cons hs _ _)) fun σ H Q ⟨G, e, r, q⟩ => ⟨G, e, r, RnG.bind q fun d e1 v H1 G1 _ r1 s1 q1 h1 => ⟨G1, e1, r1, RnG.bind h1 fun ds e2 vs H2 G2 _ r2 s2 q2 h2 => h2.here r2 (.cons (q1.mono s2.gs) q2)⟩⟩
def tVB (T : XT) (W : St → XK) (cf : CF) (k : Bool) (x : E) : TE := fun σ H Q => ∃ G e, Rel H G σ e ∧ RnG Rep T W σ e G H (evB cf k x e) Q
def tTB (T : XT) (W : St → XK) (cf : CF) (k : Bool) (x : E) : TT := fun σ H Q => ∃ G e, Rel H G σ e ∧ RnG IsK T W σ e G H ((evB cf k x e).bind fun x e => lift (truthy x) e) Q
def opL (k : Bool) : BoolOp := if k = true then .And else .Or
theorem sv_bool {k : Bool} (h : SEs X T W cf xs as) (hn : xs ≠ []) : PE X (.BoolOp (opL k) xs pos) (tVB T W cf k as) := by
  induction h with
  | nil => exact (hn rfl).elim
  | @cons x xs a as hs ha hp ht ih =>
    cases ht with
    | nil =>
      exact wkE (pe_one ha) fun σ H Q ⟨G, e, r, q⟩ => ⟨G, e, r, RnG.bind q fun d e1 v H1 G1 _ r1 s1 q1 h1 => h1.here r1 q1⟩
    | @cons y ys b bs hs2 hb hp2 ht2 =>
      have ih := ih (fun z => nomatch z)
      have go : ∀ (σ : St) (H : Hp) (Q : VK), tVB T W cf k (.cons a (.cons b bs)) σ H Q → tV T W cf a σ H (fun v H1 => ∃ j, TruV X.K v H1 j ∧ if j = k then tVB T W cf k (.cons b bs) σ H1 Q else Q v H1) := by
        intro σ H Q ⟨G, e, r, q⟩
        refine ⟨G, e, r, RnG.bind q fun d e1 v H1 G1 _ r1 s1 q1 h1 => ?_⟩
        obtain ⟨j, hj, h3⟩ := RnG.liftB h1
        refine ⟨j, tru_of q1 r1.sub hj, ?_⟩
        by_cases hjk : j = k
        · rw [if_pos hjk] at h3 ⊢
          exact ⟨G1, e1, r1, h3⟩
        · rw [if_neg hjk] at h3 ⊢
          exact h3.here r1 q1
      cases k with
      | true =>
        refine wkE (pe_andT ha ih) fun σ H Q q => ?_
        obtain ⟨G, e, r, q⟩ := go σ H Q q
        exact ⟨G, e, r, q⟩
      | false =>
        refine wkE (pe_orT ha ih) fun σ H Q q => ?_
        obtain ⟨G, e, r, q⟩ := go σ H Q q
        refine ⟨G, e, r, ?_⟩
        cases hq : ev cf a e with
        | no => rw [hq] at q; exact q
        | ex c fs e' => rw [hq] at q; exact q
        | ok d e1 =>
          rw [hq] at q
          intro v H1 G1 r1 s1 q1
          obtain ⟨j, h1, h2⟩ := q v H1 G1 r1 s1 q1
          refine ⟨j, h1, ?_⟩
          cases j with
          | true => exact h2
          | false => exact h2
theorem st_bool {k : Bool} (h : SEs X T W cf xs as) (hn : xs ≠ []) : PW X (.BoolOp (opL k) xs pos) (tTB T W cf k as) := by
  induction h with
  | nil => exact (hn rfl).elim
  | @cons x xs a as hs ha hp ht ih =>
    have wkW : ∀ {w : Expr} {t t' : TT}, PW X w t → (∀ σ H Q, t' σ H Q → t σ H Q) → PW X w t' := fun h k => ⟨fun w pins s σ H Q I q => h.run w pins s σ H Q I (k σ H Q q)⟩
    have e0 : ∀ e, evB cf k (.cons a .nil) e = ev cf a e := fun e => by
      show (ev cf a e).bind (fun x e => .ok x e) = ev cf a e
      cases ev cf a e <;> rfl
    cases ht with
    | nil =>
      have go : ∀ (σ : St) (H : Hp) (Q : Bool → Hp → Prop), tTB T W cf k (.cons a .nil) σ H Q → tT T W cf a σ H Q := by
        intro σ H Q ⟨G, e, r, q⟩
        rw [e0] at q
        exact ⟨G, e, r, q⟩
      cases k with
      | true => exact wkW (pw_and1 hp) go
      | false => exact wkW (pw_or1 hp) go
    | @cons y ys b bs hs2 hb hp2 ht2 =>
      have ih := ih (fun z => nomatch z)
      have ea : ∀ r1 : R D, ((r1.bind fun x e => (lift (truthy x) e).bind fun j e => if j = k then evB cf k (.cons b bs) e else .ok x e).bind fun x e => lift (truthy x) e) =
          (r1.bind fun x e => lift (truthy x) e).bind fun j e => if j = k then (evB cf k (.cons b bs) e).bind (fun x e => lift (truthy x) e) else .ok j e := by
        intro r1
        cases r1 with
        | ok d e1 =>
          show ((lift (truthy d) e1).bind _).bind _ = (lift (truthy d) e1).bind _
          cases hd : truthy d with
          | none => rfl
          | some j =>
            show ((if j = k then evB cf k (.cons b bs) e1 else .ok d e1) : R D).bind _ = if j = k then (evB cf k (.cons b bs) e1).bind _ else .ok j e1
            by_cases hj : j = k
            · rw [if_pos hj, if_pos hj]
            · rw [if_neg hj, if_neg hj]
              show lift (truthy d) e1 = _
              rw [hd]
              rfl
        | ex _ _ _ => rfl
        | no => rfl
      have go : ∀ (σ : St) (H : Hp) (Q : Bool → Hp → Prop), tTB T W cf k (.cons a (.cons b bs)) σ H Q → tT T W cf a σ H (fun j H1 => if j = k then tTB T W cf k (.cons b bs) σ H1 Q else Q j H1) := by
        intro σ H Q ⟨G, e, r, q⟩
        have q : RnG IsK T W σ e G H (((ev cf a e).bind fun x e => (lift (truthy x) e).bind fun j e => if j = k then evB cf k (.cons b bs) e else .ok x e).bind fun x e => lift (truthy x) e) Q := q
        rw [ea] at q
        refine ⟨G, e, r, RnG.bind q fun j e1 v H1 G1 _ r1 s1 q1 h1 => ?_⟩
        cases q1
        by_cases hjk : j = k
        · rw [if_pos hjk] at h1 ⊢
          exact ⟨G1, e1, r1, h1⟩
        · rw [if_neg hjk] at h1 ⊢
          exact h1.here r1 rfl
      have mono : ∀ (σ : St) (H : Hp) (Q Q' : Bool → Hp → Prop), (∀ j H1, Q j H1 → Q' j H1) → tT T W cf a σ H Q → tT T W cf a σ H Q' := by
        intro σ H Q Q' hk ⟨G, e, r, q⟩
        refine ⟨G, e, r, ?_⟩
        cases hq : (ev cf a e).bind (fun x e => lift (truthy x) e) with
        | no => rw [hq] at q; exact q
        | ex c fs e' => rw [hq] at q; exact q
        | ok d e1 =>
          rw [hq] at q
          exact fun v H1 G1 r1 s1 q1 => hk _ _ (q v H1 G1 r1 s1 q1)
      cases k with
      | true =>
        refine wkW (pw_and hp ih) fun σ H Q q => mono σ H _ _ (fun j H1 h => ?_) (go σ H Q q)
        cases j <;> exact h
      | false =>
        refine wkW (pw_or hp ih) fun σ H Q q => mono σ H _ _ (fun j H1 h => ?_) (go σ H Q q)
        cases j <;> exact h
/-! ### displays -/
theorem sv_tup {k : Nat} (h : SEs X T W cf xs as) : PE X (.Tuple xs k pos) (tV T W cf (.tup as)) :=
  wkE (pe_tup (sa_of h)) fun σ H Q ⟨G, e, r, q⟩ => ⟨G, e, r, RnG.bind q fun ds e1 vs H1 G1 _ r1 s1 q1 h1 => by
    have h1 : RnG Rep T W σ e1 G1 H1 (if ds.length ≤ sizeLine then .ok (.tup ds) e1 else .no) Q := h1
    split at h1
    · next hl => exact ⟨by rw [q1.length]; exact hl, fun p hp => h1.newT r1 q1 hp⟩
    · exact h1.elim⟩
theorem sr_lst (h : SEs X T W cf xs as) : PE X (.List xs pos) (tEv T W cf true (.lst as)) :=
  wkE (pe_lst (sa_of h)) fun σ H Q ⟨G, e, r, q⟩ => ⟨G, e, r, Rn.bindR q fun ds e1 vs H1 G1 _ r1 s1 q1 h1 => by
    have h1 : Rn T W σ e1 G1 H1 (if ds.length ≤ sizeLine then .ok (.lst ds) e1 else .no) true Q := h1
    split at h1
    · next hl => exact ⟨by rw [q1.length]; exact hl, fun p hp => h1.newF r1 q1 hp⟩
    · exact h1.elim⟩
/-! ### subscripts, slices -/
theorem ix_item : IxR X (fun v u H Q => ∃ (G : Hp) (d k z : D), Same G H ∧ Rep G v d ∧ Rep G u k ∧ item d k = some z ∧ (∀ ks xs, d ≠ .dic ks xs) ∧ ∀ w, Rep G w z → Q w H) := by
  intro value slice pins s σ H v u w iv Q I rv ru h hs
  obtain ⟨G, d, k, z, sm, hd, hk, hz, nd, q⟩ := h
  have fd : ∀ (vs : List V) (ds : List D) (i : Int), RepA G vs ds → atI ds i = some z → ∃ w, atI vs i = some w ∧ Rep G w z := by
    intro vs ds i hA he
    unfold atI at he ⊢
    rw [Option.bind_eq_some_iff] at he
    obtain ⟨j, h1, h2⟩ := he
    obtain ⟨w, h3, h4⟩ := hA.get h2
    exact ⟨w, by rw [hA.length, h1]; exact h3, h4⟩
  cases hd with
  | lst ha hA => cases hk with
    | int i =>
      obtain ⟨w', h1, h2⟩ := fd _ _ i hA hz
      exact ix_list value slice pins s σ H _ _ w iv Q I rv ru ⟨_, _, i, w', rfl, rfl, .inl (.inl (sm _ _ ha)), h1, q w' h2⟩ hs
    | _ => cases hz
  | tup ha hA => cases hk with
    | int i =>
      obtain ⟨w', h1, h2⟩ := fd _ _ i hA hz
      exact ix_tup value slice pins s σ H _ _ w iv Q I rv ru ⟨_, _, i, w', rfl, rfl, .inl (.inl (sm _ _ ha)), h1, q w' h2⟩ hs
    | _ => cases hz
  | dic _ _ _ => exact (nd _ _ rfl).elim
  | _ => cases hk <;> cases hz
theorem orE {X : Cx} {x : Expr} {t1 t2 : TE} (h1 : PE X x t1) (h2 : PE X x t2) : PE X x (fun σ H Q => t1 σ H Q ∨ t2 σ H Q) := ⟨fun pins s σ H Q I q => q.elim (h1.run pins s σ H Q I) (h2.run pins s σ H Q I)⟩
abbrev keyOf (k : List Int) : List L2.Key := k.map Sum.inl
theorem keyOf_inj : ∀ {a b : List Int}, keyOf a = keyOf b → a = b
  | [], [], _ => rfl
  | [], _ :: _, h => by cases h
  | _ :: _, [], h => by cases h
  | x :: a, y :: b, h => by
    have h : (Sum.inl x : L2.Key) :: keyOf a = Sum.inl y :: keyOf b := h
    injection h with h1 h2
    injection h1 with h1
    rw [h1, keyOf_inj h2]
theorem keyOf_kV : ∀ k : List Int, (keyOf k).map kV = k.map V.int
  | [] => rfl
  | x :: k => by
    show V.int x :: (keyOf k).map kV = _
    rw [keyOf_kV k]
    rfl
theorem dget_rep {G : Hp} {z : D} {q : List Int} : ∀ {ks : List (List Int)} {vs : List V} {ds : List D}, RepA G vs ds → ks.length = vs.length → dget ks ds q = some z → ∃ v, valV ((ks.map fun k => k.map Sum.inl).zip vs) (keyOf q) = some v ∧ Rep G v z
  | [], _, _, _, _, h => by cases h
  | k :: ks, _, _, .nil, hl, _ => by cases hl
  | k :: ks, v :: vs, d :: ds, .cons r ra, hl, h => by
    rw [List.length_cons, List.length_cons, Nat.add_right_cancel_iff] at hl
    have h : ((((k, d) :: ks.zip ds).find? fun p => decide (p.1 = q)).map (·.2)) = some z := h
    show ∃ v', valV ((k.map Sum.inl, v) :: (ks.map fun k => k.map Sum.inl).zip vs) (keyOf q) = some v' ∧ _
    by_cases hk : k = q
    · rw [List.find?_cons_of_pos (by exact decide_eq_true hk)] at h
      cases h
      exact ⟨v, valV_pos (by rw [hk]), r⟩
    · rw [List.find?_cons_of_neg (by simpa using hk)] at h
      rw [valV_neg (fun z => hk (keyOf_inj z))]
      exact dget_rep ra hl h
theorem dget_at {H G : Hp} {a : Addr} {u : V} {vs : List V} {ks : List (List Int)} {ds ys : List D} {z : D} (sm : Same G H) (h : Rd H a (.dT ((ks.map fun k => k.map Sum.inl).zip vs))) (hl : ks.length = vs.length) (hA : RepA G vs ds) (hk : Rep G u (.tup ys)) (hz : ((ints? ys).bind fun k => dget ks ds k) = some z) : ∃ v, DGet H a u (some v) ∧ Rep G v z := by
  rw [Option.bind_eq_some_iff] at hz
  obtain ⟨k, h1, h2⟩ := hz
  obtain ⟨v, h3, h4⟩ := dget_rep hA hl h2
  cases hk with
  | @tup b us _ hb hB =>
    refine ⟨v, .inr ⟨_, keyOf k, b, h, rfl, ?_, h3.symm⟩, h4⟩
    rw [sm _ _ hb, hB.ints h1, keyOf_kV]
/-- a dict's entries, at both levels -/
inductive KR (G : Hp) : List (List Int × D) → List (List L2.Key × V) → Prop where
  | nil : KR G [] []
  | cons {k : List Int} {d : D} {v : V} {P : List (List Int × D)} {Q : List (List L2.Key × V)} : Rep G v d → KR G P Q → KR G ((k, d) :: P) ((keyOf k, v) :: Q)
theorem kr_zip {G : Hp} : ∀ {ks : List (List Int)} {vs : List V} {ds : List D}, RepA G vs ds → ks.length = vs.length → KR G (ks.zip ds) ((ks.map fun k => k.map Sum.inl).zip vs)
  | [], _, _, _, _ => .nil
  | k :: ks, _, _, .nil, hl => by cases hl
  | k :: ks, v :: vs, d :: ds, .cons r ra, hl => by
    rw [List.length_cons, List.length_cons, Nat.add_right_cancel_iff] at hl
    exact .cons r (kr_zip ra hl)
theorem KR.out {G : Hp} : ∀ {P : List (List Int × D)} {Q : List (List L2.Key × V)}, KR G P Q → ((P.map (·.1)).map fun k => k.map Sum.inl).zip (Q.map (·.2)) = Q ∧ (P.map (·.1)).length = (Q.map (·.2)).length ∧ RepA G (Q.map (·.2)) (P.map (·.2))
  | _, _, .nil => ⟨rfl, rfl, .nil⟩
  | _, _, .cons (k := k) (v := v) (P := P) (Q := Q) r h => by
    obtain ⟨h1, h2, h3⟩ := h.out
    refine ⟨?_, ?_, .cons r h3⟩
    · show (keyOf k, v) :: ((P.map (·.1)).map fun k => k.map Sum.inl).zip (Q.map (·.2)) = _
      rw [h1]
    · rw [List.map_cons, List.map_cons, List.length_cons, List.length_cons, h2]
theorem KR.any {G : Hp} (q : List Int) : ∀ {P : List (List Int × D)} {Q : List (List L2.Key × V)}, KR G P Q → (P.any fun p => decide (p.1 = q)) = Q.any fun p => decide (p.1 = keyOf q)
  | _, _, .nil => rfl
  | _, _, .cons (k := k) _ h => by
    rw [List.any_cons, List.any_cons, h.any q]
    congr 1
    by_cases e : k = q
    · rw [decide_eq_true e, e, decide_eq_true rfl]
    · rw [decide_eq_false e, decide_eq_false fun z => e (keyOf_inj z)]
theorem KR.snoc {G : Hp} {k : List Int} {d : D} {v : V} (r : Rep G v d) : ∀ {P : List (List Int × D)} {Q : List (List L2.Key × V)}, KR G P Q → KR G (P ++ [(k, d)]) (Q ++ [(keyOf k, v)])
  | _, _, .nil => .cons r .nil
  | _, _, .cons r' h => .cons r' (h.snoc r)
theorem KR.rep {G : Hp} {q : List Int} {d : D} {v : V} (r : Rep G v d) : ∀ {P : List (List Int × D)} {Q : List (List L2.Key × V)}, KR G P Q → KR G (P.map fun p => if p.1 = q then (p.1, d) else p) (Q.map fun p => if p.1 = keyOf q then (p.1, v) else p)
  | _, _, .nil => .nil
  | _, _, .cons (k := k) r' h => by
    rw [List.map_cons, List.map_cons]
    by_cases e : k = q
    · rw [if_pos e, if_pos (by rw [e])]
      exact .cons r (h.rep r)
    · rw [if_neg e, if_neg fun z => e (keyOf_inj z)]
      exact .cons r' (h.rep r)
theorem KR.put {G : Hp} {q : List Int} {d : D} {v : V} (r : Rep G v d) {P : List (List Int × D)} {Q : List (List L2.Key × V)} (h : KR G P Q) : KR G (dputP P q d) (putK Q (keyOf q) v) := by
  unfold dputP putK
  rw [h.any q]
  split
  · exact h.rep r
  · exact h.snoc r
theorem dput_rep {G : Hp} {k : List Int} {d : D} {v : V} {ks : List (List Int)} {vs : List V} {ds : List D} (r : Rep G v d) (hl : ks.length = vs.length) (ra : RepA G vs ds) : ∃ us, (.dT (putK ((ks.map fun k => k.map Sum.inl).zip vs) (keyOf k) v) : HO) = (dput ks ds k d).ho us ∧ RepO G us (dput ks ds k d) := by
  obtain ⟨h1, h2, h3⟩ := ((kr_zip ra hl).put (q := k) r).out
  exact ⟨_, congrArg HO.dT h1.symm, h2, h3⟩
theorem sv_ix (hu : X.A.units + 66 < cLine) (hp : PlainIx y) (ha : PE X x (tV T W cf a)) (hb : PE X y (tV T W cf b)) : PE X (.Subscript x y pos) (tV T W cf (.ix a b)) :=
  wkE (orE (pe_ix ix_item ha hb hp) (pe_dget (by omega) ha hb hp)) fun σ H Q ⟨G, e, r, q⟩ => by
    have q : RnG Rep T W σ e G H ((ev cf a e).bind fun x e => (ev cf b e).bind fun y e => lift (item x y) e) Q := q
    by_cases hd : ∃ ks xs e', ev cf a e = .ok (.dic ks xs) e'
    · obtain ⟨ks, xs, e0, he⟩ := hd
      refine .inr ⟨G, e, r, RnG.bind q fun d e1 v H1 G1 eq r1 s1 q1 h1 => ⟨G1, e1, r1, RnG.bind h1 fun d2 e2 u H2 G2 _ r2 s2 q2 h2 => ?_⟩⟩
      rw [he] at eq
      cases eq
      obtain ⟨z, hz, h3⟩ := h2.lift
      cases q1.mono s2.gs with
      | dic hg hl hA =>
        cases d2 with
        | tup ys =>
          obtain ⟨w, w1, w2⟩ := dget_at r2.sub (.inl (r2.sub _ _ hg)) hl hA q2 hz
          exact ⟨_, w, rfl, w1, h3.here r2 w2⟩
        | _ => cases hz
    · exact .inl ⟨G, e, r, RnG.bind q fun d e1 v H1 G1 eq r1 s1 q1 h1 => ⟨G1, e1, r1, RnG.bind h1 fun d2 e2 u H2 G2 _ r2 s2 q2 h2 => by
        obtain ⟨z, hz, h3⟩ := h2.lift
        refine ⟨G2, d, d2, z, r2.sub, q1.mono s2.gs, q2, hz, fun ks xs e => ?_, fun w hw => h3.here r2 hw⟩
        exact hd ⟨ks, xs, e1, by rw [eq, e]⟩⟩⟩
theorem Rel.seq {H G : Hp} {σ : St} {e : Env} {i : Nat} {xs : List D} (r : Rel H G σ e) (h : lstS (getS e i) = some xs) : ∃ p vs, σ[i]? = some (some (.ref p)) ∧ H p = some (.lst vs) ∧ RepA G vs xs := by
  cases hs : getS e i with
  | em => rw [hs] at h; cases h
  | ow ys =>
    rw [hs] at h
    cases ys with
    | d _ _ => cases h
    | l ys =>
      cases h
      obtain ⟨a, vs, z1, z2, _, z4⟩ := r.ow i (.l xs) (getS_some hs (fun z => nomatch z))
      exact ⟨a, vs, z1, z2, z4⟩
  | va d =>
    rw [hs] at h
    cases d with
    | lst ys =>
      cases h
      obtain ⟨v, z1, z2⟩ := r.va i _ (getS_some hs (fun z => nomatch z))
      cases z2 with
      | lst ha hA => exact ⟨_, _, z1, r.sub _ _ ha, hA⟩
    | _ => cases h
theorem Rel.dicS {H G : Hp} {σ : St} {e : Env} {i : Nat} {q : List (List Int) × List D} (r : Rel H G σ e) (h : dicS (getS e i) = some q) : ∃ p vs, σ[i]? = some (some (.ref p)) ∧ H p = some (.dT ((q.1.map fun k => k.map Sum.inl).zip vs)) ∧ q.1.length = vs.length ∧ RepA G vs q.2 := by
  cases hs : getS e i with
  | em => rw [hs] at h; cases h
  | ow ys =>
    rw [hs] at h
    cases ys with
    | l _ => cases h
    | d ks xs =>
      cases h
      obtain ⟨a, vs, z1, z2, _, z4⟩ := r.ow i (.d ks xs) (getS_some hs (fun z => nomatch z))
      exact ⟨a, vs, z1, z2, z4.1, z4.2⟩
  | va d =>
    rw [hs] at h
    cases d with
    | dic ks xs =>
      cases h
      obtain ⟨v, z1, z2⟩ := r.va i _ (getS_some hs (fun z => nomatch z))
      cases z2 with
      | dic ha hl hA => exact ⟨_, _, z1, r.sub _ _ ha, hl, hA⟩
    | _ => cases h
/-- of a list or dict of one's own, read by place -/
theorem sv_ixo {i : Nat} {n : Str} {np : Pos} (hu : X.A.units + 66 < cLine) (hN : X.N[i]? = some n) (hv : Vis X.env.scope n) (hd : (n == ("__debug__" : Str)) = false) (hcd : (n == ("__classdict__" : Str)) = false) (hp : PlainIx y) (hb : PE X y (tV T W cf b)) :
    PE X (.Subscript (.Name n np) y pos) (tV T W cf (.ixo i b)) :=
  wkE (orE (pe_ix ix_list (pe_var (X := X) hN hv hd hcd) hb hp) (pe_dget (by omega) (pe_var (X := X) hN hv hd hcd) hb hp)) fun σ H Q ⟨G, e, r, q⟩ => by
    have q : RnG Rep T W σ e G H (if isL (getS e i) = true then (ev cf b e).bind fun y e => (lift (lstS (getS e i)) e).bind fun xs e => match y with
      | .int j => lift (atI xs j) e
      | _ => .no else if isDc (getS e i) = true then (ev cf b e).bind fun y e => (lift (dicS (getS e i)) e).bind fun q e => match y with
      | .tup ys => lift ((ints? ys).bind fun k => dget q.1 q.2 k) e
      | _ => .no else .no) Q := q
    split at q
    · next hl =>
      obtain ⟨xs0, hx0⟩ := Option.isSome_iff_exists.mp hl
      obtain ⟨p, vs0, z1, _, _⟩ := r.seq hx0
      refine .inl ⟨.ref p, z1, G, e, r, RnG.bind q fun d e1 v H1 G1 _ r1 s1 q1 h1 => ?_⟩
      obtain ⟨xs, hx, h3⟩ := h1.liftB
      obtain ⟨p2, vs, y1, y2, y3⟩ := r1.seq hx
      cases q1 with
      | int j =>
        obtain ⟨z, hz, h4⟩ := h3.lift
        unfold atI at hz
        rw [Option.bind_eq_some_iff] at hz
        obtain ⟨m, m1, m2⟩ := hz
        obtain ⟨w, w1, w2⟩ := y3.get m2
        rw [z1] at y1
        cases y1
        refine ⟨_, vs, j, w, rfl, rfl, .inl (.inl y2), ?_, h4.here r1 w2⟩
        unfold atI
        rw [y3.length, m1]
        exact w1
      | _ => exact h3.elim
    · split at q
      · next hl =>
        obtain ⟨q0, hx0⟩ := Option.isSome_iff_exists.mp hl
        obtain ⟨p, vs0, z1, _, _, _⟩ := r.dicS hx0
        refine .inr ⟨.ref p, z1, G, e, r, RnG.bind q fun d e1 v H1 G1 _ r1 s1 q1 h1 => ?_⟩
        obtain ⟨q2, hx, h3⟩ := h1.liftB
        obtain ⟨p2, vs, y1, y2, y3, y4⟩ := r1.dicS hx
        rw [z1] at y1
        cases y1
        cases d with
        | tup ys =>
          obtain ⟨z, hz, h4⟩ := h3.lift
          obtain ⟨w, w1, w2⟩ := dget_at r1.sub (.inl y2) y3 y4 q1 hz
          exact ⟨_, w, rfl, w1, h4.here r1 w2⟩
        | _ => exact h3.elim
      · exact q.elim
/-! ### A or B, a new list either way -/
theorem tru_new {K : PySem.W.Frag} {G H : Hp} {p : Addr} {vs : List V} {ds : List D} (hp : H p = some (.lst vs)) (h : RepA G vs ds) : TruV K (.ref p) H (!ds.isEmpty) := .inl ⟨_, .inl (.inl hp), by cases h <;> rfl⟩
theorem sr_orf (ha : PE X x (tEv T W cf true a)) (hb : PE X y (tEv T W cf true b)) : PE X (.BoolOp .Or [x, y] pos) (tEv T W cf true (.orf a b)) :=
  wkE (pe_orT ha (pe_one hb)) fun σ H Q ⟨G, e, r, q⟩ => ⟨G, e, r, by
    have q : Rn T W σ e G H ((ev cf a e).bind fun x e => (lift (truthy x) e).bind fun k e => if k = true then .ok x e else ev cf b e) true Q := q
    cases hq : ev cf a e with
    | no => rw [hq] at q; exact q
    | ex c fs e' => rw [hq] at q; exact q
    | ok d e1 =>
      rw [hq] at q
      intro v H1 G1 r1 s1 q1
      have q1 : Fresh σ e e1 G1 H H1 v d := q1
      obtain ⟨p, vs, w, rfl, rfl, h0, h1, h2, h3, h4⟩ := q1
      cases w with
      | d _ _ => exact q.elim
      | l ds =>
      refine ⟨!ds.isEmpty, tru_new h1 h3, ?_⟩
      have q : Rn T W σ e G H (if (!ds.isEmpty) = true then .ok (.lst ds) e1 else ev cf b e1) true Q := q
      split at q
      · next hk =>
        rw [if_pos hk]
        exact q _ H1 G1 r1 s1 ⟨p, vs, .l ds, rfl, rfl, h0, h1, h2, h3, h4⟩
      · next hk =>
        rw [if_neg hk]
        refine ⟨G1, e1, r1, ?_⟩
        cases hq2 : ev cf b e1 with
        | no => rw [hq2] at q; exact q
        | ex c fs e' =>
          rw [hq2] at q
          exact fun d H2 G2 r2 s2 q2 => q d H2 G2 r2 (s1.trans s2) q2
        | ok y e2 =>
          rw [hq2] at q
          intro u H2 G2 r2 s2 q2
          refine q u H2 G2 r2 (s1.trans s2) ?_
          have q2 : Fresh σ e1 e2 G2 H1 H2 u y := q2
          obtain ⟨p2, vs2, ds2, f1, f2, f3, f4, f5, f6, f7⟩ := q2
          exact ⟨p2, vs2, ds2, f1, f2, s1.al _ f3, f4, f5, f6, f7⟩⟩
theorem ev_orf {e : Env} : ev cf (.orf a b) e = evB cf false (.cons a (.cons b .nil)) e := by
  have e0 : ∀ e, evB cf false (.cons b .nil) e = ev cf b e := fun e => by
    show (ev cf b e).bind (fun x e => .ok x e) = ev cf b e
    cases ev cf b e <;> rfl
  show _ = (ev cf a e).bind fun x e => (lift (truthy x) e).bind fun q e => if q = false then evB cf false (.cons b .nil) e else .ok x e
  show ((ev cf a e).bind fun x e => (lift (truthy x) e).bind fun k e => if k = true then .ok x e else ev cf b e) = _
  congr 1
  funext x e1
  congr 1
  funext k e2
  cases k with
  | true => rfl
  | false => exact (e0 e2).symm
/-! ### a < b < c < d -/
def tC3 (p1 p2 p3 : R2) (ta tb tc td : TE) : TT := fun σ H Q => ta σ H fun x H1 => tb σ H1 fun y H2 => p1 x y H2 fun j1 H3 => ∃ k, j1 = .bl k ∧
  if k = true then tc σ H3 fun z H4 => p2 y z H4 fun j2 H5 => ∃ k, j2 = .bl k ∧ (if k = true then td σ H5 fun w H6 => p3 z w H6 fun j3 H7 => ∃ k, j3 = .bl k ∧ Q k H7 else Q false H5) else Q false H3
theorem pe_c3 {o1 o2 o3 : CmpOp} {p1 p2 p3 : R2} {t1 t2 t3 t4 : TE} {u : Expr} (h1 : OpR X (compareOp o1) p1) (h2 : OpR X (compareOp o2) p2) (h3 : OpR X (compareOp o3) p3) (g1 : PE X x t1) (g2 : PE X y t2) (g3 : PE X z t3) (g4 : PE X u t4)
    (hm : lastMarks [o1, o2, o3] [y, z, u] = false) : PE X (.Compare x [o1, o2, o3] [y, z, u] pos) (fun σ H Q => tC3 p1 p2 p3 t1 t2 t3 t4 σ H fun k H' => Q (.bl k) H') := by
  constructor
  intro pins s σ H Q I h
  refine Compare_chain ?_ hm
  refine thn (g1.run pins s σ H _ I h) ?_
  rintro v1 s1 ⟨d1, H1, I1, r1, q1⟩
  refine chain_link (thn (g2.run pins s1 σ H1 _ I1 q1) ?_)
  rintro v2 s2 ⟨d2, H2, I2, r2, q2⟩
  refine thn (h1 pins s2 σ H2 d1 d2 v1 v2 _ I2 r1 r2 q2) ?_
  rintro c1 s3 ⟨_, H3, I3, e3, k, rfl, q3⟩
  cases e3
  refine wpAny_truthy_bool ?_
  cases k with
  | false => exact ite_ff ⟨.bl false, H3, I3, rfl, q3⟩
  | true =>
    refine ite_tt (chain_link (thn (g3.run pins s3 σ H3 _ I3 q3) ?_))
    rintro v3 s4 ⟨d3, H4, I4, r4, q4⟩
    refine thn (h2 pins s4 σ H4 d2 d3 v2 v3 _ I4 r2 r4 q4) ?_
    rintro c2 s5 ⟨_, H5, I5, e5, k, rfl, q5⟩
    cases e5
    refine wpAny_truthy_bool ?_
    cases k with
    | false => exact ite_ff ⟨.bl false, H5, I5, rfl, q5⟩
    | true =>
      refine ite_tt (chain_last (thn (g4.run pins s5 σ H5 _ I5 q5) ?_))
      rintro v4 s6 ⟨d4, H6, I6, r6, q6⟩
      refine thn (h3 pins s6 σ H6 d3 d4 v3 v4 _ I6 r4 r6 q6) ?_
      rintro c3 s7 ⟨_, H7, I7, e7, k, rfl, q7⟩
      exact ⟨_, H7, I7, e7, q7⟩
theorem pt_c3 {o1 o2 o3 : CmpOp} {p1 p2 p3 : R2} {t1 t2 t3 t4 : TE} {u : Expr} (h1 : OpR X (compareOp o1) p1) (h2 : OpR X (compareOp o2) p2) (h3 : OpR X (compareOp o3) p3) (g1 : PE X x t1) (g2 : PE X y t2) (g3 : PE X z t3) (g4 : PE X u t4)
    (hm : lastMarks [o1, o2, o3] [y, z, u] = false) : PT X (.Compare x [o1, o2, o3] [y, z, u] pos) (tC3 p1 p2 p3 t1 t2 t3 t4) := by
  constructor
  intro pins s σ H Q I h
  refine isTrue_chain ?_ hm
  refine thn (g1.run pins s σ H _ I h) ?_
  rintro v1 s1 ⟨d1, H1, I1, r1, q1⟩
  refine test_link (thn (g2.run pins s1 σ H1 _ I1 q1) ?_)
  rintro v2 s2 ⟨d2, H2, I2, r2, q2⟩
  refine thn (h1 pins s2 σ H2 d1 d2 v1 v2 _ I2 r1 r2 q2) ?_
  rintro c1 s3 ⟨_, H3, I3, e3, k, rfl, q3⟩
  cases e3
  refine wpAny_truthy_bool ?_
  cases k with
  | false => exact ite_ff ⟨H3, I3, q3⟩
  | true =>
    refine ite_tt (test_link (thn (g3.run pins s3 σ H3 _ I3 q3) ?_))
    rintro v3 s4 ⟨d3, H4, I4, r4, q4⟩
    refine thn (h2 pins s4 σ H4 d2 d3 v2 v3 _ I4 r2 r4 q4) ?_
    rintro c2 s5 ⟨_, H5, I5, e5, k, rfl, q5⟩
    cases e5
    refine wpAny_truthy_bool ?_
    cases k with
    | false => exact ite_ff ⟨H5, I5, q5⟩
    | true =>
      refine ite_tt (test_last (thn (g4.run pins s5 σ H5 _ I5 q5) ?_))
      rintro v4 s6 ⟨d4, H6, I6, r6, q6⟩
      refine thn (h3 pins s6 σ H6 d3 d4 v3 v4 _ I6 r4 r6 q6) ?_
      rintro c3 s7 ⟨_, H7, I7, e7, k, rfl, q7⟩
      cases e7
      exact wpAny_truthy_bool ⟨H7, I7, q7⟩
def chk3 (cf : CF) (o1 o2 o3 : C2) (a b c d : E) (e : Env) : R Bool := (ev cf a e).bind fun x e => (ev cf b e).bind fun y e => (lift (cmpop o1 x y) e).bind fun k e => if k = true then (ev cf c e).bind fun z e => (lift (cmpop o2 y z) e).bind fun k e =>
  if k = true then (ev cf d e).bind fun w e => lift (cmpop o3 z w) e else .ok false e else .ok false e
theorem c3_go {o1 o2 o3 : C2} {d : E} {σ : St} {e : Env} {G H : Hp} {Q : Bool → Hp → Prop} (r : Rel H G σ e) (q : RnG IsK T W σ e G H (chk3 cf o1 o2 o3 a b c d e) Q) : tC3 (rC o1) (rC o2) (rC o3) (tV T W cf a) (tV T W cf b) (tV T W cf c) (tV T W cf d) σ H Q :=
  ⟨G, e, r, RnG.bind q fun d e1 v H1 G1 _ r1 s1 q1 h1 => ⟨G1, e1, r1, RnG.bind h1 fun d2 e2 u H2 G2 _ r2 s2 q2 h2 => by
    obtain ⟨k, hk, h3⟩ := h2.liftB
    refine cmp_end r2 s2 q1 q2 hk ⟨k, rfl, ?_⟩
    cases k with
    | false => exact h3.here r2 rfl
    | true =>
      exact ⟨G2, e2, r2, RnG.bind h3 fun d3 e3 w H3 G3 _ r3 s3 q3 h4 => by
        obtain ⟨k, hk, h5⟩ := h4.liftB
        refine cmp_end r3 s3 q2 q3 hk ⟨k, rfl, ?_⟩
        cases k with
        | false => exact h5.here r3 rfl
        | true =>
          exact ⟨G3, e3, r3, RnG.bind h5 fun d4 e4 w4 H4 G4 _ r4 s4 q4 h6 => by
            obtain ⟨k, hk, h7⟩ := h6.lift
            exact cmp_end r4 s4 q3 q4 hk ⟨k, rfl, h7.here r4 rfl⟩⟩⟩⟩⟩
theorem bl_tru (r : R Bool) : ((r.bind fun k e => R.ok (D.bl k) e).bind fun x e => lift (truthy x) e) = r := by cases r <;> rfl
theorem sv_cmp3 {o1 o2 o3 : C2} {d : E} {u : Expr} (hu : X.A.units + 66 < cLine) (hm : lastMarks [opC o1, opC o2, opC o3] [y, z, u] = false) (ha : PE X x (tV T W cf a)) (hb : PE X y (tV T W cf b)) (hc : PE X z (tV T W cf c)) (hd : PE X u (tV T W cf d)) :
    PE X (.Compare x [opC o1, opC o2, opC o3] [y, z, u] pos) (tV T W cf (.cmp3 o1 o2 o3 a b c d)) :=
  wkE (pe_c3 (op_C hu o1) (op_C hu o2) (op_C hu o3) ha hb hc hd hm) fun σ H Q ⟨G, e, r, q⟩ => c3_go r (RnG.bind (r := chk3 cf o1 o2 o3 a b c d e) q fun k e1 k' H1 G1 _ r1 s1 q1 h1 => h1.here r1 (by cases q1; exact .bl _))
theorem st_cmp3 {o1 o2 o3 : C2} {d : E} {u : Expr} (hu : X.A.units + 66 < cLine) (hm : lastMarks [opC o1, opC o2, opC o3] [y, z, u] = false) (ha : PE X x (tV T W cf a)) (hb : PE X y (tV T W cf b)) (hc : PE X z (tV T W cf c)) (hd : PE X u (tV T W cf d)) :
    PT X (.Compare x [opC o1, opC o2, opC o3] [y, z, u] pos) (tT T W cf (.cmp3 o1 o2 o3 a b c d)) :=
  wkT (pt_c3 (op_C hu o1) (op_C hu o2) (op_C hu o3) ha hb hc hd hm) fun σ H Q ⟨G, e, r, q⟩ => c3_go r (by
    have q : RnG IsK T W σ e G H (((chk3 cf o1 o2 o3 a b c d e).bind fun k e => R.ok (D.bl k) e).bind fun x e => lift (truthy x) e) Q := q
    rw [bl_tru] at q
    exact q)
end
end Ev
end
section
namespace Ev
open PySem PySem.Spec L2
open PyProof.Rows hiding St
variable [KF]
/-- what comes of an operation: a thing that is there, or a new list, a new tuple -/
def Comes (G H : Hp) (z : D) (v : V) (H' : Hp) : Prop :=
  (H' = H ∧ Rep G v z) ∨ (∃ p vs ds, z = .lst ds ∧ v = .ref p ∧ H p = none ∧ H' = upd H p (.lst vs) ∧ RepA G vs ds) ∨ (∃ p vs ds, z = .tup ds ∧ v = .ref p ∧ H p = none ∧ H' = upd H p (.tup vs) ∧ RepA G vs ds)
section
variable {X : Cx} {T : XT} {W : St → XK} {cf : CF} {x y z : Expr} {xs : List Expr} {a b c as : E} {pos : Pos}
theorem RnG.comes {σ : St} {e : Env} {G H : Hp} {z : D} {v : V} {H' : Hp} {Q : VK} (h : RnG Rep T W σ e G H (.ok z e) Q) (r : Rel H G σ e) (c : Comes G H z v H') : Q v H' := by
  rcases c with ⟨rfl, q3⟩ | ⟨p, vs, ds, rfl, rfl, hp, rfl, q3⟩ | ⟨p, vs, ds, rfl, rfl, hp, rfl, q3⟩
  · exact h.here r q3
  · exact h.newL r q3 hp
  · exact h.newT r q3 hp
/-! ### slices -/
def tO (T : XT) (W : St → XK) (cf : CF) (x : E) : TO := fun σ H Q => ∃ G e, Rel H G σ e ∧ RnG IsK T W σ e G H (if isAbs x = true then .ok none e else optI (ev cf x e)) Q
theorem wkO {o : Option Expr} {t t' : TO} (h : PO X o t) (k : ∀ σ H Q, t' σ H Q → t σ H Q) : PO X o t' := ⟨fun pins s σ H Q I q => h.run pins s σ H Q I (k σ H Q q)⟩
theorem so_none : PO X none (tO T W cf .absent) := wkO po_none fun σ H Q ⟨G, e, r, q⟩ => by
  have q : RnG IsK T W σ e G H (.ok none e) Q := q
  exact q.here r rfl
theorem so_some (hn : isAbs a = false) (ha : PE X x (tV T W cf a)) : PO X (some x) (tO T W cf a) := wkO (po_some ha) fun σ H Q ⟨G, e, r, q⟩ => by
  rw [if_neg (by rw [hn]; exact Bool.false_ne_true)] at q
  refine ⟨G, e, r, ?_⟩
  cases hq : ev cf a e with
  | no => rw [hq] at q; exact q
  | ex c fs e' => rw [hq] at q; exact q
  | ok d e1 =>
    rw [hq] at q
    intro v H1 G1 r1 s1 q1
    cases q1 with
    | int i =>
      have q : RnG IsK T W σ e G H (.ok (some i) e1) Q := q
      exact ⟨i, rfl, q _ H1 G1 r1 s1 rfl⟩
    | _ => exact q.elim
theorem cut_whole {ds : List D} {lo hi : Option Int} (h : HT.sIx ds.length 0 lo = 0 ∧ HT.sIx ds.length ds.length hi = ds.length) : cutD ds lo hi = ds := by
  unfold cutD
  rw [h.1, h.2, List.drop_zero, Nat.sub_zero, List.take_length]
theorem sl_D (hk : X.K = KF.K) : SlR X (fun v lo hi H Q => ∃ (G : Hp) (d z : D), Same G H ∧ Rep G v d ∧ slice d lo hi = some z ∧ ∀ w H', Comes G H z w H' → Q w H') := by
  intro pins s σ H v u vl vu lo hi sl Q I rv hs pl pu h
  obtain ⟨G, d, z, sm, hd, hz, q⟩ := h
  cases hd with
  | lst ha hA =>
    exact sl_list pins s σ H _ u vl vu lo hi sl Q I rv hs pl pu ⟨_, _, rfl, .inl (.inl (sm _ _ ha)), fun p hp => q _ _ (.inr (.inl ⟨p, _, _, (Option.some.inj hz).symm, rfl, hp, rfl, hA.cut lo hi⟩))⟩
  | scr ha hA =>
    exact sl_list pins s σ H _ u vl vu lo hi sl Q I rv hs pl pu ⟨_, _, rfl, (by rw [hk]; exact Same.seq sm ha), fun p hp => q _ _ (.inr (.inl ⟨p, _, _, (Option.some.inj hz).symm, rfl, hp, rfl, hA.cut lo hi⟩))⟩
  | tup ha hA =>
    refine sl_tupA pins s σ H _ u vl vu lo hi sl Q I rv hs pl pu ⟨_, _, rfl, .inl (.inl (sm _ _ ha)), fun w => ?_, fun _ p hp => q _ _ (.inr (.inr ⟨p, _, _, (Option.some.inj hz).symm, rfl, hp, rfl, hA.cut lo hi⟩))⟩
    rw [hA.length] at w
    refine q _ _ (.inl ⟨rfl, ?_⟩)
    have ez := Option.some.inj hz
    rw [cut_whole w] at ez
    rw [← ez]
    exact .tup ha hA
  | _ => cases hz
theorem sv_sl (hk : X.K = KF.K) {lo hi : Option Expr} {p2 : Pos} (ha : PE X x (tV T W cf a)) (hl : PO X lo (tO T W cf b)) (hh : PO X hi (tO T W cf c)) : PE X (.Subscript x (.Slice lo hi none p2) pos) (tV T W cf (.sl a b c)) :=
  wkE (pe_slice (sl_D hk) ha hl hh) fun σ H Q ⟨G, e, r, q⟩ => ⟨G, e, r, RnG.bind q fun d e1 v H1 G1 _ r1 s1 q1 h1 => ⟨G1, e1, r1, RnG.bind h1 fun l e2 l' H2 G2 _ r2 s2 q2 h2 => ⟨G2, e2, r2, RnG.bind h2 fun h e3 h' H3 G3 _ r3 s3 q3 h3 => by
    cases q2
    cases q3
    obtain ⟨z, hz, h4⟩ := h3.lift
    exact ⟨G3, d, z, r3.sub, (q1.mono s2.gs).mono s3.gs, hz, fun w H' hw => h4.comes r3 hw⟩⟩⟩⟩
/-! ### built-ins of one argument -/
def biN : Bi → Str
  | .len => "len" | .abs => "abs" | .int => "int" | .list => "list" | .tuple => "tuple" | .all => "all" | .sum => "sum" | .min => "min" | .max => "max" | .any => "any"
def rBi (b : Bi) : List V → Hp → VK → Prop := fun vs H Q => ∃ (G : Hp) (v : V) (d z : D), vs = [v] ∧ Same G H ∧ Rep G v d ∧ builtin b d = some z ∧ ∀ w H', Comes G H z w H' → Q w H'
def biV : Bi → Value
  | .int => .type "int" | .list => .type "list" | .tuple => .type "tuple"
  | .len => .builtin "len" | .abs => .builtin "abs" | .all => .builtin "all" | .sum => .builtin "sum" | .min => .builtin "min" | .max => .builtin "max" | .any => .builtin "any"
theorem fold_min : ∀ (ns : List Int) (n : Int), ns.foldl min n ∈ n :: ns ∧ ∀ y ∈ n :: ns, ns.foldl min n ≤ y
  | [], n => ⟨List.mem_cons_self, fun y hy => by rw [List.mem_singleton.mp hy]; exact Int.le_refl _⟩
  | m :: ns, n => by
    obtain ⟨h1, h2⟩ := fold_min ns (min n m)
    refine ⟨?_, fun y hy => ?_⟩
    · rw [List.foldl_cons]
      rcases List.mem_cons.mp h1 with h | h
      · rw [h]
        by_cases hc : n ≤ m
        · rw [Int.min_eq_left hc]; exact List.mem_cons_self
        · rw [Int.min_eq_right (by omega)]; exact List.mem_cons_of_mem _ List.mem_cons_self
      · exact List.mem_cons_of_mem _ (List.mem_cons_of_mem _ h)
    · rw [List.foldl_cons]
      have h0 := h2 (min n m) List.mem_cons_self
      rcases List.mem_cons.mp hy with h | h
      · rw [h]; omega
      · rcases List.mem_cons.mp h with h | h
        · rw [h]; omega
        · exact h2 y (List.mem_cons_of_mem _ h)
theorem fold_max : ∀ (ns : List Int) (n : Int), ns.foldl max n ∈ n :: ns ∧ ∀ y ∈ n :: ns, y ≤ ns.foldl max n
  | [], n => ⟨List.mem_cons_self, fun y hy => by rw [List.mem_singleton.mp hy]; exact Int.le_refl _⟩
  | m :: ns, n => by
    obtain ⟨h1, h2⟩ := fold_max ns (max n m)
    refine ⟨?_, fun y hy => ?_⟩
    · rw [List.foldl_cons]
      rcases List.mem_cons.mp h1 with h | h
      · rw [h]
        by_cases hc : n ≤ m
        · rw [Int.max_eq_right hc]; exact List.mem_cons_of_mem _ List.mem_cons_self
        · rw [Int.max_eq_left (by omega)]; exact List.mem_cons_self
      · exact List.mem_cons_of_mem _ (List.mem_cons_of_mem _ h)
    · rw [List.foldl_cons]
      have h0 := h2 (max n m) List.mem_cons_self
      rcases List.mem_cons.mp hy with h | h
      · rw [h]; omega
      · rcases List.mem_cons.mp h with h | h
        · rw [h]; omega
        · exact h2 y (List.mem_cons_of_mem _ h)
theorem minOf_ok : ∀ (ns : List Int) (n : Int), PySem.W.minOf n ns ∈ n :: ns ∧ ∀ y ∈ n :: ns, PySem.W.minOf n ns ≤ y
  | [], n => ⟨List.mem_cons_self, fun y hy => by rw [List.mem_singleton.mp hy]; exact Int.le_refl _⟩
  | m :: ns, n => by
    have e : PySem.W.minOf n (m :: ns) = PySem.W.minOf (if m < n then m else n) ns := by
      show List.foldl _ (if decide (m < n) = true then m else n) ns = _
      rw [show (if decide (m < n) = true then m else n) = if m < n then m else n by by_cases h : m < n <;> simp [h]]
      rfl
    obtain ⟨h1, h2⟩ := minOf_ok ns (if m < n then m else n)
    rw [e]
    have h0 := h2 _ List.mem_cons_self
    have h3 : (if m < n then m else n) ≤ n ∧ (if m < n then m else n) ≤ m := by split <;> omega
    refine ⟨?_, fun y hy => ?_⟩
    · rcases List.mem_cons.mp h1 with h | h
      · rw [h]
        split
        · exact List.mem_cons_of_mem _ List.mem_cons_self
        · exact List.mem_cons_self
      · exact List.mem_cons_of_mem _ (List.mem_cons_of_mem _ h)
    · rcases List.mem_cons.mp hy with h | h
      · subst h
        exact Int.le_trans h0 h3.1
      · rcases List.mem_cons.mp h with h | h
        · subst h
          exact Int.le_trans h0 h3.2
        · exact h2 y (List.mem_cons_of_mem _ h)
theorem maxOf_ok : ∀ (ns : List Int) (n : Int), PySem.W.maxOf n ns ∈ n :: ns ∧ ∀ y ∈ n :: ns, y ≤ PySem.W.maxOf n ns
  | [], n => ⟨List.mem_cons_self, fun y hy => by rw [List.mem_singleton.mp hy]; exact Int.le_refl _⟩
  | m :: ns, n => by
    have e : PySem.W.maxOf n (m :: ns) = PySem.W.maxOf (if n < m then m else n) ns := by
      show List.foldl _ (if decide (n < m) = true then m else n) ns = _
      rw [show (if decide (n < m) = true then m else n) = if n < m then m else n by by_cases h : n < m <;> simp [h]]
      rfl
    obtain ⟨h1, h2⟩ := maxOf_ok ns (if n < m then m else n)
    rw [e]
    have h0 := h2 _ List.mem_cons_self
    have h3 : n ≤ (if n < m then m else n) ∧ m ≤ (if n < m then m else n) := by split <;> omega
    refine ⟨?_, fun y hy => ?_⟩
    · rcases List.mem_cons.mp h1 with h | h
      · rw [h]
        split
        · exact List.mem_cons_of_mem _ List.mem_cons_self
        · exact List.mem_cons_self
      · exact List.mem_cons_of_mem _ (List.mem_cons_of_mem _ h)
    · rcases List.mem_cons.mp hy with h | h
      · subst h
        exact Int.le_trans h3.1 h0
      · rcases List.mem_cons.mp h with h | h
        · subst h
          exact Int.le_trans h3.2 h0
        · exact h2 y (List.mem_cons_of_mem _ h)
theorem hold_ints {h : Heap} : ∀ {us : List Value} {ns : List Int}, IntsAre us ns → PySem.W.HoldAll h us ns
  | _, _, .nil => ⟨_, .nil⟩
  | _, _, .cons n t r => by
    obtain ⟨as, q⟩ := hold_ints (h := h) r
    exact ⟨_, .cons (.int n t) q⟩
theorem holds_int {h : Heap} {v : Value} {n : Int} (H : PySem.W.Holds h v n) : ∃ t, v = .int n t := by
  obtain ⟨as, r⟩ := H
  cases r
  exact ⟨_, rfl⟩
/-- min(t), max(t) of a tuple of ints -/
theorem cr_minT (hc : X.calm = true) (hu : X.A.units + 66 < cLine) : CallR X (.builtin "min") (fun vs H Q => ∃ (a : Addr) (ns : List Int), vs = [V.ref a] ∧ SqT X.K H a (ns.map V.int) ∧ 0 < ns.length ∧ ∀ m, m ∈ ns → (∀ y, y ∈ ns → m ≤ y) → Q (.int m) H) := by
  intro pins s σ H vs us Q I r h
  obtain ⟨a, ns, rfl, hs, hne, q⟩ := h
  obtain ⟨its, rv, hl, _⟩ := I.tuple hs
  rw [Vals.ref1 r]
  cases ns with
  | nil => cases hne
  | cons n ns =>
    refine PySem.W.min_tuple_datum (α := Int) (I.ok.hd hc) hl (hold_ints rv.ints) (show X.A.units + 1 + 0 < cLine by omega) fun i v h' tk hi hv hk => ?_
    obtain ⟨k, rfl⟩ := holds_int hv
    exact ⟨.int _, H, I.kept hk, ⟨_, rfl⟩, q _ (minOf_ok ns n).1 (minOf_ok ns n).2⟩
theorem cr_maxT (hc : X.calm = true) (hu : X.A.units + 66 < cLine) : CallR X (.builtin "max") (fun vs H Q => ∃ (a : Addr) (ns : List Int), vs = [V.ref a] ∧ SqT X.K H a (ns.map V.int) ∧ 0 < ns.length ∧ ∀ m, m ∈ ns → (∀ y, y ∈ ns → y ≤ m) → Q (.int m) H) := by
  intro pins s σ H vs us Q I r h
  obtain ⟨a, ns, rfl, hs, hne, q⟩ := h
  obtain ⟨its, rv, hl, _⟩ := I.tuple hs
  rw [Vals.ref1 r]
  cases ns with
  | nil => cases hne
  | cons n ns =>
    refine PySem.W.max_tuple_datum (α := Int) (I.ok.hd hc) hl (hold_ints rv.ints) (show X.A.units + 1 + 0 < cLine by omega) fun i v h' tk hi hv hk => ?_
    obtain ⟨k, rfl⟩ := holds_int hv
    exact ⟨.int _, H, I.kept hk, ⟨_, rfl⟩, q _ (maxOf_ok ns n).1 (maxOf_ok ns n).2⟩
theorem call_Bi (hc : X.calm = true) (hu : X.A.units + 66 < cLine) (b : Bi) : CallR X (biV b) (rBi b) := by
  intro pins s σ H vs us Q I rv h
  obtain ⟨G, v, d, z, rfl, sm, hd, hz, q⟩ := h
  have scal : ∀ (w : V) (z' : D), z = z' → Rep G w z' → Q w H := fun w z' e1 r => q w H (.inl ⟨rfl, e1 ▸ r⟩)
  cases b with
  | len =>
    cases hd with
    | lst ha hA =>
      refine call_len_seq pins s σ H _ us Q I rv ⟨_, _, rfl, .inl (.inl (.inl (sm _ _ ha))), ?_⟩
      rw [hA.length]
      exact scal _ _ (Option.some.inj hz).symm (.int _)
    | tup ha hA =>
      refine call_len_seq pins s σ H _ us Q I rv ⟨_, _, rfl, .inr (.inl (.inl (sm _ _ ha))), ?_⟩
      rw [hA.length]
      exact scal _ _ (Option.some.inj hz).symm (.int _)
    | _ => cases hz
  | abs =>
    cases hd with
    | int i => exact call_abs pins s σ H _ us Q I rv ⟨i, rfl, scal _ _ (Option.some.inj hz).symm (.int _)⟩
    | _ => cases hz
  | int =>
    cases hd with
    | int i => exact call_int1 pins s σ H _ us Q I rv (.inl ⟨i, rfl, scal _ _ (Option.some.inj hz).symm (.int _)⟩)
    | bl k => exact call_int1 pins s σ H _ us Q I rv (.inr ⟨k, rfl, scal _ _ (Option.some.inj hz).symm (.int _)⟩)
    | _ => cases hz
  | list =>
    cases hd with
    | lst ha hA => exact call_list_of pins s σ H _ us Q I rv ⟨_, _, rfl, .inl (.inl (.inl (sm _ _ ha))), fun l hl => q _ _ (.inr (.inl ⟨l, _, _, (Option.some.inj hz).symm, rfl, hl, rfl, hA⟩))⟩
    | tup ha hA => exact call_list_of pins s σ H _ us Q I rv ⟨_, _, rfl, .inr (.inl (.inl (sm _ _ ha))), fun l hl => q _ _ (.inr (.inl ⟨l, _, _, (Option.some.inj hz).symm, rfl, hl, rfl, hA⟩))⟩
    | _ => cases hz
  | tuple =>
    cases hd with
    | lst ha hA => exact call_tuple_of pins s σ H _ us Q I rv ⟨_, _, rfl, .inl ⟨.inl (.inl (sm _ _ ha)), fun l hl => q _ _ (.inr (.inr ⟨l, _, _, (Option.some.inj hz).symm, rfl, hl, rfl, hA⟩))⟩⟩
    | tup ha hA => exact call_tuple_of pins s σ H _ us Q I rv ⟨_, _, rfl, .inr ⟨.inl (.inl (sm _ _ ha)), scal _ _ (Option.some.inj hz).symm (.tup ha hA)⟩⟩
    | _ => cases hz
  | all =>
    cases hd with
    | lst ha hA =>
      have hz : (bools? _).map (fun bs => D.bl (bs.all id)) = some z := hz
      rw [Option.map_eq_some_iff] at hz
      obtain ⟨bs, h1, h2⟩ := hz
      have e1 := hA.bools h1
      subst e1
      exact cr_all hc pins s σ H _ us Q I rv ⟨_, bs, rfl, .inl (.inl (sm _ _ ha)), scal _ _ h2.symm (.bl _)⟩
    | _ => cases hz
  | sum =>
    cases hd with
    | lst ha hA =>
      have hz : (ints? _).map (fun ns => D.int ns.sum) = some z := hz
      rw [Option.map_eq_some_iff] at hz
      obtain ⟨ns, h1, h2⟩ := hz
      have e1 := hA.ints h1
      subst e1
      exact cr_sum hc pins s σ H _ us Q I rv ⟨_, ns, rfl, .inl (.inl (sm _ _ ha)), scal _ _ h2.symm (.int _)⟩
    | _ => cases hz
  | min =>
    cases hd with
    | lst ha hA =>
      have hz : (ints? _).bind minI = some z := hz
      obtain ⟨ns, h1, h2⟩ := Option.bind_eq_some_iff.mp hz
      have e1 := hA.ints h1
      subst e1
      cases ns with
      | nil => cases h2
      | cons n ns =>
        refine cr_min hc pins s σ H _ us Q I rv ⟨_, n :: ns, rfl, .inl (.inl (sm _ _ ha)), by rw [List.length_cons]; omega, fun m hm hle => scal _ _ (Option.some.inj h2).symm ?_⟩
        have e2 : ns.foldl min n = m := by
          have := fold_min ns n
          have h3 := hle _ this.1
          have h4 := this.2 m hm
          omega
        rw [e2]
        exact .int m
    | tup ha hA =>
      have hz : (ints? _).bind minI = some z := hz
      obtain ⟨ns, h1, h2⟩ := Option.bind_eq_some_iff.mp hz
      have e1 := hA.ints h1
      subst e1
      cases ns with
      | nil => cases h2
      | cons n ns =>
        refine cr_minT hc hu pins s σ H _ us Q I rv ⟨_, n :: ns, rfl, .inl (.inl (sm _ _ ha)), by rw [List.length_cons]; omega, fun m hm hle => scal _ _ (Option.some.inj h2).symm ?_⟩
        have e2 : ns.foldl min n = m := by
          have := fold_min ns n
          have h3 := hle _ this.1
          have h4 := this.2 m hm
          omega
        rw [e2]
        exact .int m
    | _ => cases hz
  | max =>
    cases hd with
    | lst ha hA =>
      have hz : (ints? _).bind maxI = some z := hz
      obtain ⟨ns, h1, h2⟩ := Option.bind_eq_some_iff.mp hz
      have e1 := hA.ints h1
      subst e1
      cases ns with
      | nil => cases h2
      | cons n ns =>
        refine cr_max hc pins s σ H _ us Q I rv ⟨_, n :: ns, rfl, .inl (.inl (sm _ _ ha)), by rw [List.length_cons]; omega, fun m hm hle => scal _ _ (Option.some.inj h2).symm ?_⟩
        have e2 : ns.foldl max n = m := by
          have := fold_max ns n
          have h3 := hle _ this.1
          have h4 := this.2 m hm
          omega
        rw [e2]
        exact .int m
    | tup ha hA =>
      have hz : (ints? _).bind maxI = some z := hz
      obtain ⟨ns, h1, h2⟩ := Option.bind_eq_some_iff.mp hz
      have e1 := hA.ints h1
      subst e1
      cases ns with
      | nil => cases h2
      | cons n ns =>
        refine cr_maxT hc hu pins s σ H _ us Q I rv ⟨_, n :: ns, rfl, .inl (.inl (sm _ _ ha)), by rw [List.length_cons]; omega, fun m hm hle => scal _ _ (Option.some.inj h2).symm ?_⟩
        have e2 : ns.foldl max n = m := by
          have := fold_max ns n
          have h3 := hle _ this.1
          have h4 := this.2 m hm
          omega
        rw [e2]
        exact .int m
    | _ => cases hz
  | any =>
    cases hd with
    | lst ha hA =>
      have hz : (bools? _).map (fun bs => D.bl (bs.any id)) = some z := hz
      rw [Option.map_eq_some_iff] at hz
      obtain ⟨bs, h1, h2⟩ := hz
      have e1 := hA.bools h1
      subst e1
      exact cr_any hc pins s σ H _ us Q I rv ⟨_, bs, rfl, .inl (.inl (sm _ _ ha)), scal _ _ h2.symm (.bl _)⟩
    | _ => cases hz
theorem boot_Bi (b : Bi) : (∃ id, biV b = .builtin id ∧ bootBuiltins (biN b) = some (.builtin id)) ∨ (∃ id, biV b = .type id ∧ bootBuiltins (biN b) = some (.type id)) := by
  cases b with
  | len => exact .inl ⟨_, rfl, PySem.boot_len⟩
  | abs => exact .inl ⟨_, rfl, PyProof.Rows.boot_abs⟩
  | int => exact .inr ⟨_, rfl, PyProof.Rows.boot_int⟩
  | list => exact .inr ⟨_, rfl, PyProof.Rows.boot_list⟩
  | tuple => exact .inr ⟨_, rfl, PyProof.Rows.boot_tuple⟩
  | all => exact .inl ⟨_, rfl, PyProof.Rows.boot_all⟩
  | sum => exact .inl ⟨_, rfl, PyProof.Rows.boot_sum⟩
  | min => exact .inl ⟨_, rfl, PyProof.Rows.boot_min⟩
  | max => exact .inl ⟨_, rfl, PyProof.Rows.boot_max⟩
  | any => exact .inl ⟨_, rfl, PyProof.Rows.boot_any⟩
theorem biN_ne (b : Bi) : biN b ≠ ("__name__" : Str) ∧ (biN b == ("__debug__" : Str)) = false := by
  cases b <;> exact ⟨by decide, by decide⟩
theorem pe_Bi (hc : X.calm = true) (hu : X.A.units + 66 < cLine) (b : Bi) (hg : Gl X (biN b)) (hm : X.mg (biN b) = none) {t : TA} {p : Pos} (ha : PA X [x] t) (hs : starless x = true) : PE X (.Call (.Name (biN b) p) [x] [] pos) (tCB (rBi b) t) := by
  have hcr := call_Bi hc hu b
  rcases boot_Bi b with ⟨id, e1, e2⟩ | ⟨id, e1, e2⟩
  · rw [e1] at hcr
    exact pe_callB hcr hg hm e2 ha (biN_ne b).1 (biN_ne b).2 (star_cons hs _ _) rfl
  · rw [e1] at hcr
    exact pe_callTy hcr hg hm e2 ha (biN_ne b).1 (biN_ne b).2 (star_cons hs _ _) rfl
theorem sv_bi (hc : X.calm = true) (hu : X.A.units + 66 < cLine) (b : Bi) (hg : Gl X (biN b)) (hm : X.mg (biN b) = none) {p : Pos} (hs : starless x = true) (ha : PE X x (tV T W cf a)) : PE X (.Call (.Name (biN b) p) [x] [] pos) (tV T W cf (.bi b a)) :=
  wkE (pe_Bi hc hu b hg hm (pa_cons ha pa_nil (star_cons hs _ _)) hs) fun σ H Q ⟨G, e, r, q⟩ => ⟨G, e, r, RnG.bind q fun d e1 v H1 G1 _ r1 s1 q1 h1 => by
    obtain ⟨z, hz, h4⟩ := h1.lift
    exact ⟨G1, v, d, z, rfl, r1.sub, q1, hz, fun w H' hw => h4.comes r1 hw⟩⟩
theorem call_Lst : CallR X (.type "list") (fun vs H Q => ∃ (G : Hp) (v : V) (d : D) (ds : List D), vs = [v] ∧ Same G H ∧ Rep G v d ∧ builtin .list d = some (.lst ds) ∧ ∀ p us, H p = none → RepA G us ds → Q (.ref p) (upd H p (.lst us))) := by
  intro pins s σ H vs us Q I rv h
  obtain ⟨G, v, d, ds, rfl, sm, hd, hz, q⟩ := h
  cases hd with
  | lst ha hA =>
    cases hz
    exact call_list_of pins s σ H _ us Q I rv ⟨_, _, rfl, .inl (.inl (.inl (sm _ _ ha))), fun l hl => q _ _ hl hA⟩
  | tup ha hA =>
    cases hz
    exact call_list_of pins s σ H _ us Q I rv ⟨_, _, rfl, .inr (.inl (.inl (sm _ _ ha))), fun l hl => q _ _ hl hA⟩
  | _ => cases hz
theorem sr_list (hg : Gl X "list") (hm : X.mg "list" = none) {p : Pos} (hs : starless x = true) (ha : PE X x (tV T W cf a)) : PE X (.Call (.Name "list" p) [x] [] pos) (tEv T W cf true (.bi .list a)) :=
  wkE (pe_callTy call_Lst hg hm PyProof.Rows.boot_list (pa_cons ha pa_nil (star_cons hs _ _)) (biN_ne .list).1 (biN_ne .list).2 (star_cons hs _ _) rfl) fun σ H Q ⟨G, e, r, q⟩ => ⟨G, e, r, Rn.bindR q fun d e1 v H1 G1 _ r1 s1 q1 h1 => by
    have h1 : Rn T W σ e1 G1 H1 (lift (builtin .list d) e1) true Q := h1
    cases hz : builtin .list d with
    | none => rw [hz] at h1; exact h1.elim
    | some z =>
      rw [hz] at h1
      have h1 : Rn T W σ e1 G1 H1 (.ok z e1) true Q := h1
      have hl : ∃ ds, z = .lst ds := by
        cases q1 <;> first | exact ⟨_, (Option.some.inj hz).symm⟩ | cases hz
      obtain ⟨ds, rfl⟩ := hl
      exact ⟨G1, v, d, ds, rfl, r1.sub, q1, hz, fun p us hp hA => h1.newF r1 hA hp⟩⟩
/-- len of a list of one's own -/
theorem sv_leno {i : Nat} {n : Str} {np p : Pos} (hN : X.N[i]? = some n) (hv : Vis X.env.scope n) (hd : (n == ("__debug__" : Str)) = false) (hcd : (n == ("__classdict__" : Str)) = false) (hg : Gl X "len") (hm : X.mg "len" = none) :
    PE X (.Call (.Name "len" p) [.Name n np] [] pos) (tV T W cf (.leno i)) :=
  wkE (pe_callB call_len_seq hg hm PySem.boot_len (pa_cons (pe_var (X := X) hN hv hd hcd) pa_nil rfl) (biN_ne .len).1 (biN_ne .len).2 rfl rfl) fun σ H Q ⟨G, e, r, q⟩ => by
    have q : RnG Rep T W σ e G H ((lift (lstS (getS e i)) e).bind fun xs e => .ok (.int xs.length) e) Q := q
    obtain ⟨xs, hx, h3⟩ := q.liftB
    obtain ⟨a, vs, z1, z2, z3⟩ := r.seq hx
    refine ⟨.ref a, z1, a, vs, rfl, .inl (.inl (.inl z2)), ?_⟩
    rw [z3.length]
    exact h3.here r (.int _)
/-! ### isinstance -/
def tyN : Ty → String
  | .list => "list" | .tuple => "tuple" | .int => "int" | .bool => "bool" | .str => "str"
def dN : D → String
  | .non => "NoneType" | .bl _ => "bool" | .int _ => "int" | .str _ => "str" | .lst _ => "list" | .tup _ => "tuple" | .scr _ => "" | .err _ _ _ => "" | .dic _ _ => ""
theorem kit_aux (n : String) (f : Ty → Bool) (h : ([Ty.list, .tuple, .int, .bool, .str].all fun t => decide (kitB n (tyN t) = some (f t))) = true) (K : PySem.W.Frag) (t : Ty) : PySem.W.kitOne K (.type n) (.type (tyN t)) = some (f t) := by
  rw [List.all_eq_true] at h
  exact kit_ty (of_decide_eq_true (h t (by cases t <;> simp)))
theorem kit_D (K : PySem.W.Frag) (d : D) (t : Ty) (h : noScr d = true) : PySem.W.kitOne K (.type (dN d)) (.type (tyN t)) = some (isTy t d) := by
  cases d with
  | scr _ => cases h
  | err _ _ _ => cases h
  | dic _ _ => cases h
  | non => exact (kit_aux "NoneType" (fun _ => false) (by decide +kernel) K t).trans (by cases t <;> rfl)
  | bl b => exact (kit_aux "bool" (fun t => t == .int || t == .bool) (by decide +kernel) K t).trans (by cases t <;> rfl)
  | int i => exact (kit_aux "int" (fun t => t == .int) (by decide +kernel) K t).trans (by cases t <;> rfl)
  | str x => exact (kit_aux "str" (fun t => t == .str) (by decide +kernel) K t).trans (by cases t <;> rfl)
  | lst _ => exact (kit_aux "list" (fun t => t == .list) (by decide +kernel) K t).trans (by cases t <;> rfl)
  | tup _ => exact (kit_aux "tuple" (fun t => t == .tuple) (by decide +kernel) K t).trans (by cases t <;> rfl)
theorem Rep.tyx {K : PySem.W.Frag} {G H : Hp} {v : V} {d : D} (r : Rep G v d) (s : Same G H) (h : noScr d = true) : TyX K H v (.type (dN d)) := by
  cases r with
  | non => exact .base .non
  | bl b => exact .base (.bl b)
  | int i => exact .base (.int i)
  | str x => exact .base (.str x)
  | lst ha _ => exact .base (.lst (s _ _ ha))
  | tup ha _ => exact .base (.tup (s _ _ ha))
  | scr _ _ => cases h
  | err _ _ _ _ _ => cases h
  | dic _ _ _ => cases h
theorem boot_ty (t : Ty) : bootBuiltins (Str.ofString (tyN t)) = some (.type (tyN t)) ∧ Str.ofString (tyN t) ≠ ("__name__" : Str) ∧ (Str.ofString (tyN t) == ("__debug__" : Str)) = false := by
  cases t <;> exact ⟨by decide +kernel, by decide, by decide⟩
theorem pe_ty {t : Ty} {p : Pos} (hg : Gl X (Str.ofString (tyN t))) (hm : X.mg (Str.ofString (tyN t)) = none) : PE X (.Name (Str.ofString (tyN t)) p) (tC (.ty (tyN t))) :=
  pe_bltn hg hm (boot_ty t).1 rfl (boot_ty t).2.1 (boot_ty t).2.2
theorem isi_ne : ("isinstance" : Str) ≠ ("__name__" : Str) ∧ (("isinstance" : Str) == ("__debug__" : Str)) = false := ⟨by decide, by decide⟩
theorem sv_isi {t : Ty} {p p2 : Pos} (hg : Gl X "isinstance") (hm : X.mg "isinstance" = none) (hg2 : Gl X (Str.ofString (tyN t))) (hm2 : X.mg (Str.ofString (tyN t)) = none) (hs : starless x = true) (ha : PE X x (tV T W cf a)) :
    PE X (.Call (.Name "isinstance" p) [x, .Name (Str.ofString (tyN t)) p2] [] pos) (tV T W cf (.isi a t)) :=
  wkE (pe_callB call_isi hg hm PyProof.Rows.boot_isinstance (pa_cons ha (pa_cons (pe_ty hg2 hm2) pa_nil rfl) (star_cons hs _ _)) isi_ne.1 isi_ne.2 (star_cons hs _ _) rfl) fun σ H Q ⟨G, e, r, q⟩ => ⟨G, e, r, RnG.bind q fun d e1 v H1 G1 _ r1 s1 q1 h1 => by
    have h1 : RnG Rep T W σ e1 G1 H1 (if noScr d = true then .ok (.bl (isTy t d)) e1 else .no) Q := h1
    split at h1
    · next hn => exact ⟨v, .ty (tyN t), _, _, _, rfl, .ty _, q1.tyx r1.sub hn, kit_D _ d t hn, h1.here r1 (.bl _)⟩
    · exact h1.elim⟩
/-- the names of the types, in a tuple -/
def tyE (X : Cx) : List Expr → List Ty → Prop
  | [], [] => True
  | .Name n _ :: xs, t :: ts => n = Str.ofString (tyN t) ∧ Gl X n ∧ X.mg n = none ∧ tyE X xs ts
  | _, _ => False
def tTys (ts : List Ty) : TA := fun _ H Q => Q (ts.map fun t => .ty (tyN t)) H
theorem pa_tys : ∀ {xs : List Expr} {ts : List Ty}, tyE X xs ts → PA X xs (tTys ts)
  | [], [], _ => wkA pa_nil fun σ H Q q => q
  | .Name n p :: xs, t :: ts, h => by
    obtain ⟨e1, h1, h2, h3⟩ := h
    subst e1
    exact wkA (pa_cons (pe_ty h1 h2) (pa_tys h3) rfl) fun σ H Q q => q
  | [], _ :: _, h => h.elim
  | .Name _ _ :: _, [], h => h.elim
theorem kit_Ds (K : PySem.W.Frag) (d : D) (h : noScr d = true) : ∀ ts : List Ty, PySem.W.kitAny K (.type (dN d)) (ts.map fun t => Value.type (tyN t)) = some (ts.any fun t => isTy t d)
  | [] => kitAny_nil
  | t :: ts => by
    rw [List.map_cons, List.any_cons]
    refine kitAny_cons (kit_D K d t h) (fun hb => ?_) fun hb => ?_
    · rw [hb, Bool.false_or]
      exact kit_Ds K d h ts
    · rw [hb, Bool.true_or]
theorem cls_tys : ∀ ts : List Ty, Paired ClsV (ts.map fun t => V.ty (tyN t)) (ts.map fun t => Value.type (tyN t))
  | [] => .nil
  | t :: ts => .cons (.ty _) (cls_tys ts)
theorem sv_isis {ts : List Ty} {p p2 : Pos} {k : Nat} (hg : Gl X "isinstance") (hm : X.mg "isinstance" = none) (ht : tyE X xs ts) (hl : ts.length ≤ 8) (hs : starless x = true) (ha : PE X x (tV T W cf a)) :
    PE X (.Call (.Name "isinstance" p) [x, .Tuple xs k p2] [] pos) (tV T W cf (.isis a ts)) :=
  wkE (pe_callB call_isiT hg hm PyProof.Rows.boot_isinstance (pa_cons ha (pa_cons (pe_tup (pa_tys ht)) pa_nil rfl) (star_cons hs _ _)) isi_ne.1 isi_ne.2 (star_cons hs _ _) rfl) fun σ H Q ⟨G, e, r, q⟩ => ⟨G, e, r, RnG.bind q fun d e1 v H1 G1 _ r1 s1 q1 h1 => by
    have h1 : RnG Rep T W σ e1 G1 H1 (if noScr d = true then .ok (.bl (ts.any fun t => isTy t d)) e1 else .no) Q := h1
    split at h1
    · next hn =>
      refine ⟨by rw [List.length_map]; exact Nat.le_trans hl (by decide), fun tp hp => ?_⟩
      obtain ⟨r2, s2⟩ := r1.lay (o := .tup (ts.map fun t => V.ty (tyN t))) hp
      exact ⟨v, tp, _, _, _, _, rfl, upd_same, cls_tys ts, (q1.mono s2.gs).tyx r2.sub hn, kit_Ds _ d hn ts, (h1.after s2).here r2 (.bl _)⟩
    · exact h1.elim⟩
end
end Ev
end
section
namespace Ev
open PySem PySem.Spec L2
open PyProof.Rows hiding St
variable [KF]
/-! ### what a def promises -/
def aslO (o : Option (List D)) (o' : List D) (ds : List D) : Env := asl (o.map fun _ => o') ds
def Post (T : XT) (fr : Bool) (vs : List V) (o : Option (List D)) (ds : List D) (G H : Hp) (Q : VK) (E : XK) (r : CR) : Prop := match r with
  | .ok d o' => ∀ v H' G', Rel H' G' (vs.map some) (aslO o o' ds) → Stp (vs.map some) (asl o ds) G H (aslO o o' ds) G' H' → Res fr (vs.map some) (asl o ds) (aslO o o' ds) G' H H' v d → Q v H'
  | .ex c fs o' => ∀ d H' G', Rel H' G' (vs.map some) (aslO o o' ds) → Stp (vs.map some) (asl o ds) G H (aslO o o' ds) G' H' → ExAt T c fs d G' H' → E (T.cls c) d H'
  | .no => False
def spD (T : XT) (df : Def) (F : Option (List D) → List D → CR) : Sp := fun vs H Q E => vs.length = df.np ∧ ∃ G o ds, Rel H G (vs.map some) (asl o ds) ∧ o.isSome = df.io ∧ Post T df.fr vs o ds G H Q E (F o ds)
structure DI where
  name : Str
  f : Addr
  fd : FuncData
  ps : List Str
  df : Def
/-- what a body leans on -/
structure Okc (X : Cx) (T : XT) (W : St → XK) (dis : List DI) (cf : CF) (n : Nat) : Prop where
  fn : ∀ i d, dis[i]? = some d → FnOk X.prog X.w X.K X.mg X.base (L2.CX X.prog X.w) n d.f d.fd d.ps (spD T d.df (cf i))
  mg : ∀ (i : Nat) (d : DI), dis[i]? = some d → X.mg d.name = some (.ref d.f)
  kp : ∀ (i : Nat) (d : DI), dis[i]? = some d → PySem.W.keepIn X.K (.ref d.f) = true
  bd : ∀ (i : Nat) (d : DI), dis[i]? = some d → Binds X.K d.fd d.ps []
  ln : ∀ (i : Nat) (d : DI) (o : Option (List D)) (ds : List D), dis[i]? = some d → cf i o ds ≠ .no → (asl o ds).length = d.df.np ∧ o.isSome = d.df.io
  hr : Room n X.A
  pass : ∀ σ, PassesAt (L2.CX X.prog X.w) X σ (W σ)
section
variable {G H : Hp} {vs : List V} {ds xs : List D}
theorem asl_get {o : Option (List D)} {i : Nat} {s : Sl} (h : (asl o ds)[i]? = some s) : (∃ ys, o = some ys ∧ i = 0 ∧ s = .ow ys) ∨ (∃ j d, ds[j]? = some d ∧ s = .va d ∧ i = j + (if o.isSome then 1 else 0)) := by
  cases o with
  | none =>
    have h : (ds.map Sl.va)[i]? = some s := h
    rw [List.getElem?_map, Option.map_eq_some_iff] at h
    obtain ⟨d, h1, h2⟩ := h
    exact .inr ⟨i, d, h1, h2.symm, rfl⟩
  | some ys =>
    cases i with
    | zero => exact .inl ⟨ys, rfl, rfl, (Option.some.inj h).symm⟩
    | succ i =>
      have h : (ds.map Sl.va)[i]? = some s := h
      rw [List.getElem?_map, Option.map_eq_some_iff] at h
      obtain ⟨d, h1, h2⟩ := h
      exact .inr ⟨i, d, h1, h2.symm, rfl⟩
theorem rel_args (s : Same G H) (a : RepA G vs ds) : Rel H G (vs.map some) (asl none ds) := by
  refine ⟨s, by rw [List.length_map, a.length]; exact (List.length_map ..).symm, fun i d h => ?_, fun i d h => ?_, fun i j x y h => ?_⟩
  · rcases asl_get h with ⟨_, z, _⟩ | ⟨j, d', h1, h2, h3⟩
    · cases z
    · cases h2
      have h3 : i = j := h3
      subst h3
      obtain ⟨v, z1, z2⟩ := a.get h1
      exact ⟨v, by rw [List.getElem?_map, z1]; rfl, z2⟩
  · rcases asl_get h with ⟨_, z, _⟩ | ⟨j, d', h1, h2, h3⟩
    · cases z
    · cases h2
  · rcases asl_get h with ⟨_, z, _⟩ | ⟨j, d', h1, h2, h3⟩
    · cases z
    · cases h2
theorem oa_args {o : List V} {a : Addr} : ¬ OA (o.map some) (asl none ds) a := fun ⟨i, xs, h, _⟩ => by
  rcases asl_get h with ⟨_, z, _⟩ | ⟨j, d', h1, h2, h3⟩
  · cases z
  · cases h2
theorem rel_argsO {p : Addr} {us : List V} (s : Same G H) (a : RepA G vs ds) (hp : H p = some (.lst us)) (gp : G p = none) (b : RepA G us xs) : Rel H G ((V.ref p :: vs).map some) (asl (some xs) ds) := by
  have one : ∀ (i : Nat) (ys : Ow), (asl (some xs) ds)[i]? = some (.ow ys) → i = 0 ∧ ys = .l xs := fun i ys h => by
    rcases asl_get h with ⟨zs, z1, z2, z3⟩ | ⟨j, d', h1, h2, h3⟩
    · cases z1
      cases z3
      exact ⟨z2, rfl⟩
    · cases h2
  refine ⟨s, ?_, fun i d h => ?_, fun i d h => ?_, fun i j x y h h' _ => by rw [(one i _ h).1, (one j _ h').1]⟩
  · show ((V.ref p :: vs).map some).length = (Sl.ow xs :: ds.map Sl.va).length
    rw [List.length_map, List.length_cons, List.length_cons, List.length_map, a.length]
  · rcases asl_get h with ⟨_, z, _, z3⟩ | ⟨j, d', h1, h2, h3⟩
    · cases z3
    · cases h2
      have h3 : i = j + 1 := h3
      subst h3
      obtain ⟨v, z1, z2⟩ := a.get h1
      refine ⟨v, ?_, z2⟩
      show (vs.map some)[j]? = _
      rw [List.getElem?_map, z1]
      rfl
  · obtain ⟨e1, e2⟩ := one i _ h
    subst e1 e2
    exact ⟨p, us, rfl, hp, gp, b⟩
theorem oa_argsO {p a : Addr} : OA ((V.ref p :: vs).map some) (asl (some xs) ds) a → a = p := fun ⟨i, ys, h, h'⟩ => by
  rcases asl_get h with ⟨zs, z1, z2, z3⟩ | ⟨j, d', h1, h2, h3⟩
  · subst z2
    have h' : some (some (V.ref p)) = some (some (.ref a)) := h'
    cases h'
    rfl
  · cases h2
end
section
variable {X : Cx} {T : XT} {W : St → XK} {dis : List DI} {cf : CF} {n : Nat} {x y z : Expr} {xs : List Expr} {a b c as : E} {pos : Pos}
/-- a step that changes nothing that one holds -/
theorem Rel.kept {σ : St} {e : Env} {G H G' H' : Hp} (r : Rel H G σ e) (gs : Same G G') (sub : Same G' H') (fr : ∀ b o, H b = some o → H' b = some o) (nw : ∀ b o, G' b = some o → G b = some o ∨ H b = none ∨ Kt H b o) (al : ∀ b, H' b = none → H b = none) :
    Rel H' G' σ e ∧ Stp σ e G H e G' H' := by
  refine ⟨⟨sub, r.len, fun i d h => ?_, fun i ds h => ?_, r.dis⟩, ⟨gs, fun b o h _ => fr b o h, fun b o h => (nw b o h).elim .inl fun z => .inr (z.elim .inl fun z => .inr (.inr z)), al, fun _ h => h⟩⟩
  · obtain ⟨v, h1, h2⟩ := r.va i d h
    exact ⟨v, h1, h2.mono gs⟩
  · obtain ⟨a, vs, h1, h2, h3, h4⟩ := r.ow i ds h
    refine ⟨a, vs, h1, fr _ _ h2, ?_, h4.mono gs⟩
    cases q : G' a with
    | none => rfl
    | some o =>
      rcases nw a o q with z | z | z
      · rw [h3] at z; cases z
      · rw [h2] at z; cases z
      · exact (z.ne h2).elim
theorem back_lc {p : Pos} : ∀ {xs : List Expr} {as : E} {env : PySem.Env}, SEs X T W cf xs as → (backTo p (starEach xs env)).any (·.1) = false := fun {xs as env} h => by
  induction h with
  | nil => rfl
  | cons hs _ _ _ ih =>
    rw [star_cons hs]
    show ((backTo p ((false, _) :: starEach _ env)).any (·.1)) = false
    unfold backTo at ih ⊢
    rw [List.map_cons, List.any_cons, ih]
    rfl
/-- behind a call that was handed no list of one's own -/
theorem Rn.called {σ : St} {e : Env} {G H : Hp} {Q : VK} {vs : List V} {ds : List D} {fr : Bool} {r1 : CR} (r : Rel H G σ e) (h1 : Rn T W σ e G H (outC r1 e fun _ => e) fr Q) : Post T fr vs none ds G H Q (W σ) r1 := by
  have cont : ∀ (G' H' : Hp), Rel H' G' (vs.map some) (asl none ds) → Stp (vs.map some) (asl none ds) G H (asl none ds) G' H' → Rel H' G' σ e ∧ Stp σ e G H e G' H' := by
    intro G' H' r2 s2
    refine r.kept s2.gs r2.sub (fun b o hb => s2.fr b o hb oa_args) (fun b o hb => ?_) s2.al
    rcases s2.nw b o hb with z | z | z | z
    · exact .inl z
    · exact .inr (.inl z)
    · exact (oa_args z).elim
    · exact .inr (.inr z)
  cases r1 with
  | no => exact h1
  | ex c fs o' =>
    intro d H' G' r2 s2 x2
    obtain ⟨r3, s3⟩ := cont G' H' r2 s2
    exact h1 d H' G' r3 s3 x2
  | ok d o' =>
    intro v H' G' r2 s2 x2
    obtain ⟨r3, s3⟩ := cont G' H' r2 s2
    refine h1 v H' G' r3 s3 ?_
    cases fr with
    | false => exact x2
    | true =>
      obtain ⟨p, us, es, e1, e2, e3, e4, e5, e6, e7⟩ := x2
      exact ⟨p, us, es, e1, e2, e3, e4, e5, e6, fun ⟨i, ys, z1, z2⟩ => by
        obtain ⟨a2, us2, y1, y2, y3, y4⟩ := r.ow i ys z1
        rw [z2] at y1
        cases y1
        rw [e3] at y2
        cases y2⟩
/-- f(), by the slots' wish -/
theorem pe_call0S {CX : CXT} {k : Nat} {f : Addr} {fd : FuncData} {ps : List Str} {sp : Sp} {dvs : List V} {gs : List Value} {wi : St → XK} {nm : Str} {p0 : Pos} (F : FnOk X.prog X.w X.K X.mg X.base CX k f fd ps sp) (rm : Room k X.A) (gl : Gl X nm) (mm : X.mg nm = some (.ref f)) (kp : PySem.W.keepIn X.K (.ref f) = true)
    (bi : Binds X.K fd ps gs) (dv : Vals dvs gs) (pa : ∀ σ, PassesAt CX X σ (wi σ)) (nd : (nm == ("__debug__" : Str)) = false) : PE X (.Call (.Name nm p0) [] [] pos) (tCallSD sp dvs wi tNil) := by
  refine ⟨fun pins s σ H Q I h => wpAny_Call_Name_kw (ld_glob I gl mm ?_ nd)⟩
  exact PySem.W.callWith_K0 I.kIn kp (run_fnSD (us := []) F rm bi dv (pa σ) I .nil h)
/-- f(e, ..) -/
theorem sr_call {f : Nat} {d : DI} {p : Pos} (ok : Okc X T W dis cf n) (hf : dis[f]? = some d) (hg : Gl X d.name) (hd : (d.name == ("__debug__" : Str)) = false) (h : SEs X T W cf xs as) :
    PE X (.Call (.Name d.name p) xs [] pos) (tEv T W cf d.df.fr (.call f as)) := by
  have go : ∀ (σ : St) (H : Hp) (Q : VK), tEv T W cf d.df.fr (.call f as) σ H Q → tA T W cf as σ H (fun vs H1 => spD T d.df (cf f) (vs ++ []) H1 Q (W σ)) := by
    intro σ H Q ⟨G, e, r, q⟩
    refine ⟨G, e, r, Rn.bindR q fun ds e1 vs H1 G1 _ r1 s1 q1 h1 => ?_⟩
    have h1 : Rn T W σ e1 G1 H1 (outC (cf f none ds) e1 fun _ => e1) d.df.fr Q := h1
    rw [List.append_nil]
    have hne : cf f none ds ≠ .no := fun z => by
      rw [z] at h1
      exact h1
    obtain ⟨l1, l2⟩ := ok.ln f d none ds hf hne
    refine ⟨?_, G1, none, ds, rel_args r1.sub q1, l2, Rn.called r1 h1⟩
    rw [← l1, q1.length]
    exact (List.length_map ..).symm
  cases h with
  | nil =>
    refine wkE (pe_call0S (ok.fn f d hf) ok.hr hg (ok.mg f d hf) (ok.kp f d hf) (ok.bd f d hf) .nil ok.pass hd) fun σ H Q q => ?_
    obtain ⟨G, e, r, q⟩ := go σ H Q q
    have q : RnG RepA T W σ e G H (.ok [] e) (fun vs H1 => spD T d.df (cf f) (vs ++ []) H1 Q (W σ)) := q
    exact q.here r .nil
  | cons hs ha hp ht =>
    exact wkE (pe_callSD (ok.fn f d hf) ok.hr hg (ok.mg f d hf) (ok.kp f d hf) (ok.bd f d hf) .nil ok.pass (sa_of (.cons hs ha hp ht)) hd (star_cons hs _ _) (back_lc ht)) go
theorem getS_set {e : Env} {i j : Nat} {s s' : Sl} (h : (e.set i s)[j]? = some s') : (j = i ∧ s' = s) ∨ (j ≠ i ∧ e[j]? = some s') := by
  by_cases hj : j = i
  · subst hj
    by_cases hl : j < e.length
    · rw [List.getElem?_set_self hl] at h
      exact .inl ⟨rfl, (Option.some.inj h).symm⟩
    · rw [List.getElem?_eq_none (by rw [List.length_set]; omega)] at h
      cases h
  · rw [List.getElem?_set_ne (Ne.symm hj)] at h
    exact .inr ⟨hj, h⟩
/-- f(box, ..), box a list of one's own that the def may change -/
theorem Rn.calledO {σ : St} {e : Env} {G H : Hp} {Q : VK} {vs us : List V} {xs ds : List D} {fr : Bool} {r1 : CR} {i : Nat} {p : Addr} (r : Rel H G σ e) (hi : e[i]? = some (.ow xs)) (hp : σ[i]? = some (some (.ref p))) (hH : H p = some (.lst us))
    (h1 : Rn T W σ e G H (outC r1 e fun o => e.set i (.ow o)) fr Q) : Post T fr (.ref p :: vs) (some xs) ds G H Q (W σ) r1 := by
  have hil : i < e.length := (List.getElem?_eq_some_iff.mp hi).1
  have cont : ∀ (o' : List D) (G' H' : Hp), Rel H' G' ((V.ref p :: vs).map some) (asl (some o') ds) → Stp ((V.ref p :: vs).map some) (asl (some xs) ds) G H (asl (some o') ds) G' H' → Rel H' G' σ (e.set i (.ow o')) ∧ Stp σ e G H (e.set i (.ow o')) G' H' := by
    intro o' G' H' r2 s2
    obtain ⟨p2, us2, y1, y2, y3, y4⟩ := r2.ow 0 o' rfl
    have y1 : some (some (V.ref p)) = some (some (.ref p2)) := y1
    cases y1
    have oth : ∀ (j : Nat) (ys : Ow) (a : Addr), j ≠ i → e[j]? = some (.ow ys) → σ[j]? = some (some (.ref a)) → a ≠ p := fun j ys a hj hy ha z => by
      subst z
      exact hj (r.dis j i ys xs hy hi (ha.trans hp.symm))
    have oaK : ∀ a, OA σ (e.set i (.ow o')) a → OA σ e a := fun a ⟨j, ys, z1, z2⟩ => by
      rcases getS_set z1 with ⟨e1, _⟩ | ⟨_, e2⟩
      · subst e1
        exact ⟨_, xs, hi, z2⟩
      · exact ⟨j, ys, e2, z2⟩
    refine ⟨⟨r2.sub, by rw [List.length_set]; exact r.len, fun j d h => ?_, fun j ys h => ?_, fun j k ys zs hj hk hjk => ?_⟩, ⟨s2.gs, fun b o hb hn => ?_, fun b o hb => ?_, s2.al, oaK⟩⟩
    · rcases getS_set h with ⟨_, z⟩ | ⟨_, z⟩
      · cases z
      · obtain ⟨v, h1, h2⟩ := r.va j d z
        exact ⟨v, h1, h2.mono s2.gs⟩
    · rcases getS_set h with ⟨e1, z⟩ | ⟨hj, z⟩
      · cases z
        subst e1
        exact ⟨p, us2, hp, y2, y3, y4⟩
      · obtain ⟨a, ws, h1, h2, h3, h4⟩ := r.ow j ys z
        have hap := oth j ys a hj z h1
        refine ⟨a, ws, h1, s2.fr _ _ h2 fun w => hap (oa_argsO w), ?_, h4.mono s2.gs⟩
        cases q : G' a with
        | none => rfl
        | some o =>
          rcases s2.nw a o q with w | w | w | w
          · rw [h3] at w; cases w
          · rw [h2] at w; cases w
          · exact (hap (oa_argsO w)).elim
          · exact (w.ne h2).elim
    · have f1 : ∃ ys', e[j]? = some (.ow ys') := by
        rcases getS_set hj with ⟨e1, _⟩ | ⟨_, z⟩
        · exact ⟨xs, e1 ▸ hi⟩
        · exact ⟨_, z⟩
      have f2 : ∃ ys', e[k]? = some (.ow ys') := by
        rcases getS_set hk with ⟨e1, _⟩ | ⟨_, z⟩
        · exact ⟨xs, e1 ▸ hi⟩
        · exact ⟨_, z⟩
      obtain ⟨_, f1⟩ := f1
      obtain ⟨_, f2⟩ := f2
      exact r.dis j k _ _ f1 f2 hjk
    · refine s2.fr b o hb fun w => hn ?_
      rw [oa_argsO w]
      exact ⟨i, xs, hi, hp⟩
    · rcases s2.nw b o hb with w | w | w | w
      · exact .inl w
      · exact .inr (.inl w)
      · rw [oa_argsO w]
        exact .inr (.inr (.inl ⟨i, xs, hi, hp⟩))
      · exact .inr (.inr (.inr w))
  cases r1 with
  | no => exact h1
  | ex c fs o' =>
    intro d H' G' r2 s2 x2
    obtain ⟨r3, s3⟩ := cont o' G' H' r2 s2
    exact h1 d H' G' r3 s3 x2
  | ok d o' =>
    intro v H' G' r2 s2 x2
    obtain ⟨r3, s3⟩ := cont o' G' H' r2 s2
    refine h1 v H' G' r3 s3 ?_
    cases fr with
    | false => exact x2
    | true =>
      obtain ⟨p, us, es, e1, e2, e3, e4, e5, e6, e7⟩ := x2
      exact ⟨p, us, es, e1, e2, e3, e4, e5, e6, fun w => by
        obtain ⟨i, ys, z1, z2⟩ := s3.oa _ w
        obtain ⟨a2, us2, y1, y2, y3, y4⟩ := r.ow i ys z1
        rw [z2] at y1
        cases y1
        rw [e3] at y2
        cases y2⟩
theorem owS_some {e : Env} {i : Nat} {xs : List D} (h : owS (getS e i) = some xs) : e[i]? = some (.ow xs) := by
  cases hs : getS e i with
  | ow ys =>
    rw [hs] at h
    cases ys with
    | d _ _ => cases h
    | l ys =>
      cases h
      exact getS_some hs (fun z => nomatch z)
  | _ => rw [hs] at h; cases h
theorem sr_callo {f i : Nat} {d : DI} {p np : Pos} {nm : Str} (ok : Okc X T W dis cf n) (hf : dis[f]? = some d) (hg : Gl X d.name) (hd : (d.name == ("__debug__" : Str)) = false)
    (hN : X.N[i]? = some nm) (hv : Vis X.env.scope nm) (hd2 : (nm == ("__debug__" : Str)) = false) (hcd : (nm == ("__classdict__" : Str)) = false) (h : SEs X T W cf xs as) :
    PE X (.Call (.Name d.name p) (.Name nm np :: xs) [] pos) (tEv T W cf d.df.fr (.callo f i as)) := by
  refine wkE (pe_callSD (ok.fn f d hf) ok.hr hg (ok.mg f d hf) (ok.kp f d hf) (ok.bd f d hf) .nil ok.pass (pa_cons (pe_var (X := X) hN hv hd2 hcd) (sa_of h) rfl) hd rfl (back_lc h)) fun σ H Q ⟨G, e, r, q⟩ => ?_
  have q : Rn T W σ e G H (if isOw (getS e i) = true then (evs cf as e).bind fun ds e => (lift (owS (getS e i)) e).bind fun xs e => outC (cf f (some xs) ds) e fun o => e.set i (.ow o) else .no) d.df.fr Q := q
  split at q
  · next hl =>
    obtain ⟨xs0, hx0⟩ := Option.isSome_iff_exists.mp hl
    obtain ⟨a0, vs0, z1, _, _, _⟩ := r.ow i xs0 (owS_some hx0)
    refine ⟨.ref a0, z1, G, e, r, Rn.bindR q fun ds e1 vs H1 G1 _ r1 s1 q1 h1 => ?_⟩
    have h1 : Rn T W σ e1 G1 H1 ((lift (owS (getS e1 i)) e1).bind fun xs e => outC (cf f (some xs) ds) e fun o => e.set i (.ow o)) d.df.fr Q := h1
    cases hx : owS (getS e1 i) with
    | none => rw [hx] at h1; exact h1.elim
    | some xs1 =>
      rw [hx] at h1
      have h1 : Rn T W σ e1 G1 H1 (outC (cf f (some xs1) ds) e1 fun o => e1.set i (.ow o)) d.df.fr Q := h1
      have hi := owS_some hx
      obtain ⟨a1, us, y1, y2, y3, y4⟩ := r1.ow i xs1 hi
      rw [z1] at y1
      cases y1
      have hne : cf f (some xs1) ds ≠ .no := fun z => by
        rw [z] at h1
        exact h1
      obtain ⟨l1, l2⟩ := ok.ln f d (some xs1) ds hf hne
      show spD T d.df (cf f) (V.ref a0 :: vs ++ []) H1 Q (W σ)
      rw [List.append_nil]
      refine ⟨?_, G1, some xs1, ds, rel_argsO r1.sub q1 y2 y3 y4, l2, Rn.calledO r1 hi z1 y2 h1⟩
      rw [← l1]
      show (V.ref a0 :: vs).length = (Sl.ow xs1 :: ds.map Sl.va).length
      rw [List.length_cons, List.length_cons, List.length_map, q1.length]
  · exact q.elim
/-! a def is handed one's own list to read -/
def dropG (G : Hp) (p : Addr) : Hp := fun b => if b = p then none else G b
theorem dropG_ne {G : Hp} {p b : Addr} (h : b ≠ p) : dropG G p b = G b := if_neg h
mutual
theorem rep_drop {G : Hp} {p : Addr} {us : List V} (hp : G p = some (.lst us)) : ∀ {v : V} {d : D}, Rep G v d → noL d = true → Rep (dropG G p) v d
  | _, _, .non, _ => .non
  | _, _, .bl b, _ => .bl b
  | _, _, .int i, _ => .int i
  | _, _, .str x, _ => .str x
  | _, _, .lst _ _, h => by cases h
  | _, _, .scr _ _, h => by cases h
  | _, _, .tup g a, h => .tup ((dropG_ne (fun z => by rw [z, hp] at g; cases g)).trans g) (repA_drop hp a h)
  | _, _, .err _ _ _ _ _, h => by cases h
  | _, _, .dic _ _ _, h => by cases h
theorem repA_drop {G : Hp} {p : Addr} {us : List V} (hp : G p = some (.lst us)) : ∀ {vs : List V} {ds : List D}, RepA G vs ds → noLs ds = true → RepA (dropG G p) vs ds
  | _, _, .nil, _ => .nil
  | _, _, .cons r a, h => by
    have h : (noL _ && noLs _) = true := h
    rw [Bool.and_eq_true] at h
    exact .cons (rep_drop hp r h.1) (repA_drop hp a h.2)
end
theorem Rn.calledB {σ : St} {e : Env} {G H : Hp} {Q : VK} {us ws : List V} {xs ys : List D} {r1 : CR} {i j : Nat} {p q : Addr} (r : Rel H G σ e) (hi : e[i]? = some (.ow xs)) (hp : σ[i]? = some (some (.ref p))) (hH : H p = some (.lst us)) (hj : e[j]? = some (.ow ys)) (hq : σ[j]? = some (some (.ref q))) (hH2 : H q = some (.lst ws)) (gq : G q = none) (hA : RepA G ws ys) (hpq : p ≠ q)
    (h1 : Rn T W σ e G H (match r1 with
      | .ok d o => if (noL d && noLs o) = true then .ok d (e.set i (.ow (.l o))) else .no
      | _ => .no) false Q) : Post T false [.ref p, .ref q] (some xs) [.lst ys] (upd G q (.lst ws)) H Q (W σ) r1 := by
  cases r1 with
  | no => exact h1
  | ex c fs o' => exact h1.elim
  | ok d o' =>
    intro v H' G' r2 s2 x2
    have h1 : Rn T W σ e G H (if (noL d && noLs o') = true then .ok d (e.set i (.ow (.l o'))) else .no) false Q := h1
    split at h1
    · next hn =>
      rw [Bool.and_eq_true] at hn
      have x2 : Rep G' v d := x2
      have gq' : G' q = some (.lst ws) := s2.gs _ _ (upd_same ..)
      have gsD : Same G (dropG G' q) := fun b o hb => by
        have hb' : b ≠ q := fun z => by rw [z, gq] at hb; cases hb
        rw [dropG_ne hb']
        exact s2.gs b o ((upd_ne hb').trans hb)
      obtain ⟨p2, us2, y1, y2, y3, y4⟩ := r2.ow 0 o' rfl
      have y1 : some (some (V.ref p)) = some (some (.ref p2)) := y1
      cases y1
      have oth : ∀ (k : Nat) (zs : Ow) (a : Addr), k ≠ i → e[k]? = some (.ow zs) → σ[k]? = some (some (.ref a)) → a ≠ p := fun k zs a hk hy ha z => by
        subst z
        exact hk (r.dis k i zs xs hy hi (ha.trans hp.symm))
      have oaK : ∀ a, OA σ (e.set i (.ow o')) a → OA σ e a := fun a ⟨k, zs, z1, z2⟩ => by
        rcases getS_set z1 with ⟨e1, _⟩ | ⟨_, e2⟩
        · subst e1
          exact ⟨_, xs, hi, z2⟩
        · exact ⟨k, zs, e2, z2⟩
      have nw : ∀ b o, dropG G' q b = some o → b ≠ q ∧ (G b = some o ∨ H b = none ∨ b = p ∨ Kt H b o) := fun b o hb => by
        have hb' : b ≠ q := fun z => by
          rw [z] at hb
          unfold dropG at hb
          rw [if_pos rfl] at hb
          cases hb
        rw [dropG_ne hb'] at hb
        refine ⟨hb', ?_⟩
        rcases s2.nw b o hb with w | w | w | w
        · rw [upd_ne hb'] at w
          exact .inl w
        · exact .inr (.inl w)
        · exact .inr (.inr (.inl (oa_argsO w)))
        · exact .inr (.inr (.inr w))
      refine h1 v H' (dropG G' q) ⟨fun b o hb => ?_, by rw [List.length_set]; exact r.len, fun k d' h => ?_, fun k zs h => ?_, fun k l zs ts hk hl hkl => ?_⟩ ⟨gsD, fun b o hb hn => ?_, fun b o hb => ?_, s2.al, oaK⟩ (rep_drop gq' x2 hn.1)
      · obtain ⟨hb', _⟩ := nw b o hb
        rw [dropG_ne hb'] at hb
        exact r2.sub b o hb
      · rcases getS_set h with ⟨_, z⟩ | ⟨_, z⟩
        · cases z
        · obtain ⟨v', h1, h2⟩ := r.va k d' z
          exact ⟨v', h1, h2.mono gsD⟩
      · rcases getS_set h with ⟨e1, z⟩ | ⟨hk, z⟩
        · cases z
          subst e1
          refine ⟨p, us2, hp, y2, (dropG_ne hpq).trans y3, ?_⟩
          exact repA_drop gq' y4 hn.2
        · obtain ⟨a, vs', h1, h2, h3, h4⟩ := r.ow k zs z
          have hap := oth k zs a hk z h1
          refine ⟨a, vs', h1, s2.fr _ _ h2 fun w => hap (oa_argsO w), ?_, h4.mono gsD⟩
          cases hq' : dropG G' q a with
          | none => rfl
          | some o =>
            obtain ⟨_, w⟩ := nw a o hq'
            rcases w with w | w | w | w
            · rw [h3] at w; cases w
            · rw [h2] at w; cases w
            · exact (hap w).elim
            · exact (w.ne h2).elim
      · have f1 : ∃ ys', e[k]? = some (.ow ys') := by
          rcases getS_set hk with ⟨e1, _⟩ | ⟨_, z⟩
          · exact ⟨xs, e1 ▸ hi⟩
          · exact ⟨_, z⟩
        have f2 : ∃ ys', e[l]? = some (.ow ys') := by
          rcases getS_set hl with ⟨e1, _⟩ | ⟨_, z⟩
          · exact ⟨xs, e1 ▸ hi⟩
          · exact ⟨_, z⟩
        obtain ⟨_, f1⟩ := f1
        obtain ⟨_, f2⟩ := f2
        exact r.dis k l _ _ f1 f2 hkl
      · refine s2.fr b o hb fun w => hn ?_
        rw [oa_argsO w]
        exact ⟨i, xs, hi, hp⟩
      · obtain ⟨_, w⟩ := nw b o hb
        rcases w with w | w | w | w
        · exact .inl w
        · exact .inr (.inl w)
        · rw [w]
          exact .inr (.inr (.inl ⟨i, xs, hi, hp⟩))
        · exact .inr (.inr (.inr w))
    · exact h1.elim
theorem sv_callb {f i j : Nat} {d : DI} {p np np2 : Pos} {nm nm2 : Str} (ok : Okc X T W dis cf n) (hf : dis[f]? = some d) (hfr : d.df.fr = false) (hg : Gl X d.name) (hd : (d.name == ("__debug__" : Str)) = false)
    (hN : X.N[i]? = some nm) (hv : Vis X.env.scope nm) (hd2 : (nm == ("__debug__" : Str)) = false) (hcd : (nm == ("__classdict__" : Str)) = false)
    (hN2 : X.N[j]? = some nm2) (hv2 : Vis X.env.scope nm2) (hd22 : (nm2 == ("__debug__" : Str)) = false) (hcd2 : (nm2 == ("__classdict__" : Str)) = false) (hij : i ≠ j) :
    PE X (.Call (.Name d.name p) [.Name nm np, .Name nm2 np2] [] pos) (tEv T W cf false (.callb f i j)) := by
  refine wkE (pe_callSD (ok.fn f d hf) ok.hr hg (ok.mg f d hf) (ok.kp f d hf) (ok.bd f d hf) .nil ok.pass (pa_cons (pe_var (X := X) hN hv hd2 hcd) (pa_cons (pe_var (X := X) hN2 hv2 hd22 hcd2) pa_nil rfl) rfl) hd rfl rfl) fun σ H Q ⟨G, e, r, q⟩ => ?_
  have q : Rn T W σ e G H (match getS e i, getS e j with
    | .ow (.l xs), .ow (.l ys) => match cf f (some xs) [.lst ys] with
      | .ok d o => if (noL d && noLs o) = true then .ok d (e.set i (.ow (.l o))) else .no
      | _ => .no
    | _, _ => .no) false Q := q
  split at q
  · next xs ys g1 g2 =>
    have hi := getS_some g1 (fun z => nomatch z)
    have hj := getS_some g2 (fun z => nomatch z)
    obtain ⟨a0, us, z1, z2, z3, z4⟩ := r.ow i xs hi
    obtain ⟨b0, ws, w1, w2, w3, w4⟩ := r.ow j ys hj
    have hne0 : a0 ≠ b0 := fun z => hij (r.dis i j _ _ hi hj (by rw [z1, w1, z]))
    have hne : cf f (some xs) [.lst ys] ≠ .no := fun z => by
      rw [z] at q
      exact q
    obtain ⟨l1, l2⟩ := ok.ln f d (some xs) [.lst ys] hf hne
    refine ⟨.ref a0, z1, .ref b0, w1, ?_⟩
    show spD T d.df (cf f) ([V.ref a0, V.ref b0] ++ []) H Q (W σ)
    rw [List.append_nil]
    have sG : Same G (upd G b0 (.lst ws)) := fun b o hb => (upd_ne (fun z => by rw [z, w3] at hb; cases hb)).trans hb
    have sH : Same (upd G b0 (.lst ws)) H := fun b o hb => by
      by_cases z : b = b0
      · rw [z, upd_same] at hb
        rw [z, ← hb]
        exact w2
      · rw [upd_ne z] at hb
        exact r.sub b o hb
    have w4 : RepA G ws ys := w4
    refine ⟨?_, upd G b0 (.lst ws), some xs, [.lst ys], rel_argsO (vs := [.ref b0]) sH (.cons (.lst (upd_same ..) (w4.mono sG)) .nil) z2 ((upd_ne hne0).trans z3) (RepA.mono sG z4), l2, ?_⟩
    · rw [← l1]
      rfl
    · rw [hfr]
      exact Rn.calledB r hi z1 z2 hj w1 w2 w3 w4 hne0 q
  · exact q.elim
end
end Ev
end
section
namespace Ev
open PySem PySem.Spec L2
open PyProof.Rows hiding St
variable [KF]
section
variable {X : Cx} {T : XT} {W : St → XK} {dis : List DI} {cf : CF} {n : Nat} {x y z : Expr} {xs : List Expr} {a b c as : E} {pos : Pos}
/-- f(a new list, ..), a list that the def may change -/
theorem sr_callf {f : Nat} {d : DI} {p : Pos} (ok : Okc X T W dis cf n) (hf : dis[f]? = some d) (hg : Gl X d.name) (hd : (d.name == ("__debug__" : Str)) = false) (hs : starless x = true) (ha : PE X x (tEv T W cf true a)) (h : SEs X T W cf xs as) :
    PE X (.Call (.Name d.name p) (x :: xs) [] pos) (tEv T W cf d.df.fr (.callf f a as)) := by
  refine wkE (pe_callSD (ok.fn f d hf) ok.hr hg (ok.mg f d hf) (ok.kp f d hf) (ok.bd f d hf) .nil ok.pass (pa_cons ha (sa_of h) (star_cons hs _ _)) hd (star_cons hs _ _) (back_lc h)) fun σ H Q ⟨G, e, r, q⟩ => ?_
  have q : Rn T W σ e G H ((ev cf a e).bind fun x e => (evs cf as e).bind fun ds e => match x with
    | .lst xs => outC (cf f (some xs) ds) e fun _ => e
    | _ => .no) d.df.fr Q := q
  refine ⟨G, e, r, ?_⟩
  cases hea : ev cf a e with
  | no => rw [hea] at q; exact q
  | ex c fs e' => rw [hea] at q; exact q
  | ok x1 e1 =>
    rw [hea] at q
    intro v H1 G1 r1 s1 fsh
    obtain ⟨t, us, w, rfl, rfl, t1, t2, t3, t4, t5⟩ := fsh
    cases w with
    | d ks zs =>
      have q : Rn T W σ e G H ((evs cf as e1).bind fun ds e => R.no) d.df.fr Q := q
      refine ⟨G1, e1, r1, ?_⟩
      cases heb : evs cf as e1 with
      | no => rw [heb] at q; exact q
      | ex c fs e2 => rw [heb] at q; exact fun d2 H2 G2 r2 s2 x2 => q d2 H2 G2 r2 (s1.trans s2) x2
      | ok ds e2 => rw [heb] at q; exact q.elim
    | l ys =>
    have q : Rn T W σ e G H ((evs cf as e1).bind fun ds e => outC (cf f (some ys) ds) e fun _ => e) d.df.fr Q := q
    refine ⟨G1, e1, r1, ?_⟩
    cases heb : evs cf as e1 with
    | no => rw [heb] at q; exact q
    | ex c fs e2 =>
      rw [heb] at q
      exact fun d2 H2 G2 r2 s2 x2 => q d2 H2 G2 r2 (s1.trans s2) x2
    | ok ds e2 =>
      rw [heb] at q
      intro vs H2 G2 r2 s2 q2
      have q : Rn T W σ e G H (outC (cf f (some ys) ds) e2 fun _ => e2) d.df.fr Q := q
      have hne : cf f (some ys) ds ≠ .no := fun z => by
        rw [z] at q
        exact q
      obtain ⟨l1, l2⟩ := ok.ln f d (some ys) ds hf hne
      have u2 : H2 t = some (.lst us) := s2.fr _ _ t2 t5
      have u3 : G2 t = none := by
        cases w : G2 t with
        | none => rfl
        | some o =>
          rcases s2.nw t o w with w | w | w | w
          · rw [t3] at w; cases w
          · rw [t2] at w; cases w
          · exact (t5 w).elim
          · exact (w.neL t2).elim
      have u4 : ¬ OA σ e2 t := fun w => t5 (s2.oa _ w)
      have s12 := s1.trans s2
      have cont : ∀ (o' : List D) (G' H' : Hp), Rel H' G' ((V.ref t :: vs).map some) (asl (some o') ds) → Stp ((V.ref t :: vs).map some) (asl (some ys) ds) G2 H2 (asl (some o') ds) G' H' → Rel H' G' σ e2 ∧ Stp σ e G H e2 G' H' := by
        intro o' G' H' r3 s3
        refine ⟨⟨r3.sub, r2.len, fun j d h => ?_, fun j zs h => ?_, r2.dis⟩, ⟨s12.gs.trans s3.gs, fun b o hb hn => ?_, fun b o hb => ?_, fun b hb => s12.al b (s3.al b hb), s12.oa⟩⟩
        · obtain ⟨v, h1, h2⟩ := r2.va j d h
          exact ⟨v, h1, h2.mono s3.gs⟩
        · obtain ⟨a, ws, h1, h2, h3, h4⟩ := r2.ow j zs h
          have hap : a ≠ t := fun w => u4 (w ▸ ⟨j, zs, h, h1⟩)
          refine ⟨a, ws, h1, s3.fr _ _ h2 fun w => hap (oa_argsO w), ?_, h4.mono s3.gs⟩
          cases q : G' a with
          | none => rfl
          | some o =>
            rcases s3.nw a o q with w | w | w | w
            · rw [h3] at w; cases w
            · rw [h2] at w; cases w
            · exact (hap (oa_argsO w)).elim
            · exact (w.ne h2).elim
        · refine s3.fr b o (s12.fr b o hb hn) fun w => ?_
          rw [oa_argsO w, t1] at hb
          cases hb
        · rcases s3.nw b o hb with w | w | w | w
          · exact s12.nw b o w
          · exact .inr (.inl (s12.al b w))
          · rw [oa_argsO w]
            exact .inr (.inl t1)
          · obtain ⟨us', e9, w⟩ := w
            subst e9
            cases hc : H b with
            | none => exact .inr (.inl rfl)
            | some o' =>
              by_cases hn : OA σ e b
              · exact .inr (.inr (.inl hn))
              · have := s12.fr b o' hc hn
                rw [w] at this
                cases this
                exact .inr (.inr (.inr ⟨us', rfl, hc⟩))
      show spD T d.df (cf f) (V.ref t :: vs ++ []) H2 Q (W σ)
      rw [List.append_nil]
      refine ⟨?_, G2, some ys, ds, rel_argsO r2.sub q2 u2 u3 (t4.mono s2.gs), l2, ?_⟩
      · rw [← l1]
        show (V.ref t :: vs).length = (Sl.ow ys :: ds.map Sl.va).length
        rw [List.length_cons, List.length_cons, List.length_map, q2.length]
      · cases hr1 : cf f (some ys) ds with
        | no => exact (hne hr1).elim
        | ex c fs o' =>
          rw [hr1] at q
          intro d H' G' r3 s3 x3
          obtain ⟨r4, s4⟩ := cont o' G' H' r3 s3
          exact q d H' G' r4 s4 x3
        | ok d1 o' =>
          rw [hr1] at q
          intro v H' G' r3 s3 x3
          obtain ⟨r4, s4⟩ := cont o' G' H' r3 s3
          refine q v H' G' r4 s4 ?_
          cases hfr : d.df.fr with
          | false =>
            rw [hfr] at x3
            exact x3
          | true =>
            rw [hfr] at x3
            obtain ⟨p, us, es, e1, e2, e3, e4, e5, e6, e7⟩ := x3
            exact ⟨p, us, es, e1, e2, s12.al _ e3, e4, e5, e6, fun ⟨i, ys, z1, z2⟩ => by
              obtain ⟨a2, us2, y1, y2, y3, y4⟩ := r2.ow i ys z1
              rw [z2] at y1
              cases y1
              rw [e3] at y2
              cases y2⟩
/-! ### calls with keywords -/
def permV {α : Type} (pl : List Nat) (us ws : List α) : List α := pl.filterMap fun i => (us ++ ws)[i]?
theorem perm_rep {G : Hp} {vs : List V} {ds : List D} (h : RepA G vs ds) : ∀ {pl : List Nat} {es : List D}, perm ds pl = some es → RepA G (pl.filterMap fun i => vs[i]?) es
  | [], es, q => by
    have q : some [] = some es := q
    cases q
    exact .nil
  | i :: pl, es, q => by
    unfold perm at q
    rw [List.mapM_cons] at q
    cases h1 : ds[i]? with
    | none => rw [h1] at q; cases q
    | some d =>
      rw [h1] at q
      cases h2 : pl.mapM (fun i => ds[i]?) with
      | none => rw [h2] at q; cases q
      | some es2 =>
        rw [h2] at q
        have q : some (d :: es2) = some es := q
        cases q
        obtain ⟨v, z1, z2⟩ := h.get h1
        rw [List.filterMap_cons, z1]
        exact .cons z2 (perm_rep h h2)
theorem vals_perm {vs zs : List V} {us ws : List Value} (pl : List Nat) (h : Vals vs us) (h' : Vals zs ws) : Vals (permV pl vs zs) (permV pl us ws) := by
  have hA : Vals (vs ++ zs) (us ++ ws) := h.append h'
  unfold permV
  induction pl with
  | nil => exact .nil
  | cons i pl ih =>
    rw [List.filterMap_cons, List.filterMap_cons]
    cases h1 : (vs ++ zs)[i]? with
    | none => rw [hA.none_of h1]; exact ih
    | some v =>
      obtain ⟨u, h2, h3⟩ := hA.get h1
      rw [h2]
      exact .cons h3 ih
/-- how a call with keywords binds -/
structure KwOk (K : PySem.W.Frag) (fd : FuncData) (ps ks : List Str) (n : Nat) (pl : List Nat) : Prop where
  to : ∀ (s : Shared) (us ws : List Value), us.length = n → ws.length = ks.length → BindsTo s fd ⟨us, ks.zip ws⟩ (ps.zip (permV pl us ws))
theorem kwR {K : PySem.W.Frag} {fd : FuncData} {ps ks : List Str} {n : Nat} {pl : List Nat} (h : ∀ (us ws : List Value), us.length = n → ws.length = ks.length → bindArgs fd ⟨us, ks.zip ws⟩ = pure (ps.zip (permV pl us ws))) : KwOk K fd ps ks n pl :=
  ⟨fun s us ws h1 h2 => .of_eq (h us ws h1 h2)⟩
/-- the keywords of a call -/
inductive SKs (X : Cx) (T : XT) (W : St → XK) (cf : CF) : List Keyword → List Str → E → Prop where
  | nil : SKs X T W cf [] [] .nil
  | cons {x : Expr} {k : Str} {p : Pos} {kws : List Keyword} {ks : List Str} {a as : E} : PE X x (tV T W cf a) → SKs X T W cf kws ks as → SKs X T W cf (⟨some k, x, p⟩ :: kws) (k :: ks) (.cons a as)
theorem sk_of {kws : List Keyword} {ks : List Str} (h : SKs X T W cf kws ks as) : PK X kws (tA T W cf as) := by
  have wkK : ∀ {l : List Keyword} {t t' : TA}, PK X l t → (∀ σ H Q, t' σ H Q → t σ H Q) → PK X l t' := fun h k => ⟨fun p pins s σ H Q I q => h.run p pins s σ H Q I (k σ H Q q)⟩
  induction h with
  | nil => exact wkK pk_nil fun σ H Q ⟨G, e, r, q⟩ => q.here r .nil
  | cons ha _ ih =>
    exact wkK (pk_cons ha ih) fun σ H Q ⟨G, e, r, q⟩ => ⟨G, e, r, RnG.bind q fun d e1 v H1 G1 _ r1 s1 q1 h1 => ⟨G1, e1, r1, RnG.bind h1 fun ds e2 vs H2 G2 _ r2 s2 q2 h2 => h2.here r2 (.cons (q1.mono s2.gs) q2)⟩⟩
theorem sk_all {kws : List Keyword} {ks : List Str} {p : Pos} {env : PySem.Env} (h : SKs X T W cf kws ks as) : (backToKw p (keywordEach kws env)).all (·.1.isSome) = true ∧ (backToKw p (keywordEach kws env)).filterMap (·.1) = ks ∧ (backToKw p (keywordEach kws env)).any (·.1.isNone) = false := by
  induction h with
  | nil => exact ⟨rfl, rfl, rfl⟩
  | @cons x k p2 kws ks a as _ _ ih =>
    obtain ⟨h1, h2, h3⟩ := ih
    have e : backToKw p (keywordEach (⟨some k, x, p2⟩ :: kws) env) = (some k, do let v ← PySem.eval x env; standAt p; pure v) :: backToKw p (keywordEach kws env) := rfl
    rw [e]
    refine ⟨?_, ?_, ?_⟩
    · rw [List.all_cons, h1]; rfl
    · rw [List.filterMap_cons]
      show k :: _ = k :: ks
      rw [h2]
    · rw [List.any_cons, h3]; rfl
theorem sk_len {kws : List Keyword} {ks : List Str} (h : SKs X T W cf kws ks as) {e : Env} {ds : List D} {e' : Env} (q : evs cf as e = .ok ds e') : ds.length = ks.length := by
  induction h generalizing e ds e' with
  | nil => cases q; rfl
  | @cons x k p2 kws ks a as _ _ ih =>
    have q : ((ev cf a e).bind fun x e => (evs cf as e).bind fun xs e => .ok (x :: xs) e) = .ok ds e' := q
    cases h1 : ev cf a e with
    | no => rw [h1] at q; cases q
    | ex _ _ _ => rw [h1] at q; cases q
    | ok d e1 =>
      rw [h1] at q
      have q : ((evs cf as e1).bind fun xs e => .ok (d :: xs) e) = .ok ds e' := q
      cases h2 : evs cf as e1 with
      | no => rw [h2] at q; cases q
      | ex _ _ _ => rw [h2] at q; cases q
      | ok ds2 e2 =>
        rw [h2] at q
        cases q
        rw [List.length_cons, List.length_cons, ih h2]
theorem ses_len (h : SEs X T W cf xs as) {e : Env} {ds : List D} {e' : Env} (q : evs cf as e = .ok ds e') : ds.length = xs.length := by
  induction h generalizing e ds e' with
  | nil => cases q; rfl
  | @cons x xs a as _ _ _ _ ih =>
    have q : ((ev cf a e).bind fun x e => (evs cf as e).bind fun xs e => .ok (x :: xs) e) = .ok ds e' := q
    cases h1 : ev cf a e with
    | no => rw [h1] at q; cases q
    | ex _ _ _ => rw [h1] at q; cases q
    | ok d e1 =>
      rw [h1] at q
      have q : ((evs cf as e1).bind fun xs e => .ok (d :: xs) e) = .ok ds e' := q
      cases h2 : evs cf as e1 with
      | no => rw [h2] at q; cases q
      | ex _ _ _ => rw [h2] at q; cases q
      | ok ds2 e2 =>
        rw [h2] at q
        cases q
        rw [List.length_cons, List.length_cons, ih h2]
theorem sr_callk {f : Nat} {d : DI} {p : Pos} {kws : List Keyword} {ks : List Str} {pl : List Nat} {bs : E} (ok : Okc X T W dis cf n) (hf : dis[f]? = some d) (hg : Gl X d.name) (hd : (d.name == ("__debug__" : Str)) = false)
    (hk : KwOk X.K d.fd d.ps ks xs.length pl) (h : SEs X T W cf xs as) (hks : SKs X T W cf kws ks bs) : PE X (.Call (.Name d.name p) xs kws pos) (tEv T W cf d.df.fr (.callk f as bs pl)) := by
  -- the run of the arguments
  have F := ok.fn f d hf
  refine ⟨fun pins s σ H Q I ⟨G, e, r, q⟩ => ?_⟩
  have q : Rn T W σ e G H ((evs cf as e).bind fun xs e => (evs cf bs e).bind fun ys e => (lift (perm (xs ++ ys) pl) e).bind fun ds e => outC (cf f none ds) e fun _ => e) d.df.fr Q := q
  have rd : tA T W cf as σ H (fun vs H1 => vs.length = xs.length ∧ tA T W cf bs σ H1 (fun zs H2 => zs.length = ks.length ∧ spD T d.df (cf f) (permV pl vs zs) H2 Q (W σ))) := by
    refine ⟨G, e, r, Rn.bindR q fun ds e1 vs H1 G1 hq1 r1 s1 q1 h1 => ⟨by rw [q1.length, ses_len h hq1], G1, e1, r1, Rn.bindR h1 fun es e2 zs H2 G2 hq2 r2 s2 q2 h2 => ⟨by rw [q2.length, sk_len hks hq2], ?_⟩⟩⟩
    have h2 : Rn T W σ e2 G2 H2 ((lift (perm (ds ++ es) pl) e2).bind fun ds e => outC (cf f none ds) e fun _ => e) d.df.fr Q := h2
    cases hp : perm (ds ++ es) pl with
    | none => rw [hp] at h2; exact h2.elim
    | some gs =>
      rw [hp] at h2
      have h2 : Rn T W σ e2 G2 H2 (outC (cf f none gs) e2 fun _ => e2) d.df.fr Q := h2
      have hne : cf f none gs ≠ .no := fun z => by
        rw [z] at h2
        exact h2
      obtain ⟨l1, l2⟩ := ok.ln f d none gs hf hne
      have ra : RepA G2 (permV pl vs zs) gs := perm_rep ((q1.mono s2.gs).append q2) hp
      refine ⟨?_, G2, none, gs, rel_args r2.sub ra, l2, Rn.called r2 h2⟩
      rw [← l1, ra.length]
      exact (List.length_map ..).symm
  obtain ⟨k1, k2, k3⟩ := sk_all (p := pos) (env := X.env) hks
  have body : ∀ (us : List Value) (s1 : Shared) (vs : List V) (H1 : Hp), Inv X pins σ H1 s1 → Vals vs us → vs.length = xs.length → tA T W cf bs σ H1 (fun zs H2 => zs.length = ks.length ∧ spD T d.df (cf f) (permV pl vs zs) H2 Q (W σ)) →
      wpAny (model X.prog X.w) X.A (evalAll ((backToKw pos (keywordEach kws X.env)).map (·.2))) (fun ws s2 => X.K.In s2.heap ∧ wpAny (model X.prog X.w) X.A (call (.ref d.f) ([] ++ us) (((backToKw pos (keywordEach kws X.env)).filterMap (·.1)).zip ws)) (EP X pins σ Q) X.xe s2) X.xe s1 := by
    intro us s1 vs H1 I1 rv hl q1
    refine thn ((sk_of hks).run pos pins s1 σ H1 _ I1 q1) fun ws s2 ⟨zs, H2, I2, rz, hz, q2⟩ => ⟨I2.kIn, ?_⟩
    rw [k2, List.nil_append]
    have r2 := vals_perm pl rv rz
    refine wpAny_call (codeAny_mono (F.run X.A X.stack s2 H2 ⟨us, ks.zip ws⟩ (permV pl us ws) (permV pl vs zs) Q (W σ) ok.hr I2.env0 (hk.to s2 us ws (by rw [← rv.length, hl]) (by rw [← rz.length, hz])) r2 q2) fun r s' hq => ?_)
    cases r with
    | error e => exact ok.pass σ pins H2 s2 e s' I2 hq
    | ok fl =>
      cases fl with
      | ret u => exact I2.after hq
      | next => exact False.elim hq
      | brk => exact False.elim hq
      | cont => exact False.elim hq
  refine wpAny_Call_Name_kw (ld_glob I hg (ok.mg f d hf) ?_ hd)
  cases h with
  | nil =>
    obtain ⟨G, e, r, q⟩ := rd
    have q : RnG RepA T W σ e G H (.ok [] e) (fun vs H1 => vs.length = ([] : List Expr).length ∧ tA T W cf bs σ H1 (fun zs H2 => zs.length = ks.length ∧ spD T d.df (cf f) (permV pl vs zs) H2 Q (W σ))) := q
    have q := q.here r .nil
    exact PySem.W.callWith_KW0 (h₀ := X.base) I.ok.mod.kin (ok.kp f d hf) k1 (body [] s [] H I .nil rfl q.2) (by rw [k3]; rfl)
  | @cons x1 xs1 a1 as1 hs1 ha1 hp1 ht1 =>
    have h := SEs.cons hs1 ha1 hp1 ht1
    refine PySem.W.callWith_KW (h₀ := X.base) I.ok.mod.kin (ok.kp f d hf) k1 (thn ((sa_of h).run pos pins s σ H _ I rd) fun us s1 ⟨vs, H1, I1, rv, hl, q1⟩ => body us s1 vs H1 I1 rv hl q1) ?_ (star_cons hs1 _ _)
    rw [back_lc h, k3]
    rfl
end
end Ev
end
section
/-! ### list(zip(a, b, c)) -/
namespace PySem
open PySem.W
section
variable {prog : Program} {w : World} {A : Around} {E : Value → Shared → Prop} {s : Shared} {z TI TO T i1 i2 i3 : Addr} {fp1 fp2 fp3 : List Addr} {n1 n2 n3 i : Nat} {P1 P2 P3 : Nat → Value → Prop} {St1 St2 St3 : Nat → Heap → Prop} {f : Bool} {oT : Obj}
theorem zip3_next_item_held {Q : Value → Shared → Prop} (S : ZipSep3 z TI TO i1 i2 i3 fp1 fp2 fp3) (D1 : Draws prog w A i1 fp1 n1 P1 St1) (D2 : Draws prog w A i2 fp2 n2 P2 St2) (D3 : Draws prog w A i3 fp3 n3 P3 St3)
    (hz : IsZipHeld s.heap z TI TO T f) (hT : s.heap.get? T = some oT) (hTI : IsTupOf3 s.heap TI (.ref i1) (.ref i2) (.ref i3)) (st1 : St1 i s.heap) (st2 : St2 i s.heap) (st3 : St3 i s.heap) (hlt1 : i < n1) (hlt2 : i < n2) (hlt3 : i < n3)
    (hQ : ∀ x1 x2 x3 h' tk, P1 i x1 → P2 i x2 → P3 i x3 → IsZipHeld h' z TI TO T true → St1 (i + 1) h' → St2 (i + 1) h' → St3 (i + 1) h' → IsTupOf3 h' s.heap.objs.size x1 x2 x3 → h'.objs.size = s.heap.objs.size + 1 →
      (∀ c o, c ≠ z → c ≠ i1 → c ≠ i2 → c ≠ i3 → s.heap.get? c = some o → h'.get? c = some o) → Q (.ref s.heap.objs.size) { s with heap := h', toks := tk }) :
    wpAny (model prog w) A (Builtin.«zip.__next__» ⟨[.ref z], []⟩) (fun fin s' => ∃ v, fin = .done (.ret v) ∧ Q v s') E s := by
  obtain ⟨hp, g, d, tk0, os⟩ := s
  show wpAny _ _ (field (.ref z) 2 >>= _) _ _ _
  refine wpAny_bind (wpAny_field hz rfl (x := .bool false) rfl ?_)
  show wpAny _ _ (field (.ref z) 3 >>= _) _ _ _
  refine wpAny_bind (wpAny_field hz rfl (x := .ref TI) rfl ?_)
  refine wpAny_bind (wpAny_seqItems hTI rfl ?_)
  show wpAny _ _ (Builtin.SmallTypes.ownedTupleIsFree (.ref z) >>= _) _ _ _
  refine wpAny_bind (wpAny_tupleHeld_zip hz hT fun g0 hz0 hs0 => ?_)
  replace hs0 : Heap.SameBut z hp g0 := hs0
  simp only [Bool.false_eq_true, if_false]
  refine wpAny_bind ?_
  rw [← Array.forIn_toList]
  simp only [List.forIn_cons, List.forIn_nil]
  refine wpAny_bind (wpAny_bind (wpAny_holding ?_))
  show wpAny _ _ (Builtin.SmallTypes.nextOf (.ref i1) >>= _) _ _ ⟨g0, g, d, tk0, os⟩
  refine wpAny_bind (D1.item i _ _ _ hlt1 (D1.over st1 hs0 S.zf1) fun x1 p1 tk1 hx1 sn1 hp1 => wpAny_pure ?_)
  replace hp1 : Heap.SameBut i1 g0 p1 := hp1
  refine wpAny_pure ?_
  refine wpAny_bind (wpAny_bind (wpAny_holding ?_))
  show wpAny _ _ (Builtin.SmallTypes.nextOf (.ref i2) >>= _) _ _ ⟨p1, g, d, tk1, os⟩
  refine wpAny_bind (D2.item i _ _ _ hlt2 (D2.over (D2.over st2 hs0 S.zf2) hp1 S.sep1_2) fun x2 p2 tk2 hx2 sn2 hp2 => wpAny_pure ?_)
  replace hp2 : Heap.SameBut i2 p1 p2 := hp2
  refine wpAny_pure ?_
  refine wpAny_bind (wpAny_bind (wpAny_holding ?_))
  show wpAny _ _ (Builtin.SmallTypes.nextOf (.ref i3) >>= _) _ _ ⟨p2, g, d, tk2, os⟩
  refine wpAny_bind (D3.item i _ _ _ hlt3 (D3.over (D3.over (D3.over st3 hs0 S.zf3) hp1 S.sep1_3) hp2 S.sep2_3) fun x3 p3 tk3 hx3 sn3 hp3 => wpAny_pure ?_)
  replace hp3 : Heap.SameBut i3 p2 p3 := hp3
  refine wpAny_pure (wpAny_pure ?_)
  show wpAny _ _ (newTuple [x1, x2, x3] >>= _) _ _ ⟨p3, g, d, tk3, os⟩
  refine wpAny_bind (wpAny_newTuple ?_)
  have hsz : p3.objs.size = hp.objs.size := by rw [hp3.1, hp2.1, hp1.1, hs0.1]
  have hzz : IsZipHeld p3 z TI TO T true := hp3.extBut _ _ S.zi3 (hp2.extBut _ _ S.zi2 (hp1.extBut _ _ S.zi1 hz0))
  have hkk : ∀ c o, c ≠ z → c ≠ i1 → c ≠ i2 → c ≠ i3 → hp.get? c = some o → p3.get? c = some o := fun c o cz c1 c2 c3 e => hp3.extBut _ _ c3 (hp2.extBut _ _ c2 (hp1.extBut _ _ c1 (hs0.extBut _ _ cz e)))
  have hj1 : St1 (i + 1) p3 := D1.over (D1.over sn1 hp2 S.sep2_1) hp3 S.sep3_1
  have hj2 : St2 (i + 1) p3 := D2.over sn2 hp3 S.sep3_2
  have hT8 : IsTupOf3 (p3.push { cls := .type "tuple", data := .seq #[x1, x2, x3] }) p3.objs.size x1 x2 x3 := Heap.get?_push_size _ rfl
  have hz8 : (p3.push { cls := .type "tuple", data := .seq #[x1, x2, x3] }).objs.size = p3.objs.size + 1 := Heap.size_push ..
  have up : ∀ c o, p3.get? c = some o → (p3.push { cls := .type "tuple", data := .seq #[x1, x2, x3] }).get? c = some o := fun c o e => Heap.get?_push_of_some _ e
  refine wpAny_pure ⟨_, rfl, ?_⟩
  show Q (.ref p3.objs.size) ⟨p3.push { cls := .type "tuple", data := .seq #[x1, x2, x3] }, g, d, tk3, os⟩
  rw [hsz] at hT8 hz8 ⊢
  exact hQ x1 x2 x3 _ tk3 hx1 hx2 hx3 (up _ _ hzz) (D1.frame _ _ _ hj1 fun b hb o e => up b o e) (D2.frame _ _ _ hj2 fun b hb o e => up b o e) (D3.frame _ _ _ sn3 fun b hb o e => up b o e) hT8 hz8 fun c o cz c1 c2 c3 e => up c o (hkk c o cz c1 c2 c3 e)
theorem zip3_next_end_held {Q : Fin → Shared → Prop} (S : ZipSep3 z TI TO i1 i2 i3 fp1 fp2 fp3) (D1 : Draws prog w A i1 fp1 n1 P1 St1)
    (hz : IsZipHeld s.heap z TI TO T f) (hT : s.heap.get? T = some oT) (hTI : IsTupOf3 s.heap TI (.ref i1) (.ref i2) (.ref i3)) (st1 : St1 n1 s.heap)
    (hE : ∀ h' e, (∀ c o, c ≠ z → c ≠ i1 → s.heap.get? c = some o → h'.get? c = some o) → (∃ o, h'.get? e = some o ∧ o.cls = .type "StopIteration") → E (.ref e) { s with heap := h' }) :
    wpAny (model prog w) A (Builtin.«zip.__next__» ⟨[.ref z], []⟩) Q E s := by
  show wpAny _ _ (field (.ref z) 2 >>= _) _ _ _
  refine wpAny_bind (wpAny_field hz rfl (x := .bool false) rfl ?_)
  show wpAny _ _ (field (.ref z) 3 >>= _) _ _ _
  refine wpAny_bind (wpAny_field hz rfl (x := .ref TI) rfl ?_)
  refine wpAny_bind (wpAny_seqItems hTI rfl ?_)
  show wpAny _ _ (Builtin.SmallTypes.ownedTupleIsFree (.ref z) >>= _) _ _ _
  refine wpAny_bind (wpAny_tupleHeld_zip hz hT fun h₁ hz₁ hs₁ => ?_)
  simp only [Bool.false_eq_true, if_false]
  refine wpAny_bind ?_
  rw [← Array.forIn_toList]
  simp only [List.forIn_cons, List.forIn_nil]
  refine wpAny_bind (wpAny_bind (wpAny_holding ?_))
  show wpAny _ _ (Builtin.SmallTypes.nextOf (.ref i1) >>= _) _ _ { s with heap := h₁ }
  refine wpAny_bind (D1.done _ _ _ (D1.over st1 hs₁ S.zf1) fun h₂ e hs₂ he => ?_)
  exact hE h₂ e (fun c o c1 c2 x => hs₂ _ _ c2 (hs₁.extBut _ _ c1 x)) he
theorem pyNext_zip3_item_held {Q : Option Value → Shared → Prop} (S : ZipSep3 z TI TO i1 i2 i3 fp1 fp2 fp3) (D1 : Draws prog w A.in1 i1 fp1 n1 P1 St1) (D2 : Draws prog w A.in1 i2 fp2 n2 P2 St2) (D3 : Draws prog w A.in1 i3 fp3 n3 P3 St3)
    (hz : IsZipHeld s.heap z TI TO T f) (hT : s.heap.get? T = some oT) (hTI : IsTupOf3 s.heap TI (.ref i1) (.ref i2) (.ref i3)) (st1 : St1 i s.heap) (st2 : St2 i s.heap) (st3 : St3 i s.heap) (hlt1 : i < n1) (hlt2 : i < n2) (hlt3 : i < n3)
    (hQ : ∀ x1 x2 x3 h' tk, P1 i x1 → P2 i x2 → P3 i x3 → IsZipHeld h' z TI TO T true → St1 (i + 1) h' → St2 (i + 1) h' → St3 (i + 1) h' → IsTupOf3 h' s.heap.objs.size x1 x2 x3 → h'.objs.size = s.heap.objs.size + 1 →
      (∀ c o, c ≠ z → c ≠ i1 → c ≠ i2 → c ≠ i3 → s.heap.get? c = some o → h'.get? c = some o) → Q (some (.ref s.heap.objs.size)) { s with heap := h', toks := tk }) :
    wpAny (model prog w) A (pyNext (.ref z)) Q E s := by
  have hTy : s.TypeIs (.ref z) "zip" := ⟨_, hz, rfl⟩
  unfold pyNext
  exact wpAny_bind (wpAny_attempt (wpAny_callSpecial?_slot (name := Str.ofString "__next__") hTy F.slot_zip_next
    (wpAny_call_entry F.slot_zip_next hTy F.entry_zip_next
      (zip3_next_item_held S D1 D2 D3 hz hT hTI st1 st2 st3 hlt1 hlt2 hlt3 fun x1 x2 x3 h' tk y1 y2 y3 b1 d1 d2 d3 b5 b6 b7 => wpAny_pure (hQ x1 x2 x3 h' tk y1 y2 y3 b1 d1 d2 d3 b5 b6 b7)) (F.args_zip_next_1 _))))
theorem pyNext_zip3_end_held {Q : Option Value → Shared → Prop} (S : ZipSep3 z TI TO i1 i2 i3 fp1 fp2 fp3) (D1 : Draws prog w A.in1 i1 fp1 n1 P1 St1)
    (hz : IsZipHeld s.heap z TI TO T f) (hT : s.heap.get? T = some oT) (hTI : IsTupOf3 s.heap TI (.ref i1) (.ref i2) (.ref i3)) (st1 : St1 n1 s.heap)
    (hQ : ∀ h', (∀ c o, c ≠ z → c ≠ i1 → s.heap.get? c = some o → h'.get? c = some o) → Q none { s with heap := h' }) : wpAny (model prog w) A (pyNext (.ref z)) Q E s := by
  have hTy : s.TypeIs (.ref z) "zip" := ⟨_, hz, rfl⟩
  unfold pyNext
  refine wpAny_bind (wpAny_attempt (wpAny_callSpecial?_slot (name := Str.ofString "__next__") hTy F.slot_zip_next
    (wpAny_call_entry F.slot_zip_next hTy F.entry_zip_next (zip3_next_end_held S D1 hz hT hTI st1 fun h' e hk he => ?_) (F.args_zip_next_1 _))))
  obtain ⟨o, ho, hc⟩ := he
  refine wpAny_bind (wpAny_isInstance (T := "StopIteration") (b := true) ⟨o, ho, hc⟩ isSubtype_stop ?_)
  exact wpAny_pure (hQ _ hk)
end
namespace F
theorem zip_no_len : typeLookup (.type "zip") "__len__" = pure none := by rw [typeLookup_type, builtinLookup_eq_fast]; kernel_rfl
theorem zip_no_hint : typeLookup (.type "zip") "__length_hint__" = pure none := by rw [typeLookup_type, builtinLookup_eq_fast]; kernel_rfl
end F
/-- a zip of three that a list at S is filled from -/
structure Z3 (prog : Program) (w : World) (A : Around) (S z TI TO i1 i2 i3 : Addr) (fp1 fp2 fp3 : List Addr) (n : Nat) (P1 P2 P3 : Nat → Value → Prop) (St1 St2 St3 : Nat → Heap → Prop) : Prop where
  sep : ZipSep3 z TI TO i1 i2 i3 fp1 fp2 fp3
  d1 : Draws prog w A i1 fp1 n P1 St1
  d2 : Draws prog w A i2 fp2 n P2 St2
  d3 : Draws prog w A i3 fp3 n P3 St3
  s1 : S ∉ fp1
  s2 : S ∉ fp2
  s3 : S ∉ fp3
  lz : z < S
  lTI : TI < S
  lTO : TO < S
  l1 : i1 < S
  l2 : i2 < S
  l3 : i3 < S
/-- how it stands -/
def Z3St (h : Heap) (z TI TO i1 i2 i3 S : Addr) (St1 St2 St3 : Nat → Heap → Prop) (i : Nat) : Prop :=
  IsTupOf3 h TI (.ref i1) (.ref i2) (.ref i3) ∧ St1 i h ∧ St2 i h ∧ St3 i h ∧ ((IsZip h z TI TO .none ∧ ∃ a b c, IsTupOf3 h TO a b c) ∨ ∃ (T : Addr) (f : Bool) (oT : Obj), IsZipHeld h z TI TO T f ∧ h.get? T = some oT ∧ S < T)
/-- the tuples that came of it -/
structure Z3G (P1 P2 P3 : Nat → Value → Prop) (lo : Addr) (h : Heap) (as : List Addr) : Prop where
  rise : as.Pairwise (· < ·)
  above : ∀ a ∈ as, lo < a
  tups : ∀ (j : Nat) (a : Addr), as[j]? = some a → ∃ x1 x2 x3, P1 j x1 ∧ P2 j x2 ∧ P3 j x3 ∧ IsTupOf3 h a x1 x2 x3
theorem Z3G.there {P1 P2 P3 : Nat → Value → Prop} {lo : Addr} {h : Heap} {as : List Addr} (g : Z3G P1 P2 P3 lo h as) {a : Addr} (ha : a ∈ as) : a < h.objs.size := by
  obtain ⟨j, hj⟩ := List.mem_iff_getElem?.mp ha
  obtain ⟨_, _, _, _, _, _, e⟩ := g.tups j a hj
  exact Heap.lt_size e
section
variable {prog : Program} {w : World} {A : Around} {s : Shared} {R : Result → Shared → Prop} {S z TI TO i1 i2 i3 : Addr} {fp1 fp2 fp3 : List Addr} {n : Nat} {P1 P2 P3 : Nat → Value → Prop} {St1 St2 St3 : Nat → Heap → Prop}
theorem z3_loop (M : Z3 prog w A.in1.in1 S z TI TO i1 i2 i3 fp1 fp2 fp3 n P1 P2 P3 St1 St2 St3) (hn : n ≤ sizeLine) (res : Value) {h₁ : Heap}
    (hR : ∀ h' tk acc c as, (∀ b o, b ≠ S → b ≠ z → b ≠ TO → b ≠ i1 → b ≠ i2 → b ≠ i3 → h₁.get? b = some o → h'.get? b = some o) → h'.get? S = some { cls := .type "list", dict := none, data := .seq acc c, slots := #[] } → as.length = n → Z3G P1 P2 P3 S h' as →
      acc.toList = as.map Value.ref → R (.ok (.ret res)) { s with heap := h', toks := tk }) :
    ∀ (k i : Nat) (h : Heap) (tk c : Nat) (acc : Array Value) (as : List Addr), n - i = k → i ≤ n → Z3St h z TI TO i1 i2 i3 S St1 St2 St3 i → (∀ b o, b ≠ S → b ≠ z → b ≠ TO → b ≠ i1 → b ≠ i2 → b ≠ i3 → h₁.get? b = some o → h.get? b = some o) →
      h.get? S = some { cls := .type "list", dict := none, data := .seq acc c, slots := #[] } → acc.toList = as.map Value.ref → as.length = i → Z3G P1 P2 P3 S h as →
      codeAny (model prog w) A (.builtin "list.extend.loop" ⟨[.ref S, .ref z, res], []⟩) R { s with heap := h, toks := tk } := by
  have nz : S ≠ z := Nat.ne_of_gt M.lz
  have nTI : S ≠ TI := Nat.ne_of_gt M.lTI
  have nTO : S ≠ TO := Nat.ne_of_gt M.lTO
  have n1 : S ≠ i1 := Nat.ne_of_gt M.l1
  have n2 : S ≠ i2 := Nat.ne_of_gt M.l2
  have n3 : S ≠ i3 := Nat.ne_of_gt M.l3
  have hiA : ∀ {a : Addr}, S < a → a ≠ S ∧ a ≠ z ∧ a ≠ TI ∧ a ≠ TO ∧ a ≠ i1 ∧ a ≠ i2 ∧ a ≠ i3 := fun {a} h => ⟨Nat.ne_of_gt h, Nat.ne_of_gt (Nat.lt_trans M.lz h), Nat.ne_of_gt (Nat.lt_trans M.lTI h), Nat.ne_of_gt (Nat.lt_trans M.lTO h), Nat.ne_of_gt (Nat.lt_trans M.l1 h), Nat.ne_of_gt (Nat.lt_trans M.l2 h), Nat.ne_of_gt (Nat.lt_trans M.l3 h)⟩
  intro k
  induction k with
  | zero =>
    intro i h tk c acc as hk hi hst hkeep hS hacc hal hG
    have hin : i = n := by omega
    subst hin
    refine codeAny_builtin PySem.F.entry_extend_loop ?_
    rw [Around.under_plainId PySem.F.plain_extend_loop _]
    show wpAny _ A.in1 (pyNext (.ref z) >>= _) _ _ _
    have done : ∀ (h' : Heap) (tk' : Nat), (∀ c o, c ≠ z → c ≠ TO → c ≠ i1 → c ≠ i2 → c ≠ i3 → h.get? c = some o → h'.get? c = some o) → R (.ok (.ret res)) { s with heap := h', toks := tk' } := fun h' tk' up =>
      hR h' tk' acc c as (fun b o a1 a2 a3 a4 a5 a6 e => up b o a2 a3 a4 a5 a6 (hkeep b o a1 a2 a3 a4 a5 a6 e)) (up S _ nz nTO n1 n2 n3 hS) hal ⟨hG.rise, hG.above, fun j a hj => by
        obtain ⟨x1, x2, x3, p1, p2, p3, e⟩ := hG.tups j a hj
        obtain ⟨b0, b1, b2, b3, b4, b5, b6⟩ := hiA (hG.above a (List.mem_of_getElem? hj))
        exact ⟨x1, x2, x3, p1, p2, p3, up a _ b1 b3 b4 b5 b6 e⟩⟩ hacc
    obtain ⟨hTI, st1, st2, st3, ⟨hz, a1, a2, a3, hTO⟩ | ⟨T, f, oT, hz, hT, lT⟩⟩ := hst
    · refine wpAny_bind (wpAny_pyNext_zipD3_end (s := { s with heap := h, toks := tk }) (A := A.in1) M.sep M.d1 M.d2 M.d3 hz hTI hTO st1 st2 st3 (Nat.le_refl _) (Nat.le_refl _) (Nat.le_refl _) (.inl rfl) fun h' tk' up => ?_)
      exact wpAny_pure (done h' tk' up)
    · refine wpAny_bind (pyNext_zip3_end_held (s := { s with heap := h, toks := tk }) (A := A.in1) M.sep M.d1 hz hT hTI st1 fun h' up => ?_)
      exact wpAny_pure (done h' tk fun c o c1 c2 c3 c4 c5 e => up c o c1 c3 e)
  | succ k ih =>
    intro i h tk c acc as hk hi hst hkeep hS hacc hal hG
    have hlt : i < n := by omega
    have hsz : acc.size = i := by rw [← Array.length_toList, hacc, List.length_map, hal]
    have hSl : S < h.objs.size := Heap.lt_size hS
    refine codeAny_builtin PySem.F.entry_extend_loop ?_
    rw [Around.under_plainId PySem.F.plain_extend_loop _]
    show wpAny _ A.in1 (pyNext (.ref z) >>= _) _ _ _
    have next : ∀ (x1 x2 x3 : Value) (h' : Heap) (tk' : Nat), P1 i x1 → P2 i x2 → P3 i x3 → (∃ T f oT, IsZipHeld h' z TI TO T f ∧ h'.get? T = some oT ∧ S < T) → St1 (i + 1) h' → St2 (i + 1) h' → St3 (i + 1) h' → IsTupOf3 h' h.objs.size x1 x2 x3 → h'.objs.size = h.objs.size + 1 → (∀ c o, c ≠ z → c ≠ TO → c ≠ i1 → c ≠ i2 → c ≠ i3 → h.get? c = some o → h'.get? c = some o) → IsTupOf3 h' TI (.ref i1) (.ref i2) (.ref i3) →
        codeAny (model prog w) A (.builtin "list.extend.loop" ⟨[.ref S, .ref z, res], []⟩) R { s with heap := h'.update S (Obj.mapSeq (·.push (Value.ref h.objs.size))), toks := tk' } := by
      intro x1 x2 x3 h' tk' q1 q2 q3 hz' t1 t2 t3 hT hzz up hTI'
      obtain ⟨T', f', oT', hz', hT'', lT'⟩ := hz'
      have hS' : h'.get? S = some { cls := .type "list", dict := none, data := .seq acc c, slots := #[] } := up S _ nz nTO n1 n2 n3 hS
      have up2 : ∀ b o, b ≠ S → h'.get? b = some o → (h'.update S (Obj.mapSeq (·.push (Value.ref h.objs.size)))).get? b = some o := fun b o hb e => (Heap.get?_update_other _ _ (Ne.symm hb)).trans e
      obtain ⟨b0, b1, b2, b3, b4, b5, b6⟩ := hiA hSl
      refine ih (i + 1) _ tk' _ (acc.push (Value.ref h.objs.size)) (as ++ [h.objs.size]) (by omega) hlt ⟨up2 _ _ (Ne.symm nTI) hTI', M.d1.frame _ _ _ t1 fun b hb o e => up2 b o (fun q => M.s1 (q ▸ hb)) e, M.d2.frame _ _ _ t2 fun b hb o e => up2 b o (fun q => M.s2 (q ▸ hb)) e, M.d3.frame _ _ _ t3 fun b hb o e => up2 b o (fun q => M.s3 (q ▸ hb)) e, .inr ⟨T', f', oT', up2 _ _ (Ne.symm nz) hz', up2 _ _ (Nat.ne_of_gt lT') hT'', lT'⟩⟩
        (fun b o c1 c2 c3 c4 c5 c6 e => up2 b o c1 (up b o c2 c3 c4 c5 c6 (hkeep b o c1 c2 c3 c4 c5 c6 e))) (Heap.get?_update_self _ hS' rfl) (by rw [Array.toList_push, hacc, List.map_append]; rfl) (by rw [List.length_append, hal]; rfl) ⟨?_, ?_, ?_⟩
      · refine List.pairwise_append.mpr ⟨hG.rise, List.pairwise_singleton _ _, fun a ha b hb => ?_⟩
        rw [List.mem_singleton.mp hb]
        exact hG.there ha
      · intro a ha
        rcases List.mem_append.mp ha with ha | ha
        · exact hG.above a ha
        · rw [List.mem_singleton.mp ha]; exact hSl
      · intro j b hj
        rcases Nat.lt_trichotomy j as.length with h1 | h1 | h1
        · rw [List.getElem?_append_left h1] at hj
          obtain ⟨y1, y2, y3, p1, p2, p3, e3⟩ := hG.tups j b hj
          obtain ⟨d0, d1, d2, d3, d4, d5, d6⟩ := hiA (hG.above b (List.mem_of_getElem? hj))
          exact ⟨y1, y2, y3, p1, p2, p3, up2 b _ d0 (up b _ d1 d3 d4 d5 d6 e3)⟩
        · subst h1
          have hb : h.objs.size = b := by simpa using hj
          subst hb
          rw [hal]
          exact ⟨x1, x2, x3, q1, q2, q3, up2 _ _ b0 hT⟩
        · have hnone : (as ++ [h.objs.size])[j]? = none := List.getElem?_eq_none (by rw [List.length_append, List.length_singleton]; omega)
          rw [hnone] at hj; cases hj
    have tail : ∀ (h' : Heap) (tk' : Nat), (∀ c o, c ≠ z → c ≠ TO → c ≠ i1 → c ≠ i2 → c ≠ i3 → h.get? c = some o → h'.get? c = some o) → codeAny (model prog w) A (.builtin "list.extend.loop" ⟨[.ref S, .ref z, res], []⟩) R { s with heap := h'.update S (Obj.mapSeq (·.push (Value.ref h.objs.size))), toks := tk' } →
        wpAny (model prog w) A.in1 (updateSeq S (·.push (Value.ref h.objs.size)) >>= fun _ => again (.builtin "list.extend.loop" ⟨[.ref S, .ref z, res], []⟩)) (fun fin s' => match fin with | .done f => R (.ok f) s' | .again c' => c'.quiet = true ∧ codeAny (model prog w) A c' R s') (fun e s' => R (.error e) s') { s with heap := h', toks := tk' } := fun h' tk' up q => by
      have hS' : h'.get? S = some { cls := .type "list", dict := none, data := .seq acc c, slots := #[] } := up S _ nz nTO n1 n2 n3 hS
      refine wpAny_bind ?_
      exact wpAny_updateSeq hS' rfl (wpAny_pure ⟨plainId_quiet PySem.F.plain_extend_loop _, q⟩) (by rw [hsz]; omega) (by show (acc.push (Value.ref h.objs.size)).size ≤ sizeLine + 1; rw [Array.size_push, hsz]; omega)
    obtain ⟨hTI, st1, st2, st3, ⟨hz, a1, a2, a3, hTO⟩ | ⟨T, f, oT, hz, hT, lT⟩⟩ := hst
    · refine wpAny_bind (wpAny_pyNext_zipD3_item (s := { s with heap := h, toks := tk }) (A := A.in1) M.sep M.d1 M.d2 M.d3 hz hTI hTO st1 st2 st3 hlt hlt hlt fun x1 x2 x3 h' tk' q1 q2 q3 hz' hTO' t1 t2 t3 hT' hzz up => ?_)
      exact tail h' (tk' : Nat) up (next x1 x2 x3 h' tk' q1 q2 q3 ⟨_, false, _, hz', hT', hSl⟩ t1 t2 t3 hT' hzz up (up TI _ M.sep.TIz M.sep.TITO M.sep.TIi1 M.sep.TIi2 M.sep.TIi3 hTI))
    · refine wpAny_bind (pyNext_zip3_item_held (s := { s with heap := h, toks := tk }) (A := A.in1) M.sep M.d1 M.d2 M.d3 hz hT hTI st1 st2 st3 hlt hlt hlt fun x1 x2 x3 h' tk' q1 q2 q3 hz' t1 t2 t3 hT' hzz up => ?_)
      have up' : ∀ c o, c ≠ z → c ≠ TO → c ≠ i1 → c ≠ i2 → c ≠ i3 → h.get? c = some o → h'.get? c = some o := fun c o c1 _ c3 c4 c5 e => up c o c1 c3 c4 c5 e
      obtain ⟨d0, d1, d2, d3, d4, d5, d6⟩ := hiA lT
      exact tail h' tk' up' (next x1 x2 x3 h' tk' q1 q2 q3 ⟨T, true, oT, hz', up' T _ d1 d3 d4 d5 d6 hT, lT⟩ t1 t2 t3 hT' hzz up' (up' TI _ M.sep.TIz M.sep.TITO M.sep.TIi1 M.sep.TIi2 M.sep.TIi3 hTI))
theorem z3_extend (M : Z3 prog w A.in1.in1 S z TI TO i1 i2 i3 fp1 fp2 fp3 n P1 P2 P3 St1 St2 St3) (hn : n ≤ sizeLine) (res : Value) (c₀ : Nat) (hz : IsZip s.heap z TI TO .none) (hTI : IsTupOf3 s.heap TI (.ref i1) (.ref i2) (.ref i3)) {a b c : Value} (hTO : IsTupOf3 s.heap TO a b c) (st1 : St1 0 s.heap) (st2 : St2 0 s.heap) (st3 : St3 0 s.heap)
    (hS : s.heap.get? S = some { cls := .type "list", data := .seq #[] c₀ })
    (hR : ∀ h' tk acc c as, (∀ b o, b ≠ S → b ≠ z → b ≠ TO → b ≠ i1 → b ≠ i2 → b ≠ i3 → s.heap.get? b = some o → h'.get? b = some o) → h'.get? S = some { cls := .type "list", dict := none, data := .seq acc c, slots := #[] } → as.length = n → Z3G P1 P2 P3 S h' as →
      acc.toList = as.map Value.ref → R (.ok (.ret res)) { s with heap := h', toks := tk }) :
    wpAny (model prog w) A.in1 (Builtin.List.listExtendWith (.ref S) (.ref z) res)
      (fun fin s' => match fin with | .done f => R (.ok f) s' | .again c' => c'.quiet = true ∧ codeAny (model prog w) A c' R s') (fun e s' => R (.error e) s') s := by
  have nSz : S ≠ z := Nat.ne_of_gt M.lz
  have hTy : s.TypeIs (.ref z) "zip" := ⟨_, hz, rfl⟩
  unfold Builtin.List.listExtendWith
  refine wpAny_bind (wpAny_typeOf hTy ?_)
  have h1 : Builtin.List.listSameRef (.ref S) (.ref z) = false := by simp [Builtin.List.listSameRef, nSz]
  have h2 : (Value.type "zip" == Value.type "list") = false := by decide
  have h3 : (Value.type "zip" == Value.type "tuple") = false := by decide
  simp only [h1, h2, h3, Bool.or_false, Bool.false_eq_true, if_false]
  refine wpAny_bind (wpAny_pyIter_zip hz ?_)
  refine wpAny_bind (wpAny_holding ?_)
  unfold Builtin.List.listLengthHint
  refine wpAny_bind (wpAny_specialOf hTy F.zip_no_len ?_)
  show wpAny _ A.in1 (specialOf (Value.ref z) (Str.ofString "__length_hint__") >>= _) _ _ _
  refine wpAny_bind (wpAny_specialOf hTy F.zip_no_hint ?_)
  refine wpAny_pure ?_
  show wpAny _ A.in1 (rule "list.extend.makes-room" >>= fun _ => Builtin.List.listTouch (.ref S) >>= fun _ =>
    again (.builtin "list.extend.loop" ⟨[.ref S, .ref z, res], []⟩)) _ _ _
  refine wpAny_bind (wpAny_rule ?_)
  refine wpAny_bind ?_
  show wpAny _ A.in1 (updateSeq S (·.push .none) >>= fun _ => updateSeq S (·.pop)) _ _ _
  refine wpAny_bind (wpAny_updateSeq hS rfl ?_)
  have hS₂ := Heap.get?_update_self (Obj.mapSeq (·.push Value.none)) hS rfl
  refine wpAny_updateSeq (hz := by seq_fits) hS₂ rfl ?_
  have hS₃ := Heap.get?_update_self (Obj.mapSeq (·.pop)) hS₂ rfl
  have oth : ∀ b o, b ≠ S → s.heap.get? b = some o → ((s.heap.update S (Obj.mapSeq (·.push Value.none))).update S (Obj.mapSeq (·.pop))).get? b = some o :=
    fun b o hb e => (Heap.get?_update_other _ _ (Ne.symm hb)).trans ((Heap.get?_update_other _ _ (Ne.symm hb)).trans e)
  refine wpAny_pure ⟨plainId_quiet PySem.F.plain_extend_loop _, ?_⟩
  exact z3_loop M hn res (h₁ := s.heap) (s := s) hR n 0 _ s.toks _ #[] [] (Nat.sub_zero _) (Nat.zero_le _)
    ⟨oth _ _ (Nat.ne_of_lt M.lTI) hTI, M.d1.frame _ _ _ st1 fun b hb o e => oth b o (fun q => M.s1 (q ▸ hb)) e, M.d2.frame _ _ _ st2 fun b hb o e => oth b o (fun q => M.s2 (q ▸ hb)) e, M.d3.frame _ _ _ st3 fun b hb o e => oth b o (fun q => M.s3 (q ▸ hb)) e, .inl ⟨oth _ _ (Ne.symm nSz) hz, a, b, c, oth _ _ (Nat.ne_of_lt M.lTO) hTO⟩⟩
    (fun b o hb _ _ _ _ _ e => oth b o hb e) hS₃ rfl rfl ⟨List.Pairwise.nil, (fun _ ha => nomatch ha), (fun j a hj => by simp at hj)⟩
theorem z3_init (M : Z3 prog w A.in1.in1 S z TI TO i1 i2 i3 fp1 fp2 fp3 n P1 P2 P3 St1 St2 St3) (hn : n ≤ sizeLine) (hz : IsZip s.heap z TI TO .none) (hTI : IsTupOf3 s.heap TI (.ref i1) (.ref i2) (.ref i3)) {a b c : Value} (hTO : IsTupOf3 s.heap TO a b c) (st1 : St1 0 s.heap) (st2 : St2 0 s.heap) (st3 : St3 0 s.heap)
    (hS : s.heap.get? S = some { cls := .type "list", data := .seq #[] })
    (hR : ∀ h' tk acc c as, (∀ b o, b ≠ S → b ≠ z → b ≠ TO → b ≠ i1 → b ≠ i2 → b ≠ i3 → s.heap.get? b = some o → h'.get? b = some o) → h'.get? S = some { cls := .type "list", dict := none, data := .seq acc c, slots := #[] } → as.length = n → Z3G P1 P2 P3 S h' as →
      acc.toList = as.map Value.ref → R (.ok (.ret .none)) { s with heap := h', toks := tk }) :
    wpAny (model prog w) A.in1 (Builtin.«list.__init__» ⟨[.ref S, .ref z], []⟩)
      (fun fin s' => match fin with | .done f => R (.ok f) s' | .again c' => c'.quiet = true ∧ codeAny (model prog w) A c' R s') (fun e s' => R (.error e) s') s := by
  show wpAny _ A.in1 (do let old ← Builtin.List.listItems (.ref S); Builtin.List.listUpdate (.ref S) (fun _ => #[]); letGo old.toList.reverse; Builtin.List.listExtendWith (.ref S) (.ref z) .none) _ _ s
  refine wpAny_bind ?_
  unfold Builtin.List.listItems
  refine wpAny_bind (wpAny_seqItems hS rfl (wpAny_pure ?_))
  show wpAny _ A.in1 (updateSeq S (fun _ => #[]) >>= fun _ => letGo (#[] : Array Value).toList.reverse >>= fun _ => Builtin.List.listExtendWith (.ref S) (.ref z) .none) _ _ s
  refine wpAny_bind (wpAny_updateSeq hS rfl ?_)
  have hS₂ := Heap.get?_update_self (Obj.mapSeq (fun _ => (#[] : Array Value))) hS rfl
  have oth : ∀ b o, b ≠ S → s.heap.get? b = some o → (s.heap.update S (Obj.mapSeq (fun _ => (#[] : Array Value)))).get? b = some o :=
    fun b o hb e => (Heap.get?_update_other _ _ (Ne.symm hb)).trans e
  refine wpAny_bind (wpAny_letGo ?_)
  refine z3_extend M hn .none _ (oth _ _ (Nat.ne_of_lt M.lz) hz) (oth _ _ (Nat.ne_of_lt M.lTI) hTI) (oth _ _ (Nat.ne_of_lt M.lTO) hTO) (M.d1.frame _ _ _ st1 fun b hb o e => oth b o (fun q => M.s1 (q ▸ hb)) e) (M.d2.frame _ _ _ st2 fun b hb o e => oth b o (fun q => M.s2 (q ▸ hb)) e) (M.d3.frame _ _ _ st3 fun b hb o e => oth b o (fun q => M.s3 (q ▸ hb)) e) hS₂ fun h' tk acc c as hk hS' hl hG hacc => ?_
  exact hR h' tk acc c as (fun b o d0 d1 d2 d3 d4 d5 e => hk b o d0 d1 d2 d3 d4 d5 (oth b o d0 e)) hS' hl hG hacc
theorem z3_call {E : Value → Shared → Prop} {Q : Value → Shared → Prop} (sep : ZipSep3 z TI TO i1 i2 i3 fp1 fp2 fp3) (d1 : Draws prog w A.in1.in1.in1 i1 fp1 n P1 St1) (d2 : Draws prog w A.in1.in1.in1 i2 fp2 n P2 St2) (d3 : Draws prog w A.in1.in1.in1 i3 fp3 n P3 St3) (b1 : ∀ b ∈ fp1, b < s.heap.objs.size) (b2 : ∀ b ∈ fp2, b < s.heap.objs.size) (b3 : ∀ b ∈ fp3, b < s.heap.objs.size)
    (hn : n ≤ sizeLine) (hz : IsZip s.heap z TI TO .none) (hTI : IsTupOf3 s.heap TI (.ref i1) (.ref i2) (.ref i3)) {a b c : Value} (hTO : IsTupOf3 s.heap TO a b c) (st1 : St1 0 s.heap) (st2 : St2 0 s.heap) (st3 : St3 0 s.heap)
    (hQ : ∀ h' tk acc c as, (∀ b o, b ≠ z → b ≠ TO → b ≠ i1 → b ≠ i2 → b ≠ i3 → s.heap.get? b = some o → h'.get? b = some o) → h'.get? s.heap.objs.size = some { cls := .type "list", dict := none, data := .seq acc c, slots := #[] } → as.length = n → Z3G P1 P2 P3 s.heap.objs.size h' as →
      acc.toList = as.map Value.ref → Q (.ref s.heap.objs.size) { s with heap := h', toks := tk }) :
    wpAny (model prog w) A (call (.type "list") [.ref z]) Q E s := by
  refine callType_codes (Q₁ := fun obj s₁ => obj = .ref s.heap.objs.size ∧ s₁ = { s with heap := s.heap.push { cls := .type "list", data := .seq #[] } }) PySem.F.called_list (PySem.F.typeCall_list_1 _) PySem.F.entry_list_init
    (code_list_new _ ⟨rfl, rfl⟩) fun obj s₁ h₁ => ?_
  obtain ⟨rfl, rfl⟩ := h₁
  have hS : (s.heap.push { cls := .type "list", data := .seq #[] }).get? s.heap.objs.size = some { cls := .type "list", data := .seq #[] } := Heap.get?_push_size _ rfl
  have up : ∀ b o, s.heap.get? b = some o → (s.heap.push { cls := .type "list", data := .seq #[] }).get? b = some o := fun b o e => Heap.get?_push_of_some _ e
  have M : Z3 prog w A.in1.in1.in1 s.heap.objs.size z TI TO i1 i2 i3 fp1 fp2 fp3 n P1 P2 P3 St1 St2 St3 :=
    ⟨sep, d1, d2, d3, fun q => Nat.lt_irrefl _ (b1 _ q), fun q => Nat.lt_irrefl _ (b2 _ q), fun q => Nat.lt_irrefl _ (b3 _ q), Heap.lt_size hz, Heap.lt_size hTI, Heap.lt_size hTO, b1 _ sep.mem1, b2 _ sep.mem2, b3 _ sep.mem3⟩
  refine ⟨⟨_, hS, rfl⟩, PySem.F.args_list_init_2 _ _, z3_init (A := A.in1) M hn (up _ _ hz) (up _ _ hTI) (up _ _ hTO) (d1.frame _ _ _ st1 fun b _ o e => up b o e) (d2.frame _ _ _ st2 fun b _ o e => up b o e) (d3.frame _ _ _ st3 fun b _ o e => up b o e) hS fun h' tk acc c as hk hS' hl hG hacc => ?_⟩
  exact ⟨rfl, hQ h' tk acc c as (fun b o c1 c2 c3 c4 c5 e => hk b o (Nat.ne_of_lt (Heap.lt_size e)) c1 c2 c3 c4 c5 (up b o e)) hS' hl hG hacc⟩
end
end PySem
end
section
namespace Ev
open PySem PySem.Spec L2
open PyProof.Rows hiding St
/-! ### list(zip(a, b, c)), over H -/
def putTs : Hp → List Addr → List (List V) → Hp
  | H, a :: as, r :: rows => putTs (upd H a (.tup r)) as rows
  | H, _, _ => H
theorem putTs_off {b : Addr} : ∀ (as : List Addr) (rows : List (List V)) (H : Hp), b ∉ as → putTs H as rows b = H b
  | [], _, _, _ => rfl
  | _ :: _, [], _, _ => rfl
  | a :: as, r :: rows, H, h => by
    show putTs (upd H a (.tup r)) as rows b = H b
    rw [putTs_off as rows _ (fun z => h (List.mem_cons_of_mem _ z)), upd_ne (fun z => h (by rw [z]; exact List.mem_cons_self))]
theorem putTs_at : ∀ (as : List Addr) (rows : List (List V)) (H : Hp), as.length = rows.length → as.Nodup → Paired (fun (t : Addr) (r : List V) => putTs H as rows t = some (.tup r)) as rows
  | [], [], _, _, _ => .nil
  | [], _ :: _, _, h, _ => by cases h
  | _ :: _, [], _, h, _ => by cases h
  | a :: as, r :: rows, H, h, hn => by
    have hn' := List.nodup_cons.mp hn
    have ih := putTs_at as rows (upd H a (.tup r)) (Nat.succ.inj h) hn'.2
    refine .cons ?_ ih
    show putTs (upd H a (.tup r)) as rows a = some (.tup r)
    rw [putTs_off as rows _ hn'.1, upd_same]
section
variable {X : Cx}
theorem rows_laid {pins : List (Addr × Obj)} {σ : L2.St} {H : Hp} {s : Shared} {h' : Heap} {tk : Nat} {rows : List (List V)} {acc : Array Value} {c : Nat} {as : List Addr} {S : Addr} (I : Inv X pins σ H s) (hz : rows.length ≤ sizeLine) (hr : ∀ r ∈ rows, r.length ≤ sizeLine)
    (hk : ∀ b o, s.heap.get? b = some o → h'.get? b = some o) (lS : s.heap.objs.size ≤ S) (hS : h'.get? S = some { cls := .type "list", dict := none, data := .seq acc c, slots := #[] }) (rise : as.Pairwise (· < ·)) (above : ∀ a ∈ as, S < a)
    (ht : Paired (fun (t : Addr) (r : List V) => ∃ us : List Value, Vals r us ∧ h'.get? t = some { cls := .type "tuple", data := .seq us.toArray }) as rows) (hacc : acc.toList = as.map Value.ref) :
    ∃ H' : Hp, (∀ b o, H b = some o → H' b = some o) ∧ H S = none ∧ (∀ t ∈ as, H t = none) ∧ S ∉ as ∧ H' S = some (.lst (as.map V.ref)) ∧ Paired (fun (t : Addr) (r : List V) => H' t = some (.tup r)) as rows ∧ (∀ b, b ≠ S → b ∉ as → H' b = H b) ∧ Inv X pins σ H' { s with heap := h', toks := tk } := by
  have hl : as.length = rows.length := Paired.length ht
  have hSn : S ∉ as := fun z => Nat.lt_irrefl _ (above _ z)
  have nd : as.Nodup := List.Pairwise.imp (fun {a b} (h : a < b) => Nat.ne_of_lt h) rise
  have new : ∀ t ∈ as, H t = none := fun t ht => I.hok.fresh (Nat.le_trans lS (Nat.le_of_lt (above t ht)))
  have newS : H S = none := I.hok.fresh lS
  have atP := putTs_at as rows (upd H S (.lst (as.map V.ref))) hl nd
  have off : ∀ b, b ≠ S → b ∉ as → putTs (upd H S (.lst (as.map V.ref))) as rows b = H b := fun b h2 h1 => by rw [putTs_off as rows _ h1, upd_ne h2]
  have low : ∀ b o, s.heap.get? b = some o → b ≠ S ∧ b ∉ as := fun b o e => ⟨Nat.ne_of_lt (Nat.lt_of_lt_of_le (Heap.lt_size e) lS), fun z => absurd (Nat.lt_of_lt_of_le (Heap.lt_size e) lS) (Nat.not_lt.mpr (Nat.le_of_lt (above b z)))⟩
  have kp : ∀ b u, H b = some u → (putTs (upd H S (.lst (as.map V.ref))) as rows) b = some u := fun b u e => by
    rw [off b (fun z => by rw [z, newS] at e; cases e) (fun z => by rw [new b z] at e; cases e)]
    exact e
  have eS : putTs (upd H S (.lst (as.map V.ref))) as rows S = some (.lst (as.map V.ref)) := by rw [putTs_off as rows _ hSn, upd_same]
  refine ⟨putTs (upd H S (.lst (as.map V.ref))) as rows, kp, newS, new, hSn, eS, atP, off, ?_⟩
  refine I.call' (ch := []) rfl ⟨fun b o q _ _ _ => hk b o q, fun b o q _ _ _ => ⟨o.slots, hk b o q⟩, fun b o q n _ => ?_, fun b o q _ => ⟨o, hk b o q⟩, fun b xs q => kp b _ q, fun b o u q => kp b _ q, fun b ps q => ⟨#[], by rw [kp b _ q]; simp⟩⟩ (fun b u q => ?_) I.bare fun b z => by simp at z
  · obtain ⟨z1, z2⟩ := low b o q
    rw [off b z1 z2]
    exact n
  · by_cases hb : b ∈ as
    · obtain ⟨j, r, e1, e2, e3⟩ := LiI.paired_ix atP hb
      rw [e3] at q
      cases q
      obtain ⟨r', g1, us, g2, g3⟩ := LiI.paired_get ht e1
      rw [e2] at g1
      cases g1
      exact ⟨hr _ (List.mem_of_getElem? e2), us, g2, ⟨_, g3, rfl, _, rfl⟩⟩
    · by_cases hb2 : b = S
      · rw [hb2] at q ⊢
        rw [eS] at q
        cases q
        refine ⟨by rw [List.length_map]; omega, acc.toList, c, by rw [hacc]; exact LiI.vals_refs as, ?_⟩
        rw [Array.toArray_toList]
        exact hS
      · rw [off b hb2 hb] at q
        exact (I.hok b u q).stay (fun d v _ y => hk d v y) (fun d y => kp d _ y) fun d xs y => kp d _ y
/-- what a list or a tuple gives -/
theorem src_of {pins : List (Addr × Obj)} {σ : L2.St} {H : Hp} {s : Shared} {q : Addr} {xs : List V} (I : Inv X pins σ H s) (hq : SqL X.K H q xs ∨ SqT X.K H q xs) : ∃ (items : Array Value) (o : Obj) (Hh : Heap → Prop), Begins (.ref q) o Hh ∧ Hh s.heap ∧ Vals xs items.toList ∧ xs.length ≤ sizeLine ∧ q < s.heap.objs.size ∧
    ∀ (prog : Program) (w : World) (A : Around) (it : Addr) (h' : Heap), A.handled = none → q ≠ it → (∀ b o, s.heap.get? b = some o → h'.get? b = some o) → h'.get? it = some o → ∃ St : Nat → Heap → Prop, Draws prog w A it [it, q] items.size (fun i v => items[i]? = some v) St ∧ St 0 h' := by
  rcases hq with hq | hq
  · obtain ⟨its, rv, p, hz⟩ := I.list hq
    obtain ⟨o1, ho1, _⟩ := id p.isList
    exact ⟨its.toArray, _, _, begins_list q its.toArray, p.isList, by simpa using rv, hz, Heap.lt_size ho1, fun prog w A it h' hh hne hk hg => ⟨_, Draws.list hh it q hne its.toArray, ⟨_, hg, rfl, rfl⟩, p.isList.at fun o e => hk q o e⟩⟩
  · obtain ⟨its, rv, p, hz⟩ := I.tuple hq
    obtain ⟨o1, ho1, _⟩ := id p
    exact ⟨its.toArray, _, _, begins_tuple q its.toArray, p, by simpa using rv, hz, Heap.lt_size ho1, fun prog w A it h' hh hne hk hg => ⟨_, Draws.tuple hh it q hne its.toArray, ⟨_, hg, rfl, rfl⟩, Heap.IsTuple.at p fun o e => hk q o e⟩⟩
def zip3V : List V → List V → List V → List (List V)
  | x :: xs, y :: ys, z :: zs => [x, y, z] :: zip3V xs ys zs
  | _, _, _ => []
def tZ3 (K : PySem.W.Frag) (ta : TA) : TE := fun σ H Q => ta σ H fun vs H1 => ∃ q1 q2 q3 xs ys zs, vs = [V.ref q1, .ref q2, .ref q3] ∧ (SqL K H1 q1 xs ∨ SqT K H1 q1 xs) ∧ (SqL K H1 q2 ys ∨ SqT K H1 q2 ys) ∧ (SqL K H1 q3 zs ∨ SqT K H1 q3 zs) ∧ xs.length = ys.length ∧ xs.length = zs.length ∧
  ∀ (H' : Hp) (p : Addr) (ts : List Addr), (∀ b o, H1 b = some o → H' b = some o) → H1 p = none → (∀ t ∈ ts, H1 t = none) → p ∉ ts → H' p = some (.lst (ts.map V.ref)) → Paired (fun (t : Addr) (r : List V) => H' t = some (.tup r)) ts (zip3V xs ys zs) → (∀ b, b ≠ p → b ∉ ts → H' b = H1 b) → Q (.ref p) H'
theorem zip3_paired {h' : Heap} {items1 items2 items3 : Array Value} : ∀ (as : List Addr) (k : Nat) (xs ys zs : List V) (us1 us2 us3 : List Value), Vals xs us1 → Vals ys us2 → Vals zs us3 → xs.length = ys.length → xs.length = zs.length → as.length = xs.length →
    (∀ (j : Nat) (a : Addr), as[j]? = some a → ∃ x1 x2 x3, us1[j]? = some x1 ∧ us2[j]? = some x2 ∧ us3[j]? = some x3 ∧ IsTupOf3 h' a x1 x2 x3) → Paired (fun (t : Addr) (r : List V) => ∃ us : List Value, Vals r us ∧ h'.get? t = some { cls := .type "tuple", data := .seq us.toArray }) as (zip3V xs ys zs)
  | [], _, xs, ys, zs, _, _, _, v1, v2, v3, e1, e2, e3, _ => by
    cases xs with
    | nil => exact .nil
    | cons _ _ => cases e3
  | a :: as, k, xs, ys, zs, us1, us2, us3, v1, v2, v3, e1, e2, e3, ht => by
    cases v1 with
    | nil => cases e3
    | cons r1 v1 =>
      cases v2 with
      | nil => cases e1
      | cons r2 v2 =>
        cases v3 with
        | nil => cases e2
        | cons r3 v3 =>
          obtain ⟨x1, x2, x3, g1, g2, g3, g4⟩ := ht 0 a rfl
          have g1 : some _ = some x1 := g1
          have g2 : some _ = some x2 := g2
          have g3 : some _ = some x3 := g3
          cases g1
          cases g2
          cases g3
          refine .cons ⟨[_, _, _], .cons r1 (.cons r2 (.cons r3 .nil)), g4⟩ ?_
          exact zip3_paired (items1 := items1) (items2 := items2) (items3 := items3) as (k + 1) _ _ _ _ _ _ v1 v2 v3 (Nat.succ.inj e1) (Nat.succ.inj e2) (Nat.succ.inj e3) fun j b hj => ht (j + 1) b hj
theorem zip3_len : ∀ (xs ys zs : List V), (zip3V xs ys zs).length ≤ xs.length
  | [], _, _ => Nat.zero_le _
  | _ :: _, [], _ => Nat.zero_le _
  | _ :: _, _ :: _, [] => Nat.zero_le _
  | x :: xs, y :: ys, z :: zs => Nat.succ_le_succ (zip3_len xs ys zs)
theorem zip3_row : ∀ (xs ys zs : List V) (r : List V), r ∈ zip3V xs ys zs → r.length = 3
  | [], _, _, _, h => nomatch h
  | _ :: _, [], _, _, h => nomatch h
  | _ :: _, _ :: _, [], _, h => nomatch h
  | x :: xs, y :: ys, z :: zs, r, h => by
    rcases List.mem_cons.mp h with h | h
    · rw [h]; rfl
    · exact zip3_row xs ys zs r h
theorem pe_listZip3 {e1 e2 e3 : Expr} {ta : TA} {p p2 pos pos2 : Pos} (hc : X.calm = true) (hg : Gl X "list") (hm : X.mg "list" = none) (hgz : Gl X "zip") (hmz : X.mg "zip" = none) (ha : PA X [e1, e2, e3] ta)
    (hs : starEach [e1, e2, e3] X.env = (false, PySem.eval e1 X.env) :: starEach [e2, e3] X.env) (hpl : (backTo pos2 (starEach [e2, e3] X.env)).any (·.1) = false) :
    PE X (.Call (.Name "list" p) [.Call (.Name "zip" p2) [e1, e2, e3] [] pos2] [] pos) (tZ3 X.K ta) := by
  refine ⟨fun pins s σ H Q I h => ?_⟩
  refine wpAny_Call_Name_kw (ld_blt I hg hm PyProof.Rows.boot_list ?_)
  have hs1 : starEach [Expr.Call (.Name "zip" p2) [e1, e2, e3] [] pos2] X.env = (false, PySem.eval (.Call (.Name "zip" p2) [e1, e2, e3] [] pos2) X.env) :: starEach [] X.env := rfl
  refine PyProof.Rows.callWith_type1 ?_ hs1 rfl
  rw [hs1]
  show wpAny _ _ (spliced ((false, PySem.eval (.Call (.Name "zip" p2) [e1, e2, e3] [] pos2) X.env) :: backTo pos (starEach [] X.env))) _ _ s
  refine Calls.spliced_cons ?_
  refine Call_ (ld_blt I hgz hmz PyProof.Rows.boot_zip (PyProof.Rows.callWith_type1 (thn (ha.run pos2 pins s σ H _ I h) fun us s1 ⟨vs, H1, I1, r1, q⟩ => ?_) hs hpl))
  obtain ⟨q1, q2, q3, xs, ys, zs, ex, a1, a2, a3, l1, l2, q⟩ := q
  subst ex
  cases r1 with
  | cons r r1 =>
    cases r1 with
    | cons r' r1 =>
      cases r1 with
      | cons r'' r1 =>
        cases r1
        cases r
        cases r'
        cases r''
        obtain ⟨i1, o1, h1, B1, hb1, v1, z1, t1, D1⟩ := src_of I1 a1
        obtain ⟨i2, o2, h2, B2, hb2, v2, z2, t2, D2⟩ := src_of I1 a2
        obtain ⟨i3, o3, h3, B3, hb3, v3, z3, t3, D3⟩ := src_of I1 a3
        have eL1 : i1.size = xs.length := by rw [← Array.length_toList]; exact (Vals.length v1).symm
        have eL2 : i2.size = xs.length := by rw [← Array.length_toList, l1]; exact (Vals.length v2).symm
        have eL3 : i3.size = xs.length := by rw [← Array.length_toList, l2]; exact (Vals.length v3).symm
        refine zip_begins3 B1 B2 B3 hb1 hb2 hb3 fun h' hz hTI hTO g1 g2 g3 hsz hk => ?_
        have hh : X.A.in1.in1.in1.handled = none := I1.ok.hd hc
        obtain ⟨St1, d1, st1⟩ := D1 X.prog X.w X.A.in1.in1.in1 s1.heap.objs.size h' hh (Nat.ne_of_lt t1) hk g1
        obtain ⟨St2, d2, st2⟩ := D2 X.prog X.w X.A.in1.in1.in1 (s1.heap.objs.size + 1) h' hh (Nat.ne_of_lt (Nat.lt_succ_of_lt t2)) hk g2
        obtain ⟨St3, d3, st3⟩ := D3 X.prog X.w X.A.in1.in1.in1 (s1.heap.objs.size + 2) h' hh (Nat.ne_of_lt (Nat.lt_succ_of_lt (Nat.lt_succ_of_lt t3))) hk g3
        rw [eL1] at d1
        rw [eL2] at d2
        rw [eL3] at d3
        refine Calls.spliced_nil ?_
        have o1 : ∀ b ∈ [q1], b < s1.heap.objs.size := fun b hb => by rw [List.mem_singleton.mp hb]; exact t1
        have o2 : ∀ b ∈ [q2], b < s1.heap.objs.size := fun b hb => by rw [List.mem_singleton.mp hb]; exact t2
        have o3 : ∀ b ∈ [q3], b < s1.heap.objs.size := fun b hb => by rw [List.mem_singleton.mp hb]; exact t3
        have lt6 : ∀ k, k < 6 → s1.heap.objs.size + k < h'.objs.size := fun k hk => by rw [hsz]; exact Nat.add_lt_add_left hk _
        refine z3_call (s := { s1 with heap := h' }) (zip_sep3 o1 o2 o3) d1 d2 d3 (fun b hb => ?_) (fun b hb => ?_) (fun b hb => ?_) z1 hz hTI hTO st1 st2 st3 fun h'' tk acc c as hk2 hS hl hG hacc => ?_
        · rcases List.mem_cons.mp hb with hb | hb
          · rw [hb]; exact lt6 0 (by decide)
          · exact Nat.lt_of_lt_of_le (o1 b hb) (Nat.le_of_lt (lt6 0 (by decide)))
        · rcases List.mem_cons.mp hb with hb | hb
          · rw [hb]; exact lt6 1 (by decide)
          · exact Nat.lt_of_lt_of_le (o2 b hb) (Nat.le_of_lt (lt6 0 (by decide)))
        · rcases List.mem_cons.mp hb with hb | hb
          · rw [hb]; exact lt6 2 (by decide)
          · exact Nat.lt_of_lt_of_le (o3 b hb) (Nat.le_of_lt (lt6 0 (by decide)))
        have kk : ∀ b o, s1.heap.get? b = some o → h''.get? b = some o := fun b o e => by
          have lb : b < s1.heap.objs.size := Heap.lt_size e
          exact hk2 b o (Nat.ne_of_lt (Nat.lt_add_right 5 lb)) (Nat.ne_of_lt (Nat.lt_add_right 4 lb)) (Nat.ne_of_lt lb) (Nat.ne_of_lt (Nat.lt_add_right 1 lb)) (Nat.ne_of_lt (Nat.lt_add_right 2 lb)) (hk b o e)
        have zl : (zip3V xs ys zs).length ≤ sizeLine := Nat.le_trans (zip3_len xs ys zs) z1
        have pr := zip3_paired (h' := h'') (items1 := i1) (items2 := i2) (items3 := i3) as 0 xs ys zs i1.toList i2.toList i3.toList v1 v2 v3 l1 l2 hl fun j a hj => by
          obtain ⟨x1, x2, x3, p1, p2, p3, p4⟩ := hG.tups j a hj
          exact ⟨x1, x2, x3, by rw [Array.getElem?_toList]; exact p1, by rw [Array.getElem?_toList]; exact p2, by rw [Array.getElem?_toList]; exact p3, p4⟩
        obtain ⟨H', kp, nS, nt, nm, eS, eT, off, I2⟩ := rows_laid (tk := tk) I1 zl (fun r hr => by rw [zip3_row xs ys zs r hr]; decide) kk (Nat.le_of_lt (lt6 0 (by decide))) hS hG.rise hG.above pr hacc
        exact ⟨V.ref h'.objs.size, H', I2, rfl, q H' _ as kp nS nt nm eS eT off⟩
end
end Ev
end
section
/-! ### enumerate of a tuple -/
namespace PySem
theorem meets_enumerate_new1B {v : Value} {o : Obj} {H : Heap → Prop} (B : Begins v o H) :
    Meets (Builtin.«enumerate.__new__» ⟨[.type "enumerate", v], []⟩) (fun _ R s => H s.heap ∧
      R (.ok (.ret (.ref (s.heap.push o).objs.size))) { s with heap := (s.heap.push o).push { cls := .type "enumerate", data := .fields #[.none, .bool false, .ref s.heap.objs.size, rawInt 0, .none, .none] } }) :=
  .of_wp fun prog w A R s h => by
    obtain ⟨hp, g, d, tk, os⟩ := s; obtain ⟨h1, h⟩ := h
    have hsub := sub_enumerate
    have q1 : ∀ {A' : Around} {E : Value → Shared → Prop} {Q : Value → Shared → Prop}, Q (.ref hp.objs.size) ⟨hp.push o, g, d, tk, os⟩ → wpAny (model prog w) A' (pyIter v) Q E ⟨hp, g, d, tk, os⟩ :=
      fun q => B.iter prog w _ _ ⟨hp, g, d, tk, os⟩ _ h1 q
    wp_walk using q1
    refine wpAny_stack_any fun st => wpAny_pure ?_
    split
    · rename_i c _ _ _ _ _
      cases (c == Value.type "enumerate")
      · wp_walk using q1
        exact ⟨_, rfl, h⟩
      · wp_walk using q1
        exact ⟨_, rfl, h⟩
    · wp_walk using q1
      exact ⟨_, rfl, h⟩
section
variable {prog : Program} {w : World} {A : Around} {E : Value → Shared → Prop} {s : Shared}
theorem enum_begins1 {v : Value} {o : Obj} {H : Heap → Prop} {Q : Value → Shared → Prop} (B : Begins v o H) (h1 : H s.heap)
    (h : ∀ h', IsEnum h' (s.heap.objs.size + 1) s.heap.objs.size 0 .none → h'.get? s.heap.objs.size = some o → h'.objs.size = s.heap.objs.size + 2 →
      (∀ b o, s.heap.get? b = some o → h'.get? b = some o) → Q (.ref (s.heap.objs.size + 1)) { s with heap := h' }) :
    wpAny (model prog w) A (call (.type "enumerate") [v]) Q E s := by
  refine callType_new F.called_enumerate (by decide) (F.typeCall_enumerate_1 _) (F.newCall_enumerate_1 _) (fun obj => F.args_object_init_2 obj _) F.entry_enumerate_new
    (meets_enumerate_new1B B) ⟨h1, ?_⟩
  have hz : (s.heap.push o).objs.size = s.heap.objs.size + 1 := Heap.size_push ..
  show _ ∧ _
  rw [hz]
  have he : IsEnum ((s.heap.push o).push { cls := .type "enumerate", data := .fields #[.none, .bool false, .ref s.heap.objs.size, rawInt 0, .none, .none] }) (s.heap.objs.size + 1) s.heap.objs.size 0 .none := by
    have := Heap.get?_push_size (s.heap.push o) (o := { cls := .type "enumerate", data := .fields #[.none, .bool false, .ref s.heap.objs.size, rawInt 0, .none, .none] }) rfl
    rw [hz] at this; exact this
  refine ⟨⟨_, he, rfl⟩, h _ he (Heap.get?_push_of_some _ (Heap.get?_push_size _ B.free)) (by rw [Heap.size_push, hz]) fun b o x => Heap.get?_push_of_some _ (Heap.get?_push_of_some _ x)⟩
theorem wpAny_pyNext_enum_endT {e it l : Addr} {i : Nat} {items : Array Value} {old : Value} {Q : Option Value → Shared → Prop} (hh : A.handled = none)
    (he : IsEnum s.heap e it i old) (hit : s.heap.IsTupleIter it l i) (hl : s.heap.IsTuple l items) (hx : items[i]? = none)
    (hQ : ∀ h', Heap.ExtBut it s.heap h' → Q none { s with heap := h' }) : wpAny (model prog w) A (pyNext (.ref e)) Q E s := by
  have hT : s.TypeIs (.ref e) "enumerate" := ⟨_, he, rfl⟩
  unfold pyNext
  refine wpAny_bind (wpAny_attempt (wpAny_callSpecial?_slot (name := Str.ofString "__next__") hT F.slot_enumerate_next
    (wpAny_call_entry F.slot_enumerate_next hT F.entry_enumerate_next ?_ (F.args_enumerate_next_1 _))))
  show wpAny _ _ (field (.ref e) 2 >>= _) _ _ _
  refine wpAny_bind (wpAny_field he rfl (x := .ref it) rfl ?_)
  refine wpAny_bind (wpAny_nextOf_tuple_end hh hit hl hx fun h' x he' hx' => ?_)
  obtain ⟨o, ho, hc⟩ := hx'
  refine wpAny_bind (wpAny_isInstance (T := "StopIteration") (b := true) ⟨o, ho, hc⟩ isSubtype_stop ?_)
  exact wpAny_pure (hQ _ he')
end
end PySem
namespace Ev
open PySem PySem.Spec L2
open PyProof.Rows hiding St
/-- the tuple at a, each item in a new pair -/
def IteT (K : PySem.W.Frag) (a : Addr) : It :=
  ⟨fun i H => ∃ (xs : List V) (x : V), SqT K H a xs ∧ xs[i]? = some x, fun i H v H' => ∃ T x, v = .ref T ∧ H T = none ∧ H' = upd H T (.tup [.int (i : Nat), x]) ∧ ∀ xs, SqT K H a xs → xs[i]? = some x, fun i H => ∃ xs : List V, SqT K H a xs ∧ xs.length ≤ i⟩
theorem turn_enumT {P : Program} {w : World} {K : PySem.W.Frag} {elts : List Expr} {kk : Nat} {tpos : Pos} (a e it : Addr) (hea : e ≠ a) (hia : a ≠ it) :
    Turn P w K (.Tuple elts kk tpos) (IteT K a) [e, it] e (fun i h => (∃ old, IsEnum h e it ((i : Nat) : Int) old) ∧ h.IsTupleIter it a i ∧ e ≠ it) where
  mem := by simp
  obj := fun i h st b hb => by
    obtain ⟨⟨old, he⟩, ⟨o, ho, hc, hd⟩, _⟩ := st
    have e' : b = e ∨ b = it := by simpa using hb
    rcases e' with z | z
    · rw [z]; exact ⟨_, he, fun v q => nomatch q⟩
    · rw [z]; exact ⟨o, ho, fun v q => by rw [hd] at q; cases q⟩
  keep := fun i h h' st k => let ⟨⟨old, he⟩, hi, hne⟩ := st; ⟨⟨old, k e (by simp) _ he⟩, hi.at fun o q => k it (by simp) o q, hne⟩
  item := by
    intro X hP hw hK hc i pins s σ H E I hf st hg
    subst hP hw hK
    obtain ⟨⟨old, he⟩, hit, hne⟩ := st
    obtain ⟨xs, x, hq, hx⟩ := hg
    obtain ⟨its, rv, p, hz⟩ := I.tuple hq
    obtain ⟨u, hu, ru⟩ := rv.get hx
    have hel : e < s.heap.objs.size := Heap.lt_size he
    have hil : it < s.heap.objs.size := by obtain ⟨_, q, _⟩ := hit; exact Heap.lt_size q
    have hi : i < its.toArray.size := by
      have := (List.getElem?_eq_some_iff.mp hu).1
      simpa using this
    refine PySem.wpAny_pyNext_enum_itemD (s := s) (old := old) (PySem.Draws.tuple (A := X.A.in1) (I.ok.hd hc) it a hia its.toArray) he ⟨hit, p⟩ hi hne (by simp [hne, hea]) fun u' h' tk hP ho st' hT hsz hk => ?_
    have hu' : u' = u := by
      have hP : its.toArray[i]? = some u' := hP
      rw [List.getElem?_toArray, hu] at hP
      exact (Option.some.inj hP).symm
    subst hu'
    refine ⟨_, rfl, wpAny_letOwnedTupleGo_enum (s := { s with heap := h', toks := tk + 1 }) ho fun h'' he' sb => ?_⟩
    have hT2 : h''.get? s.heap.objs.size = some { cls := .type "tuple", data := .seq #[.int i tk, u'] } := (sb.2 _ (Nat.ne_of_gt hel)).trans hT
    have new : ObjOk X.prog X.w (upd H s.heap.objs.size (.tup [.int (i : Nat), x])) h'' s.heap.objs.size (.tup [.int (i : Nat), x]) :=
      ⟨by show 2 ≤ sizeLine; decide, [.int i tk, u'], .cons ⟨_, rfl⟩ (.cons ru .nil), ⟨_, hT2, rfl, _, rfl⟩⟩
    have I1 : Inv X pins σ (upd H s.heap.objs.size (.tup [.int (i : Nat), x])) { s with heap := h'', toks := tk + 1 } :=
      I.turnedNew (ch := [e, it]) (fun b ob hb q => (sb.2 b (fun z => hb (by simp [z]))).trans (hk b ob (fun z => hb (by simp [z])) (fun z => hb (by simp [z])) q)) hf (Nat.le_refl _) new
    refine ⟨.ref s.heap.objs.size, _, I1, rfl, ⟨_, x, rfl, I.hok.fresh (Nat.le_refl _), rfl, fun ys hy => by rw [I.tuple_inj hy hq]; exact hx⟩, ⟨⟨u', ?_⟩, st'.1.at fun o q => (sb.2 it (Ne.symm hne)).trans q, hne⟩, fun b hb => ?_⟩
    · have e1 : ((i + 1 : Nat) : Int) = (i : Int) + 1 := by omega
      rw [e1]; exact he'
    · have hb' : b < s.heap.objs.size := by
        have e' : b = e ∨ b = it := by simpa using hb
        rcases e' with z | z
        · rw [z]; exact hel
        · rw [z]; exact hil
      rw [upd_ne (Nat.ne_of_lt hb')]
      exact (hf b hb).1
  done := by
    intro X hP hw hK hc i pins s σ H E I hf st hg
    subst hP hw hK
    obtain ⟨⟨old, he⟩, hit, hne⟩ := st
    obtain ⟨xs, hq, hx⟩ := hg
    obtain ⟨its, rv, p, hz⟩ := I.tuple hq
    obtain ⟨f0, f1, f2, f3, f4, f5⟩ := hf it (by simp)
    have hl := rv.length
    exact wpAny_pyNext_enum_endT (I.ok.hd hc) he hit p (by simp; omega) fun h' eb => ⟨rfl, I.turned (t' := s.toks) (fun b o hb q => eb b o hb q) f0 f1 f3 f4 f5⟩
  self := fun A i s Q E st h => let ⟨⟨_, he⟩, _⟩ := st; wpAny_pyIter_enum he h
def iEnumA (K : PySem.W.Frag) (ta : TA) : TI := fun σ H R => ta σ H fun vs H1 => ∃ a xs, vs = [.ref a] ∧ ((SqL K H1 a xs ∧ R (Ite K a) H1) ∨ (SqT K H1 a xs ∧ R (IteT K a) H1))
theorem pi_enumA {X : Cx} {e : Expr} {ta : TA} {p pos tpos : Pos} {elts : List Expr} {kk : Nat} (hg : Gl X "enumerate") (hm : X.mg "enumerate" = none) (ha : PA X [e] ta) (hs : starEach [e] X.env = [(false, PySem.eval e X.env)] := by rfl) :
    PI X (.Tuple elts kk tpos) (.Call (.Name "enumerate" p) [e] [] pos) (iEnumA X.K ta) := by
  refine ⟨fun pins s σ H R I h => ?_⟩
  refine Call_ (ld_blt I hg hm PyProof.Rows.boot_enumerate (PyProof.Rows.callWith_type1 (thn (ha.run pos pins s σ H _ I h) fun us s1 ⟨vs, H1, I1, r1, q1⟩ => ?_) hs rfl))
  obtain ⟨a, xs, ex, q⟩ := q1
  subst ex
  cases r1 with
  | cons r rr =>
    cases rr
    cases r
    have fp : ∀ b, b ∈ [s1.heap.objs.size + 1, s1.heap.objs.size] → FpOk X pins H1 b := fun b hb => by
      have e' : b = s1.heap.objs.size + 1 ∨ b = s1.heap.objs.size := by simpa using hb
      have hle : s1.heap.objs.size ≤ b := by
        rcases e' with z | z
        · rw [z]; exact Nat.le_add_right _ _
        · rw [z]; exact Nat.le_refl _
      exact I1.fpOk hle (I1.hok.fresh hle)
    rcases q with ⟨hq, q⟩ | ⟨hq, q⟩
    · obtain ⟨its, rv, p', hz⟩ := I1.list hq
      refine call_enumerate_list p'.isList fun h' he hit hsz hk => wpAny_pyIter_enum he ?_
      have I2 : Inv X pins σ H1 { s1 with heap := h' } := I1.kept (t' := s1.toks) hk
      exact ⟨s1.heap.objs.size + 1, [s1.heap.objs.size + 1, s1.heap.objs.size], _, _, H1, rfl, I2, turn_enum a (s1.heap.objs.size + 1) s1.heap.objs.size, ⟨⟨.none, he⟩, hit, Nat.succ_ne_self _⟩, fp, q⟩
    · obtain ⟨its, rv, p', hz⟩ := I1.tuple hq
      have hlt : a < s1.heap.objs.size := by obtain ⟨_, g, _⟩ := p'; exact Heap.lt_size g
      refine enum_begins1 (begins_tuple a its.toArray) p' fun h' he hit hsz hk => wpAny_pyIter_enum he ?_
      have I2 : Inv X pins σ H1 { s1 with heap := h' } := I1.kept (t' := s1.toks) hk
      exact ⟨s1.heap.objs.size + 1, [s1.heap.objs.size + 1, s1.heap.objs.size], _, _, H1, rfl, I2, turn_enumT a (s1.heap.objs.size + 1) s1.heap.objs.size (Nat.ne_of_gt (Nat.lt_succ_of_lt hlt)) (Nat.ne_of_lt hlt), ⟨⟨.none, he⟩, ⟨_, hit, rfl, rfl⟩, Nat.succ_ne_self _⟩, fp, q⟩
theorem walk_enumT {K : PySem.W.Frag} {a : Addr} {xs : List V} : Walk (IteT K a) xs.length (fun H => SqT K H a xs) (YPair (fun i => some (.int (i : Nat))) (fun i => xs[i]?)) := by
  refine ⟨fun i _ hi q => ⟨xs, xs[i], q, by simp [hi]⟩, fun _ q => ⟨xs, q, Nat.le_refl _⟩, fun i H v H' _ q y => ?_⟩
  obtain ⟨T, x, h1, h2, h3, h4⟩ := y
  exact ⟨T, .int (i : Nat), x, h1, h2, h3, rfl, h4 xs q⟩
end Ev
end
section
namespace Ev
open PySem PySem.Spec L2
open PyProof.Rows hiding St
variable [KF]
/-! ### what is walked -/
/-- J gives ds, one by one, as long as G stays -/
def IsIt (G : Hp) (J : It) (ds : List D) : Prop := ∃ (Gp : Hp → Prop) (Y : Nat → Hp → V → Hp → Prop), Walk J ds.length Gp Y ∧ (∀ H, Same G H → Gp H) ∧
  ∀ i H v H', i < ds.length → Same G H → Y i H v H' → ∃ d, ds[i]? = some d ∧ ((H' = H ∧ Rep G v d) ∨ ∃ p vs es, v = .ref p ∧ d = .tup es ∧ H p = none ∧ H' = upd H p (.tup vs) ∧ RepA G vs es)
def tI (T : XT) (W : St → XK) (cf : CF) (x : E) : TI := fun σ H Q => ∃ G e, Rel H G σ e ∧ RnG IsIt T W σ e G H (evI cf x e) Q
theorem wkI {X : Cx} {tg x : Expr} {t t' : TI} (h : PI X tg x t) (k : ∀ σ H Q, t' σ H Q → t σ H Q) : PI X tg x t' := ⟨fun pins s σ H Q I q => h.run pins s σ H Q I (k σ H Q q)⟩
section
variable {X : Cx} {T : XT} {W : St → XK} {cf : CF} {tg x y : Expr} {a b : E} {pos p : Pos}
theorem pi_seq {te : TE} (he : PE X x te) : PI X tg x (fun σ H R => te σ H fun v H1 => ∃ q, v = .ref q ∧ ((∃ vs, SqL X.K H1 q vs ∧ R (Itl X.K q) H1) ∨ ∃ vs, SqT X.K H1 q vs ∧ R (Itt X.K q) H1)) := by
  constructor
  intro pins s σ H R I h
  refine thn (he.run pins s σ H _ I h) ?_
  rintro u s1 ⟨v, H1, I1, rv, q, rfl, hq⟩
  obtain rfl : u = Value.ref q := rv
  have new1 : Inv X pins σ H1 { s1 with heap := s1.heap.push { cls := .type "list_iterator", data := .fields #[] } } := I1.kept (t' := s1.toks) fun _ _ z => Heap.get?_push_of_some _ z
  have hn : H1 s1.heap.objs.size = none := I1.hok.fresh (Nat.le_refl _)
  have fp : ∀ b ∈ [s1.heap.objs.size], FpOk X pins H1 b := fun b hb => by
    obtain rfl := List.mem_singleton.mp hb
    exact I1.fpOk (Nat.le_refl _) hn
  rcases hq with ⟨vs, h1, h2⟩ | ⟨vs, h1, h2⟩
  · obtain ⟨us, _, pl, _⟩ := I1.list h1
    refine wpAny_pyIter_list pl.isList ⟨_, _, _, _, H1, rfl, ?_, turn_list q _, ?_, fp, h2⟩
    · exact I1.kept (t' := s1.toks) fun _ _ z => Heap.get?_push_of_some _ z
    · exact ⟨_, Heap.get?_push_size _ rfl, rfl, rfl⟩
  · obtain ⟨us, _, pl, _⟩ := I1.tuple h1
    refine wpAny_pyIter_tuple (show s1.heap.IsTuple q us.toArray from pl) ⟨_, _, _, _, H1, rfl, ?_, turn_tuple q _, ?_, fp, h2⟩
    · exact I1.kept (t' := s1.toks) fun _ _ z => Heap.get?_push_of_some _ z
    · exact ⟨_, Heap.get?_push_size _ rfl, rfl, rfl⟩
theorem si_seq (ha : PE X x (tV T W cf a)) : PI X tg x (tI T W cf (.seq a)) := wkI (pi_seq ha) fun σ H Q ⟨G, e, r, q⟩ => ⟨G, e, r, RnG.bind q fun d e1 v H1 G1 _ r1 s1 q1 h1 => by
  obtain ⟨ds, hz, h2⟩ := RnG.lift h1
  cases q1 with
  | @lst p vs es hp hA =>
    cases hz
    refine ⟨p, rfl, .inl ⟨vs, .inl (.inl (r1.sub _ _ hp)), h2.here r1 ⟨_, _, (hA.length ▸ walk_list : Walk (Itl X.K p) ds.length (fun H => SqL X.K H p vs) (YAt vs)), fun H sm => .inl (.inl (sm _ _ hp)), ?_⟩⟩⟩
    rintro i H v H' hi sm ⟨rfl, h3⟩
    obtain ⟨d, h4, h5⟩ := hA.getV h3
    exact ⟨d, h4, .inl ⟨rfl, h5⟩⟩
  | @tup p vs es hp hA =>
    cases hz
    refine ⟨p, rfl, .inr ⟨vs, .inl (.inl (r1.sub _ _ hp)), h2.here r1 ⟨_, _, (hA.length ▸ walk_tup : Walk (Itt X.K p) ds.length (fun H => SqT X.K H p vs) (YAt vs)), fun H sm => .inl (.inl (sm _ _ hp)), ?_⟩⟩⟩
    rintro i H v H' hi sm ⟨rfl, h3⟩
    obtain ⟨d, h4, h5⟩ := hA.getV h3
    exact ⟨d, h4, .inl ⟨rfl, h5⟩⟩
  | _ => cases hz⟩
theorem rangeD_get : ∀ (n : Nat) (lo : Int) (i : Nat), i < n → (rangeD lo n)[i]? = some (.int (lo + (i : Nat)))
  | n + 1, lo, 0, _ => by simp [rangeD]
  | n + 1, lo, i + 1, h => by
    show (rangeD (lo + 1) n)[i]? = _
    rw [rangeD_get n (lo + 1) i (by omega)]
    have : lo + 1 + (i : Nat) = lo + ((i + 1 : Nat) : Int) := by omega
    rw [this]
theorem rangeD_len : ∀ (n : Nat) (lo : Int), (rangeD lo n).length = n
  | 0, _ => rfl
  | n + 1, lo => by
    show (rangeD (lo + 1) n).length + 1 = n + 1
    rw [rangeD_len]
theorem it_range {G : Hp} (lo : Int) (n : Nat) : IsIt G (Itr lo n) (rangeD lo n) := by
  refine ⟨_, _, by rw [rangeD_len]; exact walk_range, fun _ _ => trivial, ?_⟩
  rintro i H v H' hi sm ⟨rfl, rfl⟩
  rw [rangeD_len] at hi
  exact ⟨_, rangeD_get n lo i hi, .inl ⟨rfl, .int _⟩⟩
theorem in62_ok {i : Int} (h : in62 i = true) : -(2 ^ 62) ≤ i ∧ i < 2 ^ 62 := of_decide_eq_true h
theorem si_range1 (hg : Gl X "range") (hm : X.mg "range" = none) (hs : starless x = true) (ha : PE X x (tV T W cf a)) : PI X tg (.Call (.Name "range" p) [x] [] pos) (tI T W cf (.range1 a)) :=
  wkI (pi_range1 hg hm (pa_cons ha pa_nil (star_cons hs _ _)) (star_cons hs _ _)) fun σ H Q ⟨G, e, r, q⟩ => ⟨G, e, r, RnG.bind q fun d e1 v H1 G1 _ r1 s1 q1 h1 => by
    cases q1 with
    | int j =>
      have h1 : RnG IsIt T W σ e1 G1 H1 (if in62 j = true then .ok (rangeD 0 j.toNat) e1 else .no) Q := h1
      split at h1
      · next hj => exact ⟨j, rfl, (in62_ok hj).1, (in62_ok hj).2, h1.here r1 (it_range 0 j.toNat)⟩
      · exact h1.elim
    | _ => exact h1.elim⟩
theorem si_range2 (hg : Gl X "range") (hm : X.mg "range" = none) (hs : starless x = true) (hs2 : starless y = true) (ha : PE X x (tV T W cf a)) (hb : PE X y (tV T W cf b)) : PI X tg (.Call (.Name "range" p) [x, y] [] pos) (tI T W cf (.range2 a b)) :=
  wkI (pi_range2 hg hm (pa_cons ha (pa_cons hb pa_nil (star_cons hs2 _ _)) (star_cons hs _ _)) (by rw [star_cons hs, star_cons hs2]; rfl) (star_cons hs2 _ _)) fun σ H Q ⟨G, e, r, q⟩ => ⟨G, e, r, RnG.bind q fun d e1 v H1 G1 _ r1 s1 q1 h1 => ⟨G1, e1, r1, RnG.bind h1 fun d2 e2 u H2 G2 _ r2 s2 q2 h2 => by
    cases q1 with
    | int i =>
      cases q2 with
      | int j =>
        have h2 : RnG IsIt T W σ e2 G2 H2 (if in62 i = true ∧ in62 j = true then .ok (rangeD i (j - i).toNat) e2 else .no) Q := h2
        split at h2
        · next hj => exact ⟨i, j, rfl, ⟨(in62_ok hj.1).1, (in62_ok hj.1).2, (in62_ok hj.2).1, (in62_ok hj.2).2⟩, h2.here r2 (it_range i _)⟩
        · exact h2.elim
      | _ => exact h2.elim
    | _ => exact h2.elim⟩⟩
theorem enumD_get : ∀ (ds : List D) (n i : Nat) (d : D), ds[i]? = some d → (enumD n ds)[i]? = some (.tup [.int ((n + i : Nat) : Int), d])
  | [], _, _, _, h => by simp at h
  | x :: xs, n, 0, d, h => by
    have h : some x = some d := by simpa using h
    cases h
    rfl
  | x :: xs, n, i + 1, d, h => by
    show (enumD (n + 1) xs)[i]? = _
    rw [enumD_get xs (n + 1) i d (by simpa using h)]
    have : n + 1 + i = n + (i + 1) := by omega
    rw [this]
theorem enumD_len : ∀ (ds : List D) (n : Nat), (enumD n ds).length = ds.length
  | [], _ => rfl
  | x :: xs, n => by
    show (enumD (n + 1) xs).length + 1 = xs.length + 1
    rw [enumD_len]
theorem si_enum {es : List Expr} {k : Nat} {tp : Pos} (hg : Gl X "enumerate") (hm : X.mg "enumerate" = none) (hs : starless x = true) (ha : PE X x (tV T W cf a)) : PI X (.Tuple es k tp) (.Call (.Name "enumerate" p) [x] [] pos) (tI T W cf (.enum a)) :=
  wkI (pi_enumA hg hm (pa_cons ha pa_nil (star_cons hs _ _)) (star_cons hs _ _)) fun σ H Q ⟨G, e, r, q⟩ => ⟨G, e, r, RnG.bind q fun d e1 v H1 G1 _ r1 s1 q1 h1 => by
    cases q1 with
    | @lst q vs ds hq hA =>
      refine ⟨q, vs, rfl, .inl ⟨.inl (.inl (r1.sub _ _ hq)), RnG.here h1 r1 ⟨_, _, (by rw [enumD_len, ← hA.length]; exact walk_enum : Walk (Ite X.K q) (enumD 0 ds).length (fun H => SqL X.K H q vs) _), fun H sm => .inl (.inl (sm _ _ hq)), ?_⟩⟩⟩
      rintro i H v H' hi sm ⟨t, v1, v2, rfl, h2, rfl, h4, h5⟩
      cases h4
      obtain ⟨d, h6, h7⟩ := hA.getV h5
      have e0 := enumD_get ds 0 i d h6
      rw [Nat.zero_add] at e0
      exact ⟨_, e0, .inr ⟨t, _, _, rfl, rfl, h2, rfl, .cons (.int _) (.cons h7 .nil)⟩⟩
    | @tup q vs ds hq hA =>
      refine ⟨q, vs, rfl, .inr ⟨.inl (.inl (r1.sub _ _ hq)), RnG.here h1 r1 ⟨_, _, (by rw [enumD_len, ← hA.length]; exact walk_enumT : Walk (IteT X.K q) (enumD 0 ds).length (fun H => SqT X.K H q vs) _), fun H sm => .inl (.inl (sm _ _ hq)), ?_⟩⟩⟩
      rintro i H v H' hi sm ⟨t, v1, v2, rfl, h2, rfl, h4, h5⟩
      cases h4
      obtain ⟨d, h6, h7⟩ := hA.getV h5
      have e0 := enumD_get ds 0 i d h6
      rw [Nat.zero_add] at e0
      exact ⟨_, e0, .inr ⟨t, _, _, rfl, rfl, h2, rfl, .cons (.int _) (.cons h7 .nil)⟩⟩
    | _ => exact h1.elim⟩
theorem zipD_get : ∀ (ds es : List D) (i : Nat) (d e : D), ds[i]? = some d → es[i]? = some e → (zipD ds es)[i]? = some (.tup [d, e])
  | [], _, _, _, _, h, _ => by simp at h
  | _ :: _, [], _, _, _, _, h => by simp at h
  | x :: xs, y :: ys, 0, d, e, h, h' => by
    have h : some x = some d := by simpa using h
    have h' : some y = some e := by simpa using h'
    cases h
    cases h'
    rfl
  | x :: xs, y :: ys, i + 1, d, e, h, h' => zipD_get xs ys i d e (by simpa using h) (by simpa using h')
theorem zipD_len : ∀ (ds es : List D), (zipD ds es).length = min ds.length es.length
  | [], es => by simp [zipD]
  | _ :: _, [] => by simp [zipD]
  | x :: xs, y :: ys => by
    show (zipD xs ys).length + 1 = min (xs.length + 1) (ys.length + 1)
    rw [zipD_len]
    omega
theorem si_zip {es : List Expr} {k : Nat} {tp : Pos} (hg : Gl X "zip") (hm : X.mg "zip" = none) (hs : starless x = true) (hs2 : starless y = true) (ha : PE X x (tV T W cf a)) (hb : PE X y (tV T W cf b)) : PI X (.Tuple es k tp) (.Call (.Name "zip" p) [x, y] [] pos) (tI T W cf (.zip a b)) :=
  wkI (RZ.pi_zipA hg hm (pa_cons ha (pa_cons hb pa_nil (star_cons hs2 _ _)) (star_cons hs _ _)) (star_cons hs _ _) (by rw [star_cons hs2]; rfl)) fun σ H Q ⟨G, e, r, q⟩ => ⟨G, e, r, RnG.bind q fun d e1 v H1 G1 _ r1 s1 q1 h1 => ⟨G1, e1, r1, RnG.bind h1 fun d2 e2 u H2 G2 _ r2 s2 q2 h2 => by
    cases q1 with
    | @lst q vs ds hq hA =>
      cases q2 with
      | @lst q2 us es hq2 hB =>
        refine ⟨q, q2, vs, us, rfl, .inl ⟨.inl (.inl (r2.sub _ _ (s2.gs _ _ hq))), .inl (.inl (r2.sub _ _ hq2)), RnG.here h2 r2 ⟨_, _, walk_zip (by rw [zipD_len, hA.length, hB.length]), fun H sm => ⟨.inl (.inl (sm _ _ (s2.gs _ _ hq))), .inl (.inl (sm _ _ hq2))⟩, ?_⟩⟩⟩
        rintro i H v H' hi sm ⟨t, v1, v2, rfl, g2, rfl, g4, g5⟩
        obtain ⟨d, h6, h7⟩ := hA.getV g4
        obtain ⟨d', h8, h9⟩ := hB.getV g5
        exact ⟨_, zipD_get ds es i d d' h6 h8, .inr ⟨t, _, _, rfl, rfl, g2, rfl, .cons (h7.mono s2.gs) (.cons h9 .nil)⟩⟩
      | _ => exact h2.elim
    | @tup q vs ds hq hA =>
      cases q2 with
      | @tup q2 us es hq2 hB =>
        have wz : Walk (RZ.ItzT X.K q q2) (zipD ds es).length (fun H => SqT X.K H q vs ∧ SqT X.K H q2 us) (YPair (fun i => vs[i]?) (fun i => us[i]?)) := by
          have hn : (zipD ds es).length = min vs.length us.length := by rw [zipD_len, hA.length, hB.length]
          refine ⟨fun i H hi hw => ?_, fun H hw => ⟨vs, us, hw.1, hw.2, by omega⟩, fun i H v H' hi hw hy => ?_⟩
          · have g1 : i < vs.length := by omega
            have g2 : i < us.length := by omega
            exact ⟨vs, us, vs[i], us[i], hw.1, hw.2, by simp [g1], by simp [g2]⟩
          · obtain ⟨t, z1, z2, k1, k2, k3, k4, k5⟩ := hy
            exact ⟨t, z1, z2, k1, k2, k3, k4 _ hw.1, k5 _ hw.2⟩
        refine ⟨q, q2, vs, us, rfl, .inr ⟨.inl (.inl (r2.sub _ _ (s2.gs _ _ hq))), .inl (.inl (r2.sub _ _ hq2)), RnG.here h2 r2 ⟨_, _, wz, fun H sm => ⟨.inl (.inl (sm _ _ (s2.gs _ _ hq))), .inl (.inl (sm _ _ hq2))⟩, ?_⟩⟩⟩
        rintro i H v H' hi sm ⟨t, v1, v2, rfl, g2, rfl, g4, g5⟩
        obtain ⟨d, h6, h7⟩ := hA.getV g4
        obtain ⟨d', h8, h9⟩ := hB.getV g5
        exact ⟨_, zipD_get ds es i d d' h6 h8, .inr ⟨t, _, _, rfl, rfl, g2, rfl, .cons (h7.mono s2.gs) (.cons h9 .nil)⟩⟩
      | _ => exact h2.elim
    | _ => cases q2 <;> exact h2.elim⟩⟩
end
end Ev
end
section
namespace Ev
open PySem PySem.Spec L2
open PyProof.Rows hiding St
variable [KF]
/-! ### targets -/
theorem tar_cons {x : Expr} (h : starless x = true) (es : List Expr) (env : PySem.Env) : assignEach (x :: es) env = (false, PySem.assign x env) :: assignEach es env := by
  cases x <;> first | rfl | cases h
theorem Rel.putV {H G : Hp} {σ : St} {e : Env} {i : Nat} {v : V} {d : D} (r : Rel H G σ e) (q : Rep G v d) : Rel H G (σ.set i (some v)) (e.set i (.va d)) ∧ ∀ a, OA (σ.set i (some v)) (e.set i (.va d)) a → OA σ e a := by
  have ow : ∀ (j : Nat) (ys : Ow), (e.set i (.va d))[j]? = some (.ow ys) → j ≠ i ∧ e[j]? = some (.ow ys) := fun j ys h => by
    rcases getS_set h with ⟨_, z⟩ | z
    · cases z
    · exact z
  have at' : ∀ j, j ≠ i → (σ.set i (some v))[j]? = σ[j]? := fun j hj => List.getElem?_set_ne (Ne.symm hj)
  refine ⟨⟨r.sub, by rw [List.length_set, List.length_set]; exact r.len, fun j d' h => ?_, fun j ys h => ?_, fun j k ys zs hj hk hjk => ?_⟩, fun a ⟨j, ys, h1, h2⟩ => ?_⟩
  · rcases getS_set h with ⟨e1, z⟩ | ⟨e1, z⟩
    · cases z
      subst e1
      have hl : j < σ.length := by
        have := (List.getElem?_eq_some_iff.mp h).1
        rw [List.length_set] at this
        rw [r.len]
        exact this
      exact ⟨v, List.getElem?_set_self hl, q⟩
    · obtain ⟨w, h1, h2⟩ := r.va j d' z
      exact ⟨w, by rw [at' j e1]; exact h1, h2⟩
  · obtain ⟨e1, z⟩ := ow j ys h
    obtain ⟨a, us, h1, h2, h3, h4⟩ := r.ow j ys z
    exact ⟨a, us, by rw [at' j e1]; exact h1, h2, h3, h4⟩
  · obtain ⟨e1, z1⟩ := ow j ys hj
    obtain ⟨e2, z2⟩ := ow k zs hk
    rw [at' j e1, at' k e2] at hjk
    exact r.dis j k ys zs z1 z2 hjk
  · obtain ⟨e1, z⟩ := ow j ys h1
    rw [at' j e1] at h2
    exact ⟨j, ys, z, h2⟩
/-- what a store leaves -/
structure Put (H G : Hp) (σ : St) (e : Env) (is : List Nat) (e' : Env) (σ' : St) : Prop where
  rel : Rel H G σ' e'
  oth : ∀ j, j ∉ is → σ'[j]? = σ[j]?
  len : σ'.length = σ.length
  oa : ∀ a, OA σ' e' a → OA σ e a
def tG (t : Tg) : TG := fun v σ H Q => ∃ G e d e', Rel H G σ e ∧ Rep G v d ∧ tset t d e = some e' ∧ ∀ σ', Put H G σ e (tnames t) e' σ' → Q σ' H
def tGs (t : Tg) : TGs := fun vs σ H Q => ∃ G e ds e', Rel H G σ e ∧ RepA G vs ds ∧ tsets t ds e = some e' ∧ ∀ σ', Put H G σ e (tnames t) e' σ' → Q σ' H
theorem wkG {X : Cx} {tg : Expr} {t t' : TG} (h : PG X tg t) (k : ∀ v σ H Q, t' v σ H Q → t v σ H Q) : PG X tg t' := ⟨fun pins s σ H v u Q I r q => h.run pins s σ H v u Q I r (k v σ H Q q)⟩
theorem orG {X : Cx} {tg : Expr} {t1 t2 : TG} (h1 : PG X tg t1) (h2 : PG X tg t2) : PG X tg (fun v σ H Q => t1 v σ H Q ∨ t2 v σ H Q) := ⟨fun pins s σ H v u Q I r q => q.elim (h1.run pins s σ H v u Q I r) (h2.run pins s σ H v u Q I r)⟩
theorem wkGs {X : Cx} {tg : List Expr} {t t' : TGs} (h : PGs X tg t) (k : ∀ v σ H Q, t' v σ H Q → t v σ H Q) : PGs X tg t' := ⟨fun pins s σ H v u Q I r q => h.run pins s σ H v u Q I r (k v σ H Q q)⟩
mutual
inductive STg (X : Cx) : Expr → Tg → Prop where
  | nm {i : Nat} {x : Str} {p : Pos} : X.N[i]? = some x → Loc X.env.scope x → (X.fn x = true ∨ X.env.scope.names.lookup x = some .local) → STg X (.Name x p) (.nm i)
  | tp {xs : List Expr} {k : Nat} {p : Pos} {ts : Tg} : STgs X xs ts → STg X (.Tuple xs k p) (.tp ts)
inductive STgs (X : Cx) : List Expr → Tg → Prop where
  | nil : STgs X [] .nil
  | cons {x : Expr} {xs : List Expr} {t ts : Tg} : starless x = true → STg X x t → STgs X xs ts → STgs X (x :: xs) (.cons t ts)
end
section
variable {X : Cx}
theorem stgs_len : ∀ {xs : List Expr} {ts : Tg}, STgs X xs ts → ∀ {ds : List D} {e e' : Env}, tsets ts ds e = some e' → ds.length = xs.length
  | _, _, .nil, ds, e, e', h => by
    cases ds with
    | nil => rfl
    | cons d ds => cases h
  | _, _, .cons _ _ hs, ds, e, e', h => by
    cases ds with
    | nil => cases h
    | cons d ds =>
      have h : (tset _ d e).bind (fun e' => tsets _ ds e') = some e' := h
      rw [Option.bind_eq_some_iff] at h
      obtain ⟨e1, _, h2⟩ := h
      rw [List.length_cons, List.length_cons, stgs_len hs h2]
theorem stgs_each : ∀ {xs : List Expr} {ts : Tg}, STgs X xs ts → (assignEach xs X.env).length = xs.length ∧ (assignEach xs X.env).findIdx? (·.1) = none
  | _, _, .nil => ⟨rfl, rfl⟩
  | _, _, .cons h1 _ hs => by
    obtain ⟨h2, h3⟩ := stgs_each hs
    rw [tar_cons h1]
    refine ⟨by rw [List.length_cons, List.length_cons, h2], ?_⟩
    rw [List.findIdx?_cons, h3]
    rfl
mutual
theorem sg_of (hc : X.calm = true) (hN : X.N.Nodup) : ∀ {x : Expr} {t : Tg}, STg X x t → PG X x (tG t)
  | _, _, .nm (i := i) h1 h2 h3 => wkG (pg_name hN h1 h2 h3) fun v σ H Q ⟨G, e, d, e', r, q, ht, k⟩ => by
    have ht : some (e.set i (.va d)) = some e' := ht
    cases ht
    obtain ⟨r1, o1⟩ := r.putV (i := i) q
    exact k _ ⟨r1, fun j hj => List.getElem?_set_ne (fun z => hj (by rw [z]; exact List.mem_singleton.mpr rfl)), List.length_set .., o1⟩
  | _, _, .tp (ts := ts) hs => wkG (orG (pg_tup hc (sgs_of hc hN hs) (stgs_each hs).1 (stgs_each hs).2) (pg_lst hc (sgs_of hc hN hs) (stgs_each hs).1 (stgs_each hs).2)) fun v σ H Q ⟨G, e, d, e', r, q, ht, k⟩ => by
    cases q with
    | tup ha hA => exact .inl ⟨_, _, rfl, .inl (.inl (r.sub _ _ ha)), by rw [hA.length, stgs_len hs ht], G, e, _, e', r, hA, ht, k⟩
    | lst ha hA => exact .inr ⟨_, _, rfl, .inl (.inl (r.sub _ _ ha)), by rw [hA.length, stgs_len hs ht], G, e, _, e', r, hA, ht, k⟩
    | _ => cases ht
theorem sgs_of (hc : X.calm = true) (hN : X.N.Nodup) : ∀ {xs : List Expr} {ts : Tg}, STgs X xs ts → PGs X xs (tGs ts)
  | _, _, .nil => wkGs pgs_nil fun vs σ H Q ⟨G, e, ds, e', r, q, ht, k⟩ => by
    cases ds with
    | cons d ds => cases ht
    | nil =>
      cases ht
      cases q
      exact ⟨rfl, k σ ⟨r, fun _ _ => rfl, rfl, fun _ h => h⟩⟩
  | _, _, .cons (t := t) (ts := ts) h1 h2 hs => wkGs (pgs_cons (sg_of hc hN h2) (sgs_of hc hN hs) (by rw [tar_cons h1]; rfl)) fun vs σ H Q ⟨G, e, ds, e', r, q, ht, k⟩ => by
    cases ds with
    | nil => cases ht
    | cons d ds =>
      have ht : (tset t d e).bind (fun e1 => tsets ts ds e1) = some e' := ht
      rw [Option.bind_eq_some_iff] at ht
      obtain ⟨e1, g1, g2⟩ := ht
      cases q with
      | cons q1 q2 =>
        refine ⟨_, _, rfl, G, e, d, e1, r, q1, g1, fun σ1 p1 => ⟨G, e1, ds, e', p1.rel, q2, g2, fun σ2 p2 => k σ2 ⟨p2.rel, fun j hj => ?_, p2.len.trans p1.len, fun a h => p1.oa a (p2.oa a h)⟩⟩⟩
        have hj : j ∉ tnames t ++ tnames ts := hj
        rw [List.mem_append] at hj
        exact (p2.oth j fun z => hj (.inr z)).trans (p1.oth j fun z => hj (.inl z))
end
end
/-! ### comprehensions -/
theorem wipe_get : ∀ (vs : List Nat) (σ : St) (j : Nat), j ∉ vs → (wipe σ vs)[j]? = σ[j]?
  | [], _, _, _ => rfl
  | v :: vs, σ, j, h => by
    rw [List.mem_cons, not_or] at h
    show ((wipe σ vs).set v none)[j]? = _
    rw [List.getElem?_set_ne (Ne.symm h.1)]
    exact wipe_get vs σ j h.2
theorem wipe_len : ∀ (vs : List Nat) (σ : St), (wipe σ vs).length = σ.length
  | [], _ => rfl
  | v :: vs, σ => by
    show ((wipe σ vs).set v none).length = _
    rw [List.length_set]
    exact wipe_len vs σ
theorem wipe_in : ∀ (vs : List Nat) (σ : St) (j : Nat), j ∈ vs → j < σ.length → (wipe σ vs)[j]? = some none
  | v :: vs, σ, j, h, hl => by
    show ((wipe σ vs).set v none)[j]? = _
    by_cases hj : j = v
    · subst hj
      rw [List.getElem?_set_self (by rw [wipe_len]; exact hl)]
    · rw [List.getElem?_set_ne (Ne.symm hj)]
      rcases List.mem_cons.mp h with z | z
      · exact (hj z).elim
      · exact wipe_in vs σ j z hl
theorem wipe_eq {vs : List Nat} {σ σ' : St} (hl : σ'.length = σ.length) (h : ∀ j, j ∉ vs → σ'[j]? = σ[j]?) : wipe σ' vs = wipe σ vs := by
  apply List.ext_getElem?
  intro j
  by_cases hj : j ∈ vs
  · by_cases hlt : j < σ.length
    · rw [wipe_in vs σ j hj hlt, wipe_in vs σ' j hj (by rw [hl]; exact hlt)]
    · rw [List.getElem?_eq_none (by rw [wipe_len, hl]; omega), List.getElem?_eq_none (by rw [wipe_len]; omega)]
  · rw [wipe_get vs σ j hj, wipe_get vs σ' j hj, h j hj]
theorem wipeE_get : ∀ (vs : List Nat) (e : Env) (j : Nat), j ∉ vs → (wipeE e vs)[j]? = e[j]?
  | [], _, _, _ => rfl
  | v :: vs, e, j, h => by
    rw [List.mem_cons, not_or] at h
    show ((wipeE e vs).set v .em)[j]? = _
    rw [List.getElem?_set_ne (Ne.symm h.1)]
    exact wipeE_get vs e j h.2
theorem wipeE_len : ∀ (vs : List Nat) (e : Env), (wipeE e vs).length = e.length
  | [], _ => rfl
  | v :: vs, e => by
    show ((wipeE e vs).set v .em).length = _
    rw [List.length_set]
    exact wipeE_len vs e
theorem wipeE_in : ∀ (vs : List Nat) (e : Env) (j : Nat) (s : Sl), j ∈ vs → (wipeE e vs)[j]? = some s → s = .em
  | v :: vs, e, j, s, h, hs => by
    have hs : ((wipeE e vs).set v .em)[j]? = some s := hs
    rcases getS_set hs with ⟨_, z⟩ | ⟨hj, z⟩
    · exact z
    · rcases List.mem_cons.mp h with w | w
      · exact (hj w).elim
      · exact wipeE_in vs e j s w z
theorem restE_len : ∀ (vs : List Nat) (e e0 : Env), (restE e e0 vs).length = e.length
  | [], _, _ => rfl
  | v :: vs, e, e0 => by
    show ((restE e e0 vs).set v (getS e0 v)).length = _
    rw [List.length_set]
    exact restE_len vs e e0
theorem restE_get : ∀ (vs : List Nat) (e e0 : Env) (j : Nat) (s : Sl), (restE e e0 vs)[j]? = some s → (j ∈ vs ∧ s = getS e0 j) ∨ (j ∉ vs ∧ e[j]? = some s)
  | [], _, _, _, _, h => .inr ⟨fun z => (nomatch z), h⟩
  | v :: vs, e, e0, j, s, h => by
    have h : ((restE e e0 vs).set v (getS e0 v))[j]? = some s := h
    rcases getS_set h with ⟨z, w⟩ | ⟨hj, z⟩
    · subst z
      exact .inl ⟨List.mem_cons_self, w⟩
    · rcases restE_get vs e e0 j s z with ⟨z1, z2⟩ | ⟨z1, z2⟩
      · exact .inl ⟨List.mem_cons_of_mem _ z1, z2⟩
      · exact .inr ⟨fun w => (List.mem_cons.mp w).elim hj z1, z2⟩
theorem Rel.wiped {H G : Hp} {σ : St} {e : Env} (r : Rel H G σ e) (vs : List Nat) : Rel H G (wipe σ vs) (wipeE e vs) ∧ ∀ a, OA (wipe σ vs) (wipeE e vs) a → OA σ e a := by
  have out : ∀ (j : Nat) (s : Sl), (wipeE e vs)[j]? = some s → s ≠ .em → j ∉ vs ∧ e[j]? = some s := fun j s h hs => by
    by_cases hj : j ∈ vs
    · exact (hs (wipeE_in vs e j s hj h)).elim
    · exact ⟨hj, by rw [← wipeE_get vs e j hj]; exact h⟩
  refine ⟨⟨r.sub, by rw [wipe_len, wipeE_len]; exact r.len, fun j d h => ?_, fun j ys h => ?_, fun j k ys zs hj hk hjk => ?_⟩, fun a ⟨j, ys, h1, h2⟩ => ?_⟩
  · obtain ⟨h1, h2⟩ := out j _ h (fun z => nomatch z)
    obtain ⟨v, h3, h4⟩ := r.va j d h2
    exact ⟨v, by rw [wipe_get vs σ j h1]; exact h3, h4⟩
  · obtain ⟨h1, h2⟩ := out j _ h (fun z => nomatch z)
    obtain ⟨a, us, h3, h4⟩ := r.ow j ys h2
    exact ⟨a, us, by rw [wipe_get vs σ j h1]; exact h3, h4⟩
  · obtain ⟨h1, h2⟩ := out j _ hj (fun z => nomatch z)
    obtain ⟨h3, h4⟩ := out k _ hk (fun z => nomatch z)
    rw [wipe_get vs σ j h1, wipe_get vs σ k h3] at hjk
    exact r.dis j k ys zs h2 h4 hjk
  · obtain ⟨h3, h4⟩ := out j _ h1 (fun z => nomatch z)
    rw [wipe_get vs σ j h3] at h2
    exact ⟨j, ys, h4, h2⟩
/-- a step, the lists of one's own told by A and B -/
structure Sp' (A : Addr → Prop) (G H : Hp) (B : Addr → Prop) (G' H' : Hp) : Prop where
  gs : Same G G'
  fr : ∀ b o, H b = some o → ¬ A b → H' b = some o
  nw : ∀ b o, G' b = some o → G b = some o ∨ H b = none ∨ A b ∨ Kt H b o
  al : ∀ b, H' b = none → H b = none
  oa : ∀ a, B a → A a
theorem Stp.sp {σ : St} {e e' : Env} {G H G' H' : Hp} (s : Stp σ e G H e' G' H') : Sp' (OA σ e) G H (OA σ e') G' H' := ⟨s.gs, s.fr, s.nw, s.al, s.oa⟩
theorem Sp'.stp {σ : St} {e e' : Env} {G H G' H' : Hp} (s : Sp' (OA σ e) G H (OA σ e') G' H') : Stp σ e G H e' G' H' := ⟨s.gs, s.fr, s.nw, s.al, s.oa⟩
theorem Sp'.trans {A B C : Addr → Prop} {G H G1 H1 G2 H2 : Hp} (a : Sp' A G H B G1 H1) (b : Sp' B G1 H1 C G2 H2) : Sp' A G H C G2 H2 where
  gs := a.gs.trans b.gs
  fr := fun c o h n => b.fr c o (a.fr c o h n) fun q => n (a.oa c q)
  nw := fun c o h => by
    rcases b.nw c o h with q | q | q | q
    · exact a.nw c o q
    · exact .inr (.inl (a.al c q))
    · exact .inr (.inr (.inl (a.oa c q)))
    · obtain ⟨us, rfl, q⟩ := q
      cases hc : H c with
      | none => exact .inr (.inl rfl)
      | some o' =>
        by_cases ho : A c
        · exact .inr (.inr (.inl ho))
        · have := a.fr c o' hc ho
          rw [q] at this
          cases this
          exact .inr (.inr (.inr ⟨us, rfl, hc⟩))
  al := fun c h => a.al c (b.al c h)
  oa := fun c h => a.oa c (b.oa c h)
theorem Sp'.less {A B C : Addr → Prop} {G H G1 H1 : Hp} (a : Sp' A G H B G1 H1) (h : ∀ x, C x → B x) : Sp' A G H C G1 H1 := ⟨a.gs, a.fr, a.nw, a.al, fun x q => a.oa x (h x q)⟩
/-- a list that was not there at the start changes -/
theorem Sp'.upd {A B : Addr → Prop} {G H G1 H1 : Hp} {p : Addr} {o : HO} (a : Sp' A G H B G1 H1) (hp : H p = none) : Sp' A G H B G1 (L2.upd H1 p o) where
  gs := a.gs
  fr := fun b u h n => by
    rw [upd_ne (ne_of_none h hp)]
    exact a.fr b u h n
  nw := a.nw
  al := fun b h => by
    by_cases hb : b = p
    · rw [hb]; exact hp
    · rw [upd_ne hb] at h
      exact a.al b h
  oa := a.oa
theorem Rel.upd {H G : Hp} {σ : St} {e : Env} {p : Addr} {o : HO} (r : Rel H G σ e) (hG : G p = none) (hn : ¬ OA σ e p) : Rel (L2.upd H p o) G σ e := by
  refine ⟨fun b u h => ?_, r.len, r.va, fun i ds q => ?_, r.dis⟩
  · rw [upd_ne (ne_of_none h hG)]
    exact r.sub b u h
  · obtain ⟨a, us, q1, q2, q3, q4⟩ := r.ow i ds q
    have hap : a ≠ p := fun z => hn (z ▸ ⟨i, ds, q, q1⟩)
    exact ⟨a, us, q1, by rw [upd_ne hap]; exact q2, q3, q4⟩
end Ev
end
section
namespace Ev
open PySem PySem.Spec L2
open PyProof.Rows hiding St
variable [KF]
def evT (cf : CF) (c : E) (e : Env) : R Bool := if isAbs c = true then R.ok true e else (ev cf c e).bind fun x e => lift (truthy x) e
def tC (T : XT) (W : St → XK) (cf : CF) (c : E) : TT := fun σ H Q => ∃ G e, Rel H G σ e ∧ RnG IsK T W σ e G H (evT cf c e) Q
theorem sc_nil {X : Cx} {T : XT} {W : St → XK} {cf : CF} : PTs X [] (tC T W cf .absent) := ⟨fun pins s σ H Q I ⟨G, e, r, q⟩ => pts_nil.run pins s σ H Q I (by
  have q : RnG IsK T W σ e G H (.ok true e) Q := q
  exact q.here r rfl)⟩
theorem sc_one {X : Cx} {T : XT} {W : St → XK} {cf : CF} {x : Expr} {c : E} (hn : isAbs c = false) (h : PT X x (tT T W cf c)) : PTs X [x] (tC T W cf c) := ⟨fun pins s σ H Q I ⟨G, e, r, q⟩ => (pts_one h).run pins s σ H Q I (by
  unfold evT at q
  rw [if_neg (by rw [hn]; exact Bool.false_ne_true)] at q
  exact ⟨G, e, r, q⟩)⟩
def bodyC (cf : CF) (elt c : E) (e : Env) : R (Option D) := (evT cf c e).bind fun k e => if k = true then (ev cf elt e).bind fun y e => .ok (some y) e else .ok none e
theorem bodyC_some {cf : CF} {elt c : E} {e e2 : Env} {y : D} (h : bodyC cf elt c e = .ok (some y) e2) : ∃ e1, evT cf c e = .ok true e1 ∧ ev cf elt e1 = .ok y e2 := by
  unfold bodyC at h
  cases h1 : evT cf c e with
  | no => rw [h1] at h; cases h
  | ex _ _ _ => rw [h1] at h; cases h
  | ok k e1 =>
    rw [h1] at h
    cases k with
    | false => cases h
    | true =>
      have h : ((ev cf elt e1).bind fun y e => R.ok (some y) e) = .ok (some y) e2 := h
      cases h2 : ev cf elt e1 with
      | no => rw [h2] at h; cases h
      | ex _ _ _ => rw [h2] at h; cases h
      | ok d e3 =>
        rw [h2] at h
        cases h
        exact ⟨e1, rfl, h2⟩
theorem bodyC_none {cf : CF} {elt c : E} {e e2 : Env} (h : bodyC cf elt c e = .ok none e2) : evT cf c e = .ok false e2 := by
  unfold bodyC at h
  cases h1 : evT cf c e with
  | no => rw [h1] at h; cases h
  | ex _ _ _ => rw [h1] at h; cases h
  | ok k e1 =>
    rw [h1] at h
    cases k with
    | false => cases h; rfl
    | true =>
      have h : ((ev cf elt e1).bind fun y e => R.ok (some y) e) = .ok none e2 := h
      cases h2 : ev cf elt e1 with
      | no => rw [h2] at h; cases h
      | ex _ _ _ => rw [h2] at h; cases h
      | ok d e3 => rw [h2] at h; cases h
theorem loopC_cons {own : List Nat} {f : Env → R (Option D)} {t : Tg} {x : D} {xs acc ys : List D} {e e' : Env} (h : loopC own f t (x :: xs) acc e = .ok ys e') :
    ∃ e1, tset t x e = some e1 ∧ ((∃ y e2, f e1 = .ok (some y) e2 ∧ acc.length < sizeLine ∧ loopC own f t xs (acc ++ [y]) (wipeE e2 own) = .ok ys e') ∨ ∃ e2, f e1 = .ok none e2 ∧ loopC own f t xs acc (wipeE e2 own) = .ok ys e') := by
  unfold loopC at h
  split at h
  · cases h
  · next e1 h1 =>
    refine ⟨e1, h1, ?_⟩
    split at h
    · next y e2 h2 =>
      split at h
      · next hl => exact .inl ⟨y, e2, h2, hl, h⟩
      · cases h
    · next e2 h2 => exact .inr ⟨e2, h2, h⟩
    · cases h
theorem loopC_ok {own : List Nat} {f : Env → R (Option D)} {t : Tg} : ∀ {xs acc : List D} {e : Env} {c : Nat} {fs : List D} {e' : Env}, loopC own f t xs acc e ≠ .ex c fs e'
  | [], acc, e, c, fs, e', h => by
    unfold loopC at h
    cases h
  | x :: xs, acc, e, c, fs, e', h => by
    unfold loopC at h
    split at h
    · cases h
    · split at h
      · split at h
        · exact loopC_ok h
        · cases h
      · exact loopC_ok h
      · cases h
section
variable {X : Cx} {T : XT} {W : St → XK} {cf : CF} {tg elt iter : Expr} {ifs : List Expr} {scope : Scope} {ownS : List (Str × Nat)} {t : Tg} {it c el : E} {pos : Pos}
/-- what the loop of a comprehension tells -/
theorem lc_reads (hsub : ∀ j ∈ tnames t, j ∈ ownS.map (·.2)) (σ : St) (H : Hp) (Q : VK) (h : tEv T W cf true (.lc el t it c (ownS.map (·.2))) σ H Q) :
    tLc (tI T W cf it) (tG t) (tC T (fun _ => E0) cf c) (tV T (fun _ => E0) cf el) (ownS.map (·.2)) σ H Q := by
  obtain ⟨G, e, r, q⟩ := h
  generalize hown : ownS.map (·.2) = own at *
  have q : Rn T W σ e G H ((evI cf it e).bind fun ds e => if (own.all fun j => !isOwn (getS e j)) = true then (loopC own (bodyC cf el c) t ds [] (wipeE e own)).bind fun ys e' => .ok (.lst ys) (restE e' e own) else .no) true Q := q
  refine ⟨G, e, r, ?_⟩
  cases hq : evI cf it e with
  | no => rw [hq] at q; exact q
  | ex c fs e' => rw [hq] at q; exact q
  | ok ds e1 =>
    rw [hq] at q
    have q : Rn T W σ e G H (if (own.all fun j => !isOwn (getS e1 j)) = true then (loopC own (bodyC cf el c) t ds [] (wipeE e1 own)).bind fun ys e' => .ok (.lst ys) (restE e' e1 own) else .no) true Q := q
    split at q
    · next hno =>
      intro J H1 G1 r1 s1 ⟨Gp, Y, wk, wG, wY⟩ D0 hD
      cases hl : loopC own (bodyC cf el c) t ds [] (wipeE e1 own) with
      | no => rw [hl] at q; exact q.elim
      | ex c fs e' => exact (loopC_ok hl).elim
      | ok ys e9 =>
        rw [hl] at q
        have q : Rn T W σ e G H (.ok (.lst ys) (restE e9 e1 own)) true Q := q
        obtain ⟨rw1, ow1⟩ := r1.wiped own
        have noOwn : ∀ j ∈ own, ∀ zs, getS e1 j ≠ .ow zs := fun j hj zs hz => by
          have := List.all_eq_true.mp hno j hj
          rw [hz] at this
          cases this
        obtain ⟨rD, sD, nD⟩ := rw1.own (o := .lst []) hD
        refine lc_it wk (fun i H2 => ∃ G2 e2 acc vs, Rel H2 G2 (wipe σ own) e2 ∧ Sp' (OA σ e1) G1 H1 (OA (wipe σ own) e2) G2 H2 ∧ H2 D0 = some (.lst vs) ∧ G2 D0 = none ∧ RepA G2 vs acc ∧ ¬ OA (wipe σ own) e2 D0 ∧
          loopC own (bodyC cf el c) t (ds.drop i) acc e2 = .ok ys e9) ?_ ?_ ?_ ?_
        · refine ⟨G1, wipeE e1 own, [], [], rD, ⟨Same.refl _, fun b o h _ => ?_, fun b o h => .inl h, fun b h => ?_, ow1⟩, upd_same, r1.free hD, .nil, nD, by rw [List.drop_zero]; exact hl⟩
          · rw [upd_ne (ne_of_none h hD)]
            exact h
          · exact sD.al b h
        · rintro i H2 hi ⟨G2, e2, acc, vs, r2, s2, _⟩
          exact wG H2 (s2.gs.trans r2.sub)
        · rintro i v H2 H3 hi ⟨G2, e2, acc, vs, r2, s2, hD2, gD2, aD2, nD2, lp⟩ hy
          obtain ⟨d, hd, hit⟩ := wY i H2 v H3 hi (s2.gs.trans r2.sub) hy
          have hdr : ds.drop i = d :: ds.drop (i + 1) := by
            have hh := List.drop_eq_getElem_cons hi
            rw [hh]
            congr 1
            rw [List.getElem?_eq_getElem hi] at hd
            exact Option.some.inj hd
          rw [hdr] at lp
          obtain ⟨e3, ht, lp⟩ := loopC_cons lp
          -- the item
          have item : ∃ G3, Rel H3 G3 (wipe σ own) e2 ∧ Stp (wipe σ own) e2 G2 H2 e2 G3 H3 ∧ Rep G3 v d := by
            rcases hit with ⟨rfl, hr⟩ | ⟨p, us, es, rfl, rfl, hp, rfl, hr⟩
            · exact ⟨G2, r2, Stp.refl, hr.mono s2.gs⟩
            · obtain ⟨r3, s3⟩ := r2.lay (o := .tup us) hp
              exact ⟨_, r3, s3, .tup upd_same ((hr.mono s2.gs).mono s3.gs)⟩
          obtain ⟨G3, r3, s3, rv⟩ := item
          refine ⟨G3, e2, d, e3, r3, rv, ht, fun σ4 p4 => ?_⟩
          have hw : wipe σ4 own = wipe σ own := by
            have : wipe σ4 own = wipe (wipe σ own) own := wipe_eq p4.len fun j hj => p4.oth j fun z => hj (hsub j z)
            rw [this]
            exact wipe_eq (wipe_len own σ) fun j hj => wipe_get own σ j hj
          refine ⟨hw, ?_⟩
          have sp4 : Sp' (OA σ e1) G1 H1 (OA σ4 e3) G3 H3 := (s2.trans s3.sp).less p4.oa
          have hD3 : H3 D0 = some (.lst vs) := s3.fr _ _ hD2 nD2
          have gD3 : G3 D0 = none := by
            cases w : G3 D0 with
            | none => rfl
            | some o =>
              rcases s3.nw D0 o w with w | w | w | w
              · rw [gD2] at w; cases w
              · rw [hD2] at w; cases w
              · exact (nD2 w).elim
              · exact (w.neL hD2).elim
          have nD4 : ¬ OA σ4 e3 D0 := fun z => nD2 (p4.oa _ z)
          -- behind a step from there
          have fwd : ∀ {e5 : Env} {G5 H5 : Hp}, Stp σ4 e3 G3 H3 e5 G5 H5 → H5 D0 = some (.lst vs) ∧ G5 D0 = none ∧ ¬ OA σ4 e5 D0 := fun {e5 G5 H5} s5 => by
            refine ⟨s5.fr _ _ hD3 nD4, ?_, fun z => nD4 (s5.oa _ z)⟩
            cases w : G5 D0 with
            | none => rfl
            | some o =>
              rcases s5.nw D0 o w with w | w | w | w
              · rw [gD3] at w; cases w
              · rw [hD3] at w; cases w
              · exact (nD4 w).elim
              · exact (w.neL hD3).elim
          rcases lp with ⟨y, e6, hb, hacc, lp⟩ | ⟨e6, hb, lp⟩
          · obtain ⟨e5, hb1, hb2⟩ := bodyC_some hb
            refine ⟨G3, e3, p4.rel, ?_⟩
            rw [hb1]
            intro k H5 G5 r5 s5 hk
            cases hk
            refine iteT ⟨G5, e5, r5, ?_⟩
            rw [hb2]
            intro yv H6 G6 r6 s6 ry
            obtain ⟨hD6, gD6, nD6⟩ := fwd (s5.trans s6)
            obtain ⟨r7, o7⟩ := r6.wiped own
            rw [hw] at r7 o7
            have nD7 : ¬ OA (wipe σ own) (wipeE e6 own) D0 := fun z => nD6 (o7 _ z)
            refine ⟨vs, hD6, by rw [aD2.length]; exact hacc, G6, wipeE e6 own, acc ++ [y], vs ++ [yv], r7.upd gD6 nD7, ?_, upd_same, gD6, ?_, nD7, lp⟩
            · exact (((sp4.trans (s5.trans s6).sp).less o7)).upd hD
            · exact (((aD2.mono s3.gs).mono s5.gs).mono s6.gs).append (.cons ry .nil)
          · have hb1 := bodyC_none hb
            refine ⟨G3, e3, p4.rel, ?_⟩
            rw [hb1]
            intro k H5 G5 r5 s5 hk
            cases hk
            obtain ⟨hD5, gD5, nD5⟩ := fwd s5
            obtain ⟨r7, o7⟩ := r5.wiped own
            rw [hw] at r7 o7
            exact iteF ⟨G5, wipeE e6 own, acc, vs, r7, (sp4.trans s5.sp).less o7, hD5, gD5, (aD2.mono s3.gs).mono s5.gs, fun z => nD5 (o7 _ z), lp⟩
        · rintro H2 ⟨G2, e2, acc, vs, r2, s2, hD2, gD2, aD2, nD2, lp⟩
          rw [List.drop_length] at lp
          unfold loopC at lp
          injection lp with k1 k2
          subst k1
          subst k2
          have out : ∀ (j : Nat) (s : Sl), (restE e2 e1 own)[j]? = some s → (∃ d, s = .va d ∧ j ∈ own ∧ e1[j]? = some (.va d)) ∨ (s = .em) ∨ (j ∉ own ∧ e2[j]? = some s) := by
            intro j s h
            rcases restE_get own e2 e1 j s h with ⟨z1, z2⟩ | z
            · cases hs : getS e1 j with
              | em => exact .inr (.inl (z2.trans hs))
              | ow zs => exact (noOwn j z1 zs hs).elim
              | va d => exact .inl ⟨d, z2.trans hs, z1, getS_some hs (fun w => nomatch w)⟩
            · exact .inr (.inr z)
          have oaK : ∀ a, OA σ (restE e2 e1 own) a → OA (wipe σ own) e2 a := fun a ⟨j, zs, z1, z2⟩ => by
            rcases out j _ z1 with ⟨d, z, _⟩ | z | ⟨z3, z4⟩
            · cases z
            · cases z
            · exact ⟨j, zs, z4, by rw [wipe_get own σ j z3]; exact z2⟩
          have rel : Rel H2 G2 σ (restE e2 e1 own) := by
            refine ⟨r2.sub, ?_, fun j d h => ?_, fun j zs h => ?_, fun j k zs us hj hk hjk => ?_⟩
            · rw [restE_len, ← r2.len, wipe_len]
            · rcases out j _ h with ⟨d', z, _, z4⟩ | z | ⟨z3, z4⟩
              · cases z
                obtain ⟨v, k1, k2⟩ := r1.va j d z4
                exact ⟨v, k1, k2.mono s2.gs⟩
              · cases z
              · obtain ⟨v, k1, k2⟩ := r2.va j d z4
                exact ⟨v, by rw [← wipe_get own σ j z3]; exact k1, k2⟩
            · rcases out j _ h with ⟨d', z, _⟩ | z | ⟨z3, z4⟩
              · cases z
              · cases z
              · obtain ⟨a, us, k1, k2, k3, k4⟩ := r2.ow j zs z4
                exact ⟨a, us, by rw [← wipe_get own σ j z3]; exact k1, k2, k3, k4⟩
            · rcases out j _ hj with ⟨d', z, _⟩ | z | ⟨z3, z4⟩
              · cases z
              · cases z
              · rcases out k _ hk with ⟨d', z, _⟩ | z | ⟨z5, z6⟩
                · cases z
                · cases z
                · exact r2.dis j k zs us z4 z6 (by rw [wipe_get own σ j z3, wipe_get own σ k z5]; exact hjk)
          have st := (s1.sp.trans (s2.less oaK)).stp
          exact q (.ref D0) H2 G2 rel st ⟨D0, vs, acc, rfl, rfl, s1.al _ hD, hD2, gD2, aD2, fun z => nD2 (oaK _ z)⟩
    · exact q.elim
theorem sr_lc (hc : X.calm = true) (hN : X.N.Nodup) (hi : PI X tg iter (tI T W cf it)) (ok : BlkOk X.N X.env.scope scope ownS) (hsub : ∀ j ∈ tnames t, j ∈ ownS.map (·.2))
    (hg : ∀ (s : Shared) (H : Hp) (C : Addr) (cl : List (Str × Addr)) (fp : List Addr), STg (X.blk s H scope (compEnvC scope cl C X.env) fp) tg t)
    (ht : ∀ (s : Shared) (H : Hp) (C : Addr) (cl : List (Str × Addr)) (fp : List Addr), PTs (X.blk s H scope (compEnvC scope cl C X.env) fp) ifs (tC T (fun _ => E0) cf c))
    (he : ∀ (s : Shared) (H : Hp) (C : Addr) (cl : List (Str × Addr)) (fp : List Addr), PE (X.blk s H scope (compEnvC scope cl C X.env) fp) elt (tV T (fun _ => E0) cf el)) (hs : ∀ x, foldedSetIterable iter X.env x = pure x) :
    PE X (.ListComp elt [⟨tg, iter, ifs, 0⟩] scope pos) (tEv T W cf true (.lc el t it c (ownS.map (·.2)))) :=
  wkE (pe_lc hc hN hi ok (fun s H C cl fp => sg_of (X := X.blk s H scope (compEnvC scope cl C X.env) fp) hc hN (hg s H C cl fp)) ht he hs) fun σ H Q q => lc_reads hsub σ H Q q
end
end Ev
end
section
namespace Ev
open PySem PySem.Spec L2
open PyProof.Rows hiding St
variable [KF]
/-! ### statements -/
structure Bs where
  sl : St
  en : Env
  G : Hp
  H : Hp
  io : Bool
structure RelS (B : Bs) (H G : Hp) (σ : St) (e : Env) : Prop where
  rel : Rel H G σ e
  gs : Same B.G G
  fr : ∀ b o, B.H b = some o → ¬ OA B.sl B.en b → H b = some o
  nw : ∀ b o, G b = some o → B.G b = some o ∨ B.H b = none ∨ OA B.sl B.en b ∨ Kt B.H b o
  al : ∀ b, H b = none → B.H b = none
  oa : ∀ a, OA σ e a → OA B.sl B.en a ∨ B.H a = none
  z : B.io = true → σ[0]? = B.sl[0]?
section
variable {B : Bs} {σ : St} {e e' : Env} {G H G' H' : Hp}
theorem RelS.step (r : RelS B H G σ e) (r' : Rel H' G' σ e') (s : Stp σ e G H e' G' H') : RelS B H' G' σ e' where
  rel := r'
  gs := r.gs.trans s.gs
  fr := fun b o h n => s.fr b o (r.fr b o h n) fun z => (r.oa b z).elim n fun w => by rw [w] at h; cases h
  nw := fun b o h => by
    rcases s.nw b o h with z | z | z | z
    · exact r.nw b o z
    · exact .inr (.inl (r.al b z))
    · exact (r.oa b z).elim (fun w => .inr (.inr (.inl w))) fun w => .inr (.inl w)
    · obtain ⟨us, e9, z⟩ := z
      subst e9
      cases hc : B.H b with
      | none => exact .inr (.inl rfl)
      | some o' =>
        by_cases hn : OA B.sl B.en b
        · exact .inr (.inr (.inl hn))
        · have := r.fr b o' hc hn
          rw [z] at this
          cases this
          exact .inr (.inr (.inr ⟨us, rfl, hc⟩))
  al := fun b h => r.al b (s.al b h)
  oa := fun a h => r.oa a (s.oa a h)
  z := r.z
theorem RelS.put {is : List Nat} {σ' : St} (r : RelS B H G σ e) (p : Put H G σ e is e' σ') (hz : B.io = true → 0 ∉ is) : RelS B H G σ' e' where
  rel := p.rel
  gs := r.gs
  fr := r.fr
  nw := r.nw
  al := r.al
  oa := fun a h => r.oa a (p.oa a h)
  z := fun h => (p.oth 0 (hz h)).trans (r.z h)
/-- a new list comes to a slot, as one's own -/
theorem RelS.putO {i p : Nat} {vs : List V} {ds : Ow} (r : RelS B H G σ e) (hH : H p = some (ds.ho vs)) (hG : G p = none) (hA : RepO G vs ds) (hn : ¬ OA σ e p) (h0 : B.H p = none) (hz : B.io = true → 0 ≠ i) :
    RelS B H G (σ.set i (some (.ref p))) (e.set i (.ow ds)) := by
  have at' : ∀ j, j ≠ i → (σ.set i (some (V.ref p)))[j]? = σ[j]? := fun j hj => List.getElem?_set_ne (Ne.symm hj)
  have ati : ∀ j, j < (e.set i (.ow ds)).length → (σ.set i (some (V.ref p)))[i]? = some (some (.ref p)) ∨ i ≥ σ.length := fun j _ => by
    by_cases hi : i < σ.length
    · exact .inl (List.getElem?_set_self hi)
    · exact .inr (by omega)
  have self : ∀ s, (e.set i (.ow ds))[i]? = some s → (σ.set i (some (V.ref p)))[i]? = some (some (.ref p)) := fun s h => by
    have := (List.getElem?_eq_some_iff.mp h).1
    rw [List.length_set, ← r.rel.len] at this
    exact List.getElem?_set_self this
  have oaK : ∀ a, OA (σ.set i (some (V.ref p))) (e.set i (.ow ds)) a → a = p ∨ OA σ e a := fun a ⟨j, ys, h1, h2⟩ => by
    rcases getS_set h1 with ⟨e1, z⟩ | ⟨e1, z⟩
    · subst e1
      rw [self _ h1] at h2
      cases h2
      exact .inl rfl
    · rw [at' j e1] at h2
      exact .inr ⟨j, ys, z, h2⟩
  refine ⟨⟨r.rel.sub, by rw [List.length_set, List.length_set]; exact r.rel.len, fun j d h => ?_, fun j ys h => ?_, fun j k ys zs hj hk hjk => ?_⟩, r.gs, r.fr, r.nw, r.al, fun a h => ?_, fun h => (at' 0 (hz h)).trans (r.z h)⟩
  · rcases getS_set h with ⟨e1, z⟩ | ⟨e1, z⟩
    · cases z
    · obtain ⟨w, h1, h2⟩ := r.rel.va j d z
      exact ⟨w, by rw [at' j e1]; exact h1, h2⟩
  · rcases getS_set h with ⟨e1, z⟩ | ⟨e1, z⟩
    · subst e1
      cases z
      exact ⟨p, vs, self _ h, hH, hG, hA⟩
    · obtain ⟨a, us, h1, h2, h3, h4⟩ := r.rel.ow j ys z
      exact ⟨a, us, by rw [at' j e1]; exact h1, h2, h3, h4⟩
  · rcases getS_set hj with ⟨e1, _⟩ | ⟨e1, z⟩
    · rcases getS_set hk with ⟨e2, _⟩ | ⟨e2, z2⟩
      · rw [e1, e2]
      · subst e1
        rw [self _ hj, at' k e2] at hjk
        exact (hn ⟨k, zs, z2, hjk.symm⟩).elim
    · rcases getS_set hk with ⟨e2, _⟩ | ⟨e2, z2⟩
      · subst e2
        rw [self _ hk, at' j e1] at hjk
        exact (hn ⟨j, ys, z, hjk⟩).elim
      · rw [at' j e1, at' k e2] at hjk
        exact r.rel.dis j k ys zs z z2 hjk
  · rcases oaK a h with z | z
    · rw [z]; exact .inr h0
    · exact r.oa a z
/-- a list of one's own changes -/
theorem RelS.setO {i p : Nat} {us : List V} {ds es : Ow} (r : RelS B H G σ e) (hi : e[i]? = some (.ow ds)) (hσ : σ[i]? = some (some (.ref p))) (hA : RepO G us es) :
    RelS B (L2.upd H p (es.ho us)) G σ (e.set i (.ow es)) := by
  have hil : i < e.length := (List.getElem?_eq_some_iff.mp hi).1
  obtain ⟨p2, vs2, y1, y2, y3, y4⟩ := r.rel.ow i ds hi
  rw [hσ] at y1
  cases y1
  have hoa : OA σ e p := ⟨i, ds, hi, hσ⟩
  have oth : ∀ (j : Nat) (ys : Ow) (a : Addr), j ≠ i → e[j]? = some (.ow ys) → σ[j]? = some (some (.ref a)) → a ≠ p := fun j ys a hj hy ha z => by
    subst z
    exact hj (r.rel.dis j i ys ds hy hi (ha.trans hσ.symm))
  have oaK : ∀ a, OA σ (e.set i (.ow es)) a → OA σ e a := fun a ⟨j, ys, z1, z2⟩ => by
    rcases getS_set z1 with ⟨e1, _⟩ | ⟨_, e2⟩
    · subst e1
      exact ⟨_, ds, hi, z2⟩
    · exact ⟨j, ys, e2, z2⟩
  have own : ∀ (j : Nat) (ys : Ow), (e.set i (.ow es))[j]? = some (.ow ys) → ∃ zs, e[j]? = some (.ow zs) := fun j ys h => by
    rcases getS_set h with ⟨e1, _⟩ | ⟨_, z⟩
    · exact ⟨ds, e1 ▸ hi⟩
    · exact ⟨ys, z⟩
  refine ⟨⟨fun b o h => ?_, by rw [List.length_set]; exact r.rel.len, fun j d h => ?_, fun j ys h => ?_, fun j k ys zs hj hk hjk => ?_⟩, r.gs, fun b o h n => ?_, r.nw, fun b h => ?_, fun a h => r.oa a (oaK a h), r.z⟩
  · rw [upd_ne (ne_of_none h y3)]
    exact r.rel.sub b o h
  · rcases getS_set h with ⟨_, z⟩ | ⟨_, z⟩
    · cases z
    · exact r.rel.va j d z
  · rcases getS_set h with ⟨e1, z⟩ | ⟨hj, z⟩
    · cases z
      subst e1
      exact ⟨p, us, hσ, upd_same, y3, hA⟩
    · obtain ⟨a, ws, h1, h2, h3, h4⟩ := r.rel.ow j ys z
      exact ⟨a, ws, h1, by rw [upd_ne (oth j ys a hj z h1)]; exact h2, h3, h4⟩
  · obtain ⟨_, f1⟩ := own j ys hj
    obtain ⟨_, f2⟩ := own k zs hk
    exact r.rel.dis j k _ _ f1 f2 hjk
  · have hb : b ≠ p := fun z => by
      subst z
      rcases r.oa _ hoa with w | w
      · exact n w
      · rw [w] at h; cases h
    rw [upd_ne hb]
    exact r.fr b o h n
  · by_cases hb : b = p
    · subst hb
      rw [upd_same] at h
      cases h
    · rw [upd_ne hb] at h
      exact r.al b h
end
def ResS (fr : Bool) (B : Bs) (σ : St) (e : Env) (G H : Hp) (v : V) (d : D) : Prop :=
  if fr = true then ∃ (p : Addr) (vs : List V) (ds : Ow), v = .ref p ∧ d = ds.toD ∧ B.H p = none ∧ H p = some (ds.ho vs) ∧ G p = none ∧ RepO G vs ds ∧ ¬ OA σ e p else Rep G v d
def RnS (T : XT) (W : St → XK) (fr : Bool) (B : Bs) (G0 : Hp) (r : RS) (Dd : Ends) : Prop := match r with
  | .nx e => ∀ σ H G, RelS B H G σ e → Same G0 G → Dd.nx σ H
  | .bk e => ∀ σ H G, RelS B H G σ e → Same G0 G → Dd.bk σ H
  | .ct e => ∀ σ H G, RelS B H G σ e → Same G0 G → Dd.ct σ H
  | .rt d e => ∀ v σ H G, RelS B H G σ e → Same G0 G → ResS fr B σ e G H v d → Dd.rt v H
  | .exn c fs e => ∀ d σ H G, RelS B H G σ e → Same G0 G → ExAt T c fs d G H → W σ (T.cls c) d H
  | .no => False
theorem RnS.mono {T : XT} {W : St → XK} {fr : Bool} {B : Bs} {G0 G1 : Hp} {r : RS} {Dd : Ends} (s : Same G0 G1) (h : RnS T W fr B G0 r Dd) : RnS T W fr B G1 r Dd := by
  cases r with
  | no => exact h
  | nx e => exact fun σ H G r1 s1 => h σ H G r1 (s.trans s1)
  | bk e => exact fun σ H G r1 s1 => h σ H G r1 (s.trans s1)
  | ct e => exact fun σ H G r1 s1 => h σ H G r1 (s.trans s1)
  | rt d e => exact fun v σ H G r1 s1 => h v σ H G r1 (s.trans s1)
  | exn c fs e => exact fun d σ H G r1 s1 => h d σ H G r1 (s.trans s1)
def tX (T : XT) (W : St → XK) (cf : CF) (fr : Bool) (B : Bs) (s : S) : TS := fun Dd σ H => ∃ G e, RelS B H G σ e ∧ RnS T W fr B G (ex cf s e) Dd
theorem wkS {X : Cx} {x : Stmt} {t t' : TS} (h : PS X x t) (k : ∀ D σ H, t' D σ H → t D σ H) : PS X x t' := ⟨fun pins s σ H D I q => h.run pins s σ H D I (k D σ H q)⟩
theorem wkSs {X : Cx} {x : List Stmt} {t t' : TS} (h : PSs X x t) (k : ∀ D σ H, t' D σ H → t D σ H) : PSs X x t' := ⟨fun pins s σ H D I q => h.run pins s σ H D I (k D σ H q)⟩
section
variable {X : Cx} {T : XT} {W : St → XK} {cf : CF} {fr : Bool} {B : Bs} {pos : Pos}
/-- an expression ahead of the rest of a statement -/
theorem RnS.bind {α β : Type} {P : Hp → β → α → Prop} {r : R α} {k : α → Env → RS} {Dd : Ends} {σ : St} {e : Env} {G H : Hp} {Q : β → Hp → Prop} (rs : RelS B H G σ e) (h : RnS T W fr B G (r.thn k) Dd)
    (hk : ∀ x e1 v H1 G1, r = .ok x e1 → RelS B H1 G1 σ e1 → Stp σ e G H e1 G1 H1 → P G1 v x → RnS T W fr B G1 (k x e1) Dd → Q v H1) : RnG P T W σ e G H r Q := by
  cases r with
  | no => exact h
  | ex c fs e' => exact fun d H' G' r1 s1 x1 => h d σ H' G' (rs.step r1 s1) s1.gs x1
  | ok x e1 => exact fun v H1 G1 r1 s1 q1 => hk x e1 v H1 G1 rfl (rs.step r1 s1) s1 q1 (RnS.mono s1.gs h)
theorem RnS.bindF {fr' : Bool} {r : R D} {k : D → Env → RS} {Dd : Ends} {σ : St} {e : Env} {G H : Hp} {Q : VK} (rs : RelS B H G σ e) (h : RnS T W fr B G (r.thn k) Dd)
    (hk : ∀ x e1 v H1 G1, r = .ok x e1 → RelS B H1 G1 σ e1 → Stp σ e G H e1 G1 H1 → Res fr' σ e e1 G1 H H1 v x → RnS T W fr B G1 (k x e1) Dd → Q v H1) : Rn T W σ e G H r fr' Q := by
  cases r with
  | no => exact h
  | ex c fs e' => exact fun d H' G' r1 s1 x1 => h d σ H' G' (rs.step r1 s1) s1.gs x1
  | ok x e1 => exact fun v H1 G1 r1 s1 q1 => hk x e1 v H1 G1 rfl (rs.step r1 s1) s1 q1 (RnS.mono s1.gs h)
theorem RnS.liftB {γ : Type} {o : Option γ} {e : Env} {G : Hp} {k : γ → Env → RS} {Dd : Ends} (h : RnS T W fr B G ((lift o e).thn k) Dd) : ∃ y, o = some y ∧ RnS T W fr B G (k y e) Dd := by
  cases o with
  | none => exact h.elim
  | some y => exact ⟨y, rfl, h⟩
/-! #### blocks -/
inductive SSs (X : Cx) (T : XT) (W : St → XK) (cf : CF) (fr : Bool) (B : Bs) : List Stmt → S → Prop where
  | nil : SSs X T W cf fr B [] .nil
  | cons {x : Stmt} {xs : List Stmt} {s ss : S} : PS X x (tX T W cf fr B s) → SSs X T W cf fr B xs ss → SSs X T W cf fr B (x :: xs) (.cons s ss)
theorem ss_of {xs : List Stmt} {s : S} (h : SSs X T W cf fr B xs s) : PSs X xs (tX T W cf fr B s) := by
  induction h with
  | nil =>
    refine wkSs pss_nil fun D σ H ⟨G, e, r, q⟩ => ?_
    have q : RnS T W fr B G (.nx e) D := q
    exact q σ H G r (Same.refl _)
  | @cons x xs s ss h1 _ ih =>
    refine wkSs (pss_cons h1 ih) fun D σ H ⟨G, e, r, q⟩ => ⟨G, e, r, ?_⟩
    have q : RnS T W fr B G (match ex cf s e with | .nx e' => ex cf ss e' | r => r) D := q
    cases hr : ex cf s e with
    | nx e' =>
      rw [hr] at q
      exact fun σ1 H1 G1 r1 s1 => ⟨G1, e', r1, RnS.mono s1 q⟩
    | rt d e' => rw [hr] at q; exact q
    | bk e' => rw [hr] at q; exact q
    | ct e' => rw [hr] at q; exact q
    | exn c fs e' => rw [hr] at q; exact q
    | no => rw [hr] at q; exact q
theorem sx_pass : PS X (.Pass pos) (tX T W cf fr B .pass) := wkS ps_pass fun D σ H ⟨G, e, r, q⟩ => by
  have q : RnS T W fr B G (.nx e) D := q
  exact q σ H G r (Same.refl _)
theorem sx_brk : PS X (.Break pos) (tX T W cf fr B .brk) := wkS ps_break fun D σ H ⟨G, e, r, q⟩ => by
  have q : RnS T W fr B G (.bk e) D := q
  exact q σ H G r (Same.refl _)
theorem sx_cnt : PS X (.Continue pos) (tX T W cf fr B .cnt) := wkS ps_continue fun D σ H ⟨G, e, r, q⟩ => by
  have q : RnS T W fr B G (.ct e) D := q
  exact q σ H G r (Same.refl _)
theorem sx_retn (hf : fr = false) : PS X (.Return none pos) (tX T W cf fr B .retn) := wkS ps_retN fun D σ H ⟨G, e, r, q⟩ => by
  subst hf
  have q : RnS T W false B G (.rt .non e) D := q
  exact q .non σ H G r (Same.refl _) .non
theorem sx_ret {x : Expr} {a : E} (ha : PE X x (tEv T W cf fr a)) : PS X (.Return (some x) pos) (tX T W cf fr B (.ret a)) := wkS (ps_ret ha) fun D σ H ⟨G, e, r, q⟩ => by
  have q : RnS T W fr B G ((ev cf a e).thn fun d e => .rt d e) D := q
  refine ⟨G, e, r.rel, RnS.bindF r q fun d e1 v H1 G1 _ r1 s1 q1 h1 => h1 v σ H1 G1 r1 (Same.refl _) ?_⟩
  cases fr with
  | false => exact q1
  | true =>
    obtain ⟨p, vs, ds, e1, e2, e3, e4, e5, e6, e7⟩ := q1
    exact ⟨p, vs, ds, e1, e2, r.al _ e3, e4, e5, e6, e7⟩
theorem sx_exp {x : Expr} {a : E} (ha : PE X x (tV T W cf a)) (hs : swapsWith x none pos.line X.env = pure false) : PS X (.Expr x pos) (tX T W cf fr B (.exp a)) := wkS (ps_expr ha hs) fun D σ H ⟨G, e, r, q⟩ => by
  have q : RnS T W fr B G ((ev cf a e).thn fun _ e => .nx e) D := q
  exact ⟨G, e, r.rel, RnS.bind r q fun d e1 v H1 G1 _ r1 s1 q1 h1 => h1 σ H1 G1 r1 (Same.refl _)⟩
theorem sx_ite {x : Expr} {xs ys : List Stmt} {c : E} {a b : S} (hc : PT X x (tT T W cf c)) (ha : SSs X T W cf fr B xs a) (hb : SSs X T W cf fr B ys b) : PS X (.If x xs ys pos) (tX T W cf fr B (.ite c a b)) := wkS (ps_if hc (ss_of ha) (ss_of hb)) fun D σ H ⟨G, e, r, q⟩ => by
  have q : RnS T W fr B G ((ev cf c e).thn fun x e => (lift (truthy x) e).thn fun k e => if k = true then ex cf a e else ex cf b e) D := q
  have ea : ∀ r1 : R Ev.D, (r1.thn fun x e => (lift (truthy x) e).thn fun k e => if k = true then ex cf a e else ex cf b e) = (r1.bind fun x e => lift (truthy x) e).thn fun k e => if k = true then ex cf a e else ex cf b e := by
    intro r1
    cases r1 with
    | ok d e1 => rfl
    | ex _ _ _ => rfl
    | no => rfl
  rw [ea] at q
  refine ⟨G, e, r.rel, RnS.bind r q fun k e1 v H1 G1 _ r1 s1 q1 h1 => ?_⟩
  cases q1
  cases k with
  | true => exact ⟨G1, e1, r1, h1⟩
  | false => exact ⟨G1, e1, r1, h1⟩
/-! #### assignments -/
def noComp : Expr → Bool
  | .ListComp _ _ _ _ => false
  | .SetComp _ _ _ _ => false
  | .DictComp _ _ _ _ _ => false
  | _ => true
theorem no_swap {x : Expr} (h : noComp x = true) (t : Option Expr) (l : Nat) (env : PySem.Env) : swapsWith x t l env = pure false := by
  cases x <;> first | rfl | cases h
theorem no_stores_nm {n : Str} {np : Pos} {x : Expr} {env : PySem.Env} : swappedStores [.Name n np] x env = pure none := by
  cases x <;> rfl
theorem sx_set {i : Nat} {n : Str} {np : Pos} {x : Expr} {a : E} (h : PS X (.Assign [.Name n np] x pos) (tAsg (tEv T W cf false a) (gName i))) (hz : B.io = true → 0 ≠ i) : PS X (.Assign [.Name n np] x pos) (tX T W cf fr B (.asg (.nm i) a)) :=
  wkS h fun D σ H ⟨G, e, r, q⟩ => by
    have q : RnS T W fr B G ((ev cf a e).thn fun d e => .nx (e.set i (.va d))) D := q
    refine ⟨G, e, r.rel, RnS.bindF r q fun d e1 v H1 G1 _ r1 s1 q1 h1 => ?_⟩
    obtain ⟨r2, o2⟩ := r1.rel.putV (i := i) (show Rep G1 v d from q1)
    refine h1 _ H1 G1 (r1.put (is := [i]) ⟨r2, fun j hj => List.getElem?_set_ne fun z => hj (by rw [z]; exact List.mem_singleton.mpr rfl), List.length_set .., o2⟩ fun hio => ?_) (Same.refl _)
    exact fun z => hz hio (List.mem_singleton.mp z)
theorem sx_setO {i : Nat} {n : Str} {np : Pos} {x : Expr} {a : E} (h : PS X (.Assign [.Name n np] x pos) (tAsg (tEv T W cf true a) (gName i))) (hz : B.io = true → 0 ≠ i) : PS X (.Assign [.Name n np] x pos) (tX T W cf fr B (.asgo i a)) :=
  wkS h fun D σ H ⟨G, e, r, q⟩ => by
    have q : RnS T W fr B G ((ev cf a e).thn fun d e => match d with | .lst xs => .nx (e.set i (.ow (.l xs))) | .dic ks xs => .nx (e.set i (.ow (.d ks xs))) | _ => .no) D := q
    refine ⟨G, e, r.rel, RnS.bindF r q fun d e1 v H1 G1 _ r1 s1 q1 h1 => ?_⟩
    obtain ⟨p, vs, w, rfl, rfl, e3, e4, e5, e6, e7⟩ := q1
    cases w with
    | l ds => exact h1 _ H1 G1 (r1.putO (ds := .l ds) e4 e5 e6 e7 (r.al _ e3) hz) (Same.refl _)
    | d ks ds => exact h1 _ H1 G1 (r1.putO (ds := .d ks ds) e4 e5 e6 e7 (r.al _ e3) hz) (Same.refl _)
/-- where the value is no comprehension -/
theorem as_plain {i : Nat} {n : Str} {np : Pos} {x : Expr} {te : TE} (hN : X.N.Nodup) (hi : X.N[i]? = some n) (hl : Loc X.env.scope n) (hf : X.fn n = true ∨ X.env.scope.names.lookup n = some .local) (hx : noComp x = true) (h : PE X x te) : PS X (.Assign [.Name n np] x pos) (tAsg te (gName i)) :=
  ps_asg h (pg_name hN hi hl hf) (by unfold swapsWithSole; exact no_swap hx _ _ _) no_stores_nm rfl
theorem sx_tup {xs : List Expr} {k : Nat} {tp : Pos} {x : Expr} {a : E} {ts : Tg} (hc : X.calm = true) (hN : X.N.Nodup) (hw : swappedStores [.Tuple xs k tp] x X.env = pure none) (hs : swapsWithSole [.Tuple xs k tp] x pos.line X.env = pure false) (ht : STg X (.Tuple xs k tp) (.tp ts)) (ha : PE X x (tV T W cf a))
    (hz : B.io = true → 0 ∉ tnames (.tp ts)) : PS X (.Assign [.Tuple xs k tp] x pos) (tX T W cf fr B (.asg (.tp ts) a)) :=
  wkS (ps_asg ha (sg_of hc hN ht) hs hw rfl) fun D σ H ⟨G, e, r, q⟩ => by
    have q : RnS T W fr B G ((ev cf a e).thn fun d e => match tset (.tp ts) d e with | some e' => .nx e' | none => .no) D := q
    refine ⟨G, e, r.rel, RnS.bind r q fun d e1 v H1 G1 _ r1 s1 q1 h1 => ?_⟩
    split at h1
    · next e2 h2 => exact ⟨G1, e1, d, e2, r1.rel, q1, h2, fun σ' p => h1 σ' H1 G1 (r1.put p hz) (Same.refl _)⟩
    · exact h1.elim
theorem orSet {X : Cx} {t1 t2 : TSet} (h1 : PSet X t1) (h2 : PSet X t2) : PSet X (fun o i v H Q => t1 o i v H Q ∨ t2 o i v H Q) := fun pins s σ H o i v ov iv u Q I a b c q => q.elim (h1 pins s σ H o i v ov iv u Q I a b c) (h2 pins s σ H o i v ov iv u Q I a b c)
theorem odS_some {e : Env} {i : Nat} {q : List (List Int) × List D} (h : odS (getS e i) = some q) : e[i]? = some (.ow (.d q.1 q.2)) := by
  cases hs : getS e i with
  | ow ys =>
    rw [hs] at h
    cases ys with
    | l _ => cases h
    | d ks xs =>
      cases h
      exact getS_some hs (fun z => nomatch z)
  | _ => rw [hs] at h; cases h
/-- x[k] = e of a list or dict of one's own -/
theorem sx_seti {i : Nat} {n : Str} {np sp : Pos} {x y : Expr} {a b : E} (hu : X.A.units + 66 < cLine) (hN : X.N[i]? = some n) (hv : Vis X.env.scope n) (hd : (n == ("__debug__" : Str)) = false) (hcd : (n == ("__classdict__" : Str)) = false) (hx : noComp x = true)
    (ha' : ∀ v, PySem.assign (.Subscript (.Name n np) y sp) X.env v = (do
      let ov ← holding [v] (PySem.eval (.Name n np) X.env)
      let iv ← holding [v, ov] (PySem.eval y X.env)
      standAt sp
      holding [v, ov, iv] (setItem ov iv v)
      release [v, ov, iv] [])) (ha : PE X x (tV T W cf a)) (hb : PE X y (tV T W cf b)) : PS X (.Assign [.Subscript (.Name n np) y sp] x pos) (tX T W cf fr B (.seti i b a)) :=
  wkS (ps_asg ha (pg_sub (pe_var (X := X) hN hv hd hcd) hb (orSet set_list (set_dict (by omega))) ha') (by unfold swapsWithSole; exact no_swap hx _ _ _) (by cases x <;> rfl) rfl) fun D σ H ⟨G, e, r, q⟩ => by
    have q : RnS T W fr B G ((ev cf a e).thn fun d e => if isOd (getS e i) = true then (ev cf b e).thn fun y e => (lift (odS (getS e i)) e).thn fun q e => match y with
      | .tup ys => (lift (ints? ys) e).thn fun k e => if q.1.length < sizeLine then .nx (e.set i (.ow (dput q.1 q.2 k d))) else .no
      | _ => .no else if isOw (getS e i) = true then (ev cf b e).thn fun y e => (lift (owS (getS e i)) e).thn fun xs e => match y with
      | .int n => (lift (ixN xs.length n) e).thn fun j e => .nx (e.set i (.ow (xs.set j d)))
      | _ => .no else .no) D := q
    refine ⟨G, e, r.rel, RnS.bind r q fun d e1 v H1 G1 _ r1 s1 q1 h1 => ?_⟩
    split at h1
    · next hl =>
      obtain ⟨q0, hx0⟩ := Option.isSome_iff_exists.mp hl
      obtain ⟨a0, vs0, z1, _, _, _⟩ := r1.rel.ow i _ (odS_some hx0)
      refine ⟨.ref a0, z1, G1, e1, r1.rel, RnS.bind r1 h1 fun y2 e2 u H2 G2 _ r2 s2 q2 h2 => .inr ?_⟩
      obtain ⟨q3, hxs, h3⟩ := h2.liftB
      have hi := odS_some hxs
      obtain ⟨a1, vs, y1, y2, y3, y4⟩ := r2.rel.ow i _ hi
      rw [z1] at y1
      cases y1
      cases q2 with
      | @tup bk us ys hb' hB =>
        obtain ⟨k, hk, h4⟩ := h3.liftB
        split at h4
        · next hlen =>
          obtain ⟨us', g1, g2⟩ := dput_rep (k := k) (q1.mono s2.gs) y4.1 y4.2
          refine ⟨a0, _, rfl, .inr ⟨_, keyOf k, bk, y2, rfl, ?_, ?_, rfl⟩, ?_⟩
          · rw [r2.rel.sub _ _ hb', hB.ints hk, keyOf_kV]
          · rw [List.length_zip, List.length_map, y4.1, Nat.min_self, ← y4.1]
            exact hlen
          · rw [g1]
            exact h4 σ _ G2 (r2.setO hi z1 g2) (Same.refl _)
        · exact h4.elim
      | _ => exact h3.elim
    · split at h1
      · next hl =>
        obtain ⟨xs0, hx0⟩ := Option.isSome_iff_exists.mp hl
        obtain ⟨a0, vs0, z1, _, _, _⟩ := r1.rel.ow i xs0 (owS_some hx0)
        refine ⟨.ref a0, z1, G1, e1, r1.rel, RnS.bind r1 h1 fun y2 e2 u H2 G2 _ r2 s2 q2 h2 => .inl ?_⟩
        obtain ⟨xs, hxs, h3⟩ := h2.liftB
        have hi := owS_some hxs
        obtain ⟨a1, vs, y1, y2, y3, y4⟩ := r2.rel.ow i xs hi
        rw [z1] at y1
        cases y1
        cases q2 with
        | int m =>
          obtain ⟨j, hj, h4⟩ := h3.liftB
          have y4 : RepA G2 vs xs := y4
          refine ⟨a0, vs, m, j, rfl, rfl, y2, by rw [y4.length]; exact hj, ?_⟩
          exact h4 σ _ G2 (r2.setO (es := .l (xs.set j d)) hi z1 (y4.set (q1.mono s2.gs) j)) (Same.refl _)
        | _ => exact h3.elim
      · exact h1.elim
/-- x.append(e) of a list of one's own -/
theorem sx_app {i : Nat} {n : Str} {np ap cp : Pos} {x : Expr} {a : E} (hN : X.N[i]? = some n) (hv : Vis X.env.scope n) (hd : (n == ("__debug__" : Str)) = false) (hcd : (n == ("__classdict__" : Str)) = false) (hs : starless x = true) (hl : (ap.endLine == cp.line) = true) (ha : PE X x (tV T W cf a)) :
    PS X (.Expr (.Call (.Attribute (.Name n np) "append" ap) [x] [] cp) pos) (tX T W cf fr B (.app i a)) := by
  refine wkS (ps_expr (pe_bm PySem.F.plainAttrs_list PySem.F.slot_list_append PySem.F.type_list_append mt_append (pe_var (X := X) hN hv hd hcd) (pa_cons ha pa_nil (star_cons hs _ _)) rfl (by rw [star_cons hs]; rfl) hl (star_cons hs _ _) rfl) rfl) fun D σ H ⟨G, e, r, q⟩ => ?_
  have q : RnS T W fr B G (if isOw (getS e i) = true then (ev cf a e).thn fun d e => (lift (owS (getS e i)) e).thn fun xs e => if xs.length < sizeLine then .nx (e.set i (.ow (xs ++ [d]))) else .no else .no) D := q
  split at q
  · next hl =>
    obtain ⟨xs0, hx0⟩ := Option.isSome_iff_exists.mp hl
    obtain ⟨a0, vs0, z1, z2, _, _⟩ := r.rel.ow i xs0 (owS_some hx0)
    refine ⟨.ref a0, z1, .inl ⟨rfl, _, .inl (.inl z2)⟩, G, e, r.rel, RnS.bind r q fun d e1 v H1 G1 _ r1 s1 q1 h1 => ?_⟩
    obtain ⟨xs, hxs, h3⟩ := h1.liftB
    have hi := owS_some hxs
    obtain ⟨a1, vs, y1, y2, y3, y4⟩ := r1.rel.ow i xs hi
    rw [z1] at y1
    cases y1
    have y4 : RepA G1 vs xs := y4
    split at h3
    · next hlen =>
      refine ⟨a0, vs, v, rfl, rfl, y2, by rw [y4.length]; exact hlen, ?_⟩
      exact h3 σ _ G1 (r1.setO (es := .l (xs ++ [d])) hi z1 (y4.append (.cons q1 .nil))) (Same.refl _)
    · exact h3.elim
  · exact q.elim
/-! #### for -/
theorem sx_for {tg iter : Expr} {xs : List Stmt} {t : Tg} {it : E} {b : S} (hp : PassesOwn (model X.prog X.w) X.A X.env X.xe) (hc : X.calm = true) (hN : X.N.Nodup) (hi : PI X tg iter (tI T W cf it)) (ht : STg X tg t) (hz : B.io = true → 0 ∉ tnames t) (hb : SSs X T W cf fr B xs b)
    (hs : ∀ x, foldedSetIterable iter X.env x = pure x) : PS X (.For tg iter xs [] pos) (tX T W cf fr B (.for_ t it b)) := by
  refine wkS (ps_for hp hc hi (sg_of hc hN ht) (ss_of hb) hs) fun Dd σ H ⟨G, e, r, q⟩ => ?_
  have q : RnS T W fr B G ((evI cf it e).thn fun ds e => loopS (fun e => ex cf b e) t ds e) Dd := q
  refine ⟨G, e, r.rel, RnS.bind r q fun ds e1 J H1 G1 _ r1 s1 ⟨Gp, Y, wk, wG, wY⟩ h1 => ?_⟩
  refine for_it wk (fun i σ2 H2 => ∃ G2 e2, RelS B H2 G2 σ2 e2 ∧ Same G1 G2 ∧ RnS T W fr B G2 (loopS (fun e => ex cf b e) t (ds.drop i) e2) Dd) ⟨G1, e1, r1, Same.refl _, by rw [List.drop_zero]; exact h1⟩ ?_ ?_ ?_
  · rintro i σ2 H2 hi ⟨G2, e2, r2, s2, _⟩
    exact wG H2 (s2.trans r2.rel.sub)
  · rintro i v σ2 H2 H3 hi ⟨G2, e2, r2, s2, lp⟩ hy
    obtain ⟨d, hd, hit⟩ := wY i H2 v H3 hi (s2.trans r2.rel.sub) hy
    have hdr : ds.drop i = d :: ds.drop (i + 1) := by
      have hh := List.drop_eq_getElem_cons hi
      rw [hh]
      congr 1
      rw [List.getElem?_eq_getElem hi] at hd
      exact Option.some.inj hd
    rw [hdr] at lp
    have item : ∃ G3, RelS B H3 G3 σ2 e2 ∧ Same G2 G3 ∧ Rep G3 v d := by
      rcases hit with ⟨rfl, hr⟩ | ⟨p, us, es, rfl, rfl, hp, rfl, hr⟩
      · exact ⟨G2, r2, Same.refl _, hr.mono s2⟩
      · obtain ⟨r3, s3⟩ := r2.rel.lay (o := .tup us) hp
        exact ⟨_, r2.step r3 s3, s3.gs, .tup upd_same ((hr.mono s2).mono s3.gs)⟩
    obtain ⟨G3, r3, s3, rv⟩ := item
    unfold loopS at lp
    split at lp
    · exact lp.elim
    · next e3 h3 =>
      refine ⟨G3, e2, d, e3, r3.rel, rv, h3, fun σ4 p4 => ?_⟩
      have r4 := r3.put p4 hz
      refine ⟨G3, e3, r4, ?_⟩
      have lp := RnS.mono s3 lp
      -- what was known stays known
      cases hx : ex cf b e3 with
      | no => rw [hx] at lp; exact lp
      | exn c fs e5 => rw [hx] at lp; exact lp
      | rt d5 e5 => rw [hx] at lp; exact lp
      | bk e5 => rw [hx] at lp; exact lp
      | nx e5 =>
        rw [hx] at lp
        intro σ5 H5 G5 r5 s5
        exact ⟨G5, e5, r5, (s2.trans s3).trans s5, RnS.mono s5 lp⟩
      | ct e5 =>
        rw [hx] at lp
        intro σ5 H5 G5 r5 s5
        exact ⟨G5, e5, r5, (s2.trans s3).trans s5, RnS.mono s5 lp⟩
  · rintro σ2 H2 ⟨G2, e2, r2, s2, lp⟩
    rw [List.drop_length] at lp
    exact lp σ2 H2 G2 r2 (Same.refl _)
end
end Ev
end
section
namespace Ev
open PySem PySem.Spec L2
open PyProof.Rows hiding St
variable [KF]
section
variable {X : Cx} {T : XT} {W : St → XK} {cf : CF} {fr : Bool} {B : Bs} {pos : Pos}
/-- name = [.. for ..] on one line, the name a local that no block holds -/
theorem as_lc {i : Nat} {y : Str} {py p : Pos} {tg elt iter : Expr} {ifs : List Expr} {scope : Scope} {ownS : List (Str × Nat)} {t : Tg} {it c el : E} (hc : X.calm = true) (hN : X.N.Nodup) (hy : X.N[i]? = some y) (hyl : X.env.scope.names.lookup y = some .local)
    (hsw : swapsWith (.ListComp elt [⟨tg, iter, ifs, 0⟩] scope p) (some (.Name y py)) pos.line X.env = pure true) (hi : PI X tg iter (tI T W cf it)) (ok : BlkOk X.N X.env.scope scope ownS) (hsub : ∀ j ∈ tnames t, j ∈ ownS.map (·.2))
    (hg : ∀ (s : Shared) (H : Hp) (C : Addr) (cl : List (Str × Addr)) (fp : List Addr), STg (X.blk s H scope (compEnvC scope cl C X.env) fp) tg t)
    (ht : ∀ (s : Shared) (H : Hp) (C : Addr) (cl : List (Str × Addr)) (fp : List Addr), PTs (X.blk s H scope (compEnvC scope cl C X.env) fp) ifs (tC T (fun _ => E0) cf c))
    (he : ∀ (s : Shared) (H : Hp) (C : Addr) (cl : List (Str × Addr)) (fp : List Addr), PE (X.blk s H scope (compEnvC scope cl C X.env) fp) elt (tV T (fun _ => E0) cf el)) (hs : ∀ x, foldedSetIterable iter X.env x = pure x) :
    PS X (.Assign [.Name y py] (.ListComp elt [⟨tg, iter, ifs, 0⟩] scope p) pos) (tAsg (tEv T W cf true (.lc el t it c (ownS.map (·.2)))) (gName i)) :=
  wkS (ps_setLc hc hN hy hyl hsw hi ok (fun s H C cl fp => sg_of (X := X.blk s H scope (compEnvC scope cl C X.env) fp) hc hN (hg s H C cl fp)) ht he hs) fun D σ H q => lc_reads hsub σ H _ q
/-! #### several names at once -/
theorem ResS.step {o : Bool} {σ : St} {e e' : Env} {G H G' H' : Hp} {v : V} {d : D} (h : ResS o B σ e G H v d) (s : Stp σ e G H e' G' H') : ResS o B σ e' G' H' v d := by
  cases o with
  | false => exact Rep.mono s.gs h
  | true =>
    obtain ⟨p, vs, w, e1, e2, h0, h1, h2, h3, h4⟩ := h
    refine ⟨p, vs, w, e1, e2, h0, s.fr _ _ h1 h4, ?_, h3.mono s.gs, fun z => h4 (s.oa _ z)⟩
    cases q : G' p with
    | none => rfl
    | some u =>
      rcases s.nw p u q with z | z | z | z
      · rw [h2] at z; cases z
      · rw [h1] at z; cases z
      · exact (h4 z).elim
      · exact (z.ne h1).elim
theorem RelS.res {o : Bool} {σ : St} {e e1 : Env} {G H G1 H1 : Hp} {v : V} {d : D} (r : RelS B H G σ e) (q : Res o σ e e1 G1 H H1 v d) : ResS o B σ e1 G1 H1 v d := by
  cases o with
  | false => exact q
  | true =>
    obtain ⟨p, vs, w, e1, e2, h0, h1, h2, h3, h4⟩ := q
    exact ⟨p, vs, w, e1, e2, r.al _ h0, h1, h2, h3, h4⟩
theorem ResS.ne {σ : St} {e e1 : Env} {G H G1 H1 : Hp} {v v' : V} {d d' : D} (h : ResS true B σ e G H v d) (q : Res true σ e e1 G1 H H1 v' d') : v ≠ v' := by
  obtain ⟨p, vs, w, e1, e2, h0, h1, h2, h3, h4⟩ := h
  obtain ⟨p', vs', w', e1', e2', h0', h1', h2', h3', h4'⟩ := q
  subst e1 e1'
  intro z
  cases z
  rw [h1] at h0'
  cases h0'
theorem RelS.putR {o : Bool} {i : Nat} {σ : St} {e : Env} {G H : Hp} {v : V} {d : D} {s : Sl} (r : RelS B H G σ e) (h : ResS o B σ e G H v d) (hs : slot o d = some s) (hz : B.io = true → 0 ≠ i) :
    RelS B H G (σ.set i (some v)) (e.set i s) ∧ ∀ (o' : Bool) (v' : V) (d' : D), ResS o' B σ e G H v' d' → (o = true → o' = true → v ≠ v') → ResS o' B (σ.set i (some v)) (e.set i s) G H v' d' := by
  cases o with
  | false =>
    cases hs
    obtain ⟨r3, o3⟩ := r.rel.putV (i := i) (show Rep G v d from h)
    refine ⟨r.put (is := [i]) ⟨r3, fun k hk => List.getElem?_set_ne fun w => hk (by rw [w]; exact List.mem_singleton.mpr rfl), List.length_set .., o3⟩ fun hio w => (hz hio) (List.mem_singleton.mp w), fun o' v' d' h' _ => ?_⟩
    cases o' with
    | false => exact h'
    | true =>
      obtain ⟨p, vs, w, e1, e2, h0, h1, h2, h3, h4⟩ := h'
      exact ⟨p, vs, w, e1, e2, h0, h1, h2, h3, fun z => h4 (o3 _ z)⟩
  | true =>
    obtain ⟨p, vs, w, e1, e2, h0, h1, h2, h3, h4⟩ := h
    subst e1 e2
    have es : s = .ow w := by
      cases w <;> (cases hs; rfl)
    subst es
    refine ⟨r.putO h1 h2 h3 h4 h0 hz, fun o' v' d' h' ne => ?_⟩
    cases o' with
    | false => exact h'
    | true =>
      obtain ⟨p', vs', w', e1', e2', h0', h1', h2', h3', h4'⟩ := h'
      subst e1'
      refine ⟨p', vs', w', rfl, e2', h0', h1', h2', h3', fun z => ?_⟩
      obtain ⟨j, ys, z1, z2⟩ := z
      rcases getS_set z1 with ⟨e5, _⟩ | ⟨e5, z3⟩
      · subst e5
        have hl := (List.getElem?_eq_some_iff.mp z1).1
        rw [List.length_set, ← r.rel.len] at hl
        rw [List.getElem?_set_self hl] at z2
        cases z2
        exact ne rfl rfl rfl
      · rw [List.getElem?_set_ne (Ne.symm e5)] at z2
        exact h4' ⟨j, ys, z3, z2⟩
/-- a, b = x, y of two plain locals -/
theorem sx_par {i j : Nat} {y1 y2 : Str} {p1 p2 pt pt2 : Pos} {kt k2 : Nat} {x z : Expr} {a b : E} {oi oj : Bool} (hc : X.calm = true) (hN : X.N.Nodup) (hi : X.N[i]? = some y1) (hj : X.N[j]? = some y2) (hij : i ≠ j)
    (hx : X.env.scope.names.lookup y1 = some .local) (hy : X.env.scope.names.lookup y2 = some .local) (hs1 : starless x = true) (hs2 : starless z = true) (ha : PE X x (tEv T W cf oi a)) (hb : PE X z (tEv T W cf oj b))
    (hw : swappedStores [.Tuple [.Name y1 p1, .Name y2 p2] kt pt] (.Tuple [x, z] k2 pt2) X.env = pure (some [y1, y2])) (hz : B.io = true → 0 ≠ i ∧ 0 ≠ j) :
    PS X (.Assign [.Tuple [.Name y1 p1, .Name y2 p2] kt pt] (.Tuple [x, z] k2 pt2) pos) (tX T W cf fr B (.par i j oi oj a b)) :=
  wkS (ps_par hc hN hi hj hij hx hy (pa_cons ha (pa_cons hb pa_nil (star_cons hs2 _ _)) (star_cons hs1 _ _)) hw rfl) fun D σ H ⟨G, e, r, q⟩ => by
    have q : RnS T W fr B G ((ev cf a e).thn fun x e => (ev cf b e).thn fun y e => match slot oi x, slot oj y with
      | some s, some s' => .nx ((e.set i s).set j s')
      | _, _ => .no) D := q
    refine ⟨G, e, r.rel, RnS.bindF r q fun d e1 v H1 G1 _ r1 s1 q1 h1 => ⟨G1, e1, r1.rel, RnS.bindF r1 h1 fun d2 e2 u H2 G2 _ r2 s2 q2 h2 => ?_⟩⟩
    show ∃ v' w', [v, u] = [v', w'] ∧ D.nx ((σ.set i (some v')).set j (some w')) H2
    refine ⟨v, u, rfl, ?_⟩
    have a1 := r.res q1
    have a2 := a1.step s2
    have b2 := r1.res q2
    split at h2
    · next s s' hs hs' =>
      obtain ⟨r3, k3⟩ := r2.putR (i := i) a2 hs fun hio => (hz hio).1
      have b3 := k3 oj u d2 b2 fun o1 o2 => by subst o1 o2; exact a1.ne q2
      obtain ⟨r4, _⟩ := r3.putR (i := j) b3 hs' fun hio => (hz hio).2
      exact h2 _ H2 G2 r4 (Same.refl _)
    · exact h2.elim
theorem sx_par3 {i j l : Nat} {y1 y2 y3 : Str} {p1 p2 p3 pt pt2 : Pos} {kt k2 : Nat} {x z u : Expr} {a b c : E} {oi oj ol : Bool} (hc : X.calm = true) (hN : X.N.Nodup) (hi : X.N[i]? = some y1) (hj : X.N[j]? = some y2) (hl : X.N[l]? = some y3) (hij : i ≠ j) (hil : i ≠ l) (hjl : j ≠ l)
    (hx : X.env.scope.names.lookup y1 = some .local) (hy : X.env.scope.names.lookup y2 = some .local) (hy3 : X.env.scope.names.lookup y3 = some .local) (hs1 : starless x = true) (hs2 : starless z = true) (hs3 : starless u = true) (ha : PE X x (tEv T W cf oi a)) (hb : PE X z (tEv T W cf oj b)) (hcc : PE X u (tEv T W cf ol c))
    (hw : swappedStores [.Tuple [.Name y1 p1, .Name y2 p2, .Name y3 p3] kt pt] (.Tuple [x, z, u] k2 pt2) X.env = pure (some [y1, y2, y3])) (hz : B.io = true → 0 ≠ i ∧ 0 ≠ j ∧ 0 ≠ l) :
    PS X (.Assign [.Tuple [.Name y1 p1, .Name y2 p2, .Name y3 p3] kt pt] (.Tuple [x, z, u] k2 pt2) pos) (tX T W cf fr B (.par3 i j l oi oj ol a b c)) :=
  wkS (ps_par3 hc hN hi hj hl hij hil hjl hx hy hy3 (pa_cons ha (pa_cons hb (pa_cons hcc pa_nil (star_cons hs3 _ _)) (star_cons hs2 _ _)) (star_cons hs1 _ _)) hw rfl) fun D σ H ⟨G, e, r, q⟩ => by
    have q : RnS T W fr B G ((ev cf a e).thn fun x e => (ev cf b e).thn fun y e => (ev cf c e).thn fun z e => match slot oi x, slot oj y, slot ol z with
      | some s, some s', some s2 => .nx (((e.set i s).set j s').set l s2)
      | _, _, _ => .no) D := q
    refine ⟨G, e, r.rel, RnS.bindF r q fun d e1 v H1 G1 _ r1 s1 q1 h1 => ⟨G1, e1, r1.rel, RnS.bindF r1 h1 fun d2 e2 u2 H2 G2 _ r2 s2 q2 h2 => ⟨G2, e2, r2.rel, RnS.bindF r2 h2 fun d3 e3 u3 H3 G3 _ r3 s3 q3 h3 => ?_⟩⟩⟩
    show ∃ v1 v2 v3, [v, u2, u3] = [v1, v2, v3] ∧ D.nx (((σ.set i (some v1)).set j (some v2)).set l (some v3)) H3
    refine ⟨v, u2, u3, rfl, ?_⟩
    have a1 := r.res q1
    have a2 := a1.step s2
    have a3 := a2.step s3
    have b2 := r1.res q2
    have b3 := b2.step s3
    have c3 := r2.res q3
    split at h3
    · next s s' s2' hs hs' hs2' =>
      obtain ⟨r4, k4⟩ := r3.putR (i := i) a3 hs fun hio => (hz hio).1
      have b4 := k4 oj u2 d2 b3 fun o1 o2 => by subst o1 o2; exact a1.ne q2
      have c4 := k4 ol u3 d3 c3 fun o1 o2 => by subst o1 o2; exact a2.ne q3
      obtain ⟨r5, k5⟩ := r4.putR (i := j) b4 hs' fun hio => (hz hio).2.1
      have c5 := k5 ol u3 d3 c4 fun o1 o2 => by subst o1 o2; exact b2.ne q3
      obtain ⟨r6, _⟩ := r5.putR (i := l) c5 hs2' fun hio => (hz hio).2.2
      exact h3 _ H3 G3 r6 (Same.refl _)
    · exact h3.elim
/-- .. through a new tuple -/
theorem sx_parT {i j : Nat} {y1 y2 : Str} {p1 p2 pt pt2 : Pos} {kt k2 : Nat} {x z : Expr} {a b : E} {oi oj : Bool} (hc : X.calm = true) (hN : X.N.Nodup) (hi : X.N[i]? = some y1) (hj : X.N[j]? = some y2)
    (l1 : Loc X.env.scope y1) (l2 : Loc X.env.scope y2) (f1 : X.fn y1 = true ∨ X.env.scope.names.lookup y1 = some .local) (f2 : X.fn y2 = true ∨ X.env.scope.names.lookup y2 = some .local) (hs1 : starless x = true) (hs2 : starless z = true) (ha : PE X x (tEv T W cf oi a)) (hb : PE X z (tEv T W cf oj b))
    (hw : swappedStores [.Tuple [.Name y1 p1, .Name y2 p2] kt pt] (.Tuple [x, z] k2 pt2) X.env = pure none) (hs : swapsWithSole [.Tuple [.Name y1 p1, .Name y2 p2] kt pt] (.Tuple [x, z] k2 pt2) pos.line X.env = pure false) (hz : B.io = true → 0 ≠ i ∧ 0 ≠ j) :
    PS X (.Assign [.Tuple [.Name y1 p1, .Name y2 p2] kt pt] (.Tuple [x, z] k2 pt2) pos) (tX T W cf fr B (.par i j oi oj a b)) :=
  wkS (ps_asg (pe_tup (pa_cons ha (pa_cons hb pa_nil (star_cons hs2 _ _)) (star_cons hs1 _ _))) (pg_tup (n := 2) hc (pgs_cons (pg_name hN hi l1 f1) (pgs_cons (pg_name hN hj l2 f2) pgs_nil))) hs hw rfl) fun D σ H ⟨G, e, r, q⟩ => by
    have q : RnS T W fr B G ((ev cf a e).thn fun x e => (ev cf b e).thn fun y e => match slot oi x, slot oj y with
      | some s, some s' => .nx ((e.set i s).set j s')
      | _, _ => .no) D := q
    refine ⟨G, e, r.rel, RnS.bindF r q fun d e1 v H1 G1 _ r1 s1 q1 h1 => ⟨G1, e1, r1.rel, RnS.bindF r1 h1 fun d2 e2 u H2 G2 _ r2 s2 q2 h2 => ?_⟩⟩
    refine ⟨(by show 2 ≤ sizeLine; decide), fun p hp => ⟨p, [v, u], rfl, .of (upd_same ..), rfl, v, [u], rfl, u, [], rfl, rfl, ?_⟩⟩
    show D.nx ((σ.set i (some v)).set j (some u)) (upd H2 p (.tup [v, u]))
    obtain ⟨o1, o2, _⟩ := r2.rel.own (o := .tup [v, u]) hp
    have a1 := r.res q1
    have a2 := (a1.step s2).step o2
    have b2 := (r1.res q2).step o2
    have r2' := r2.step o1 o2
    split at h2
    · next s s' hs hs' =>
      obtain ⟨r3, k3⟩ := r2'.putR (i := i) a2 hs fun hio => (hz hio).1
      have b3 := k3 oj u d2 b2 fun o1 o2 => by subst o1 o2; exact a1.ne q2
      obtain ⟨r4, _⟩ := r3.putR (i := j) b3 hs' fun hio => (hz hio).2
      exact h2 _ _ G2 r4 (Same.refl _)
    · exact h2.elim
/-- return name, of an own thing: it is given away -/
theorem sx_reto {i : Nat} {n : Str} {np : Pos} (hf : fr = true) (hio : ∀ a, ¬ OA B.sl B.en a) (hN : X.N[i]? = some n) (hv : Vis X.env.scope n) (hd : (n == ("__debug__" : Str)) = false) (hcd : (n == ("__classdict__" : Str)) = false) (hz : B.io = true → 0 ≠ i) : PS X (.Return (some (.Name n np)) pos) (tX T W cf fr B (.reto i)) :=
  wkS (ps_ret (pe_var (X := X) hN hv hd hcd)) fun D σ H ⟨G, e, r, q⟩ => by
    subst hf
    have q : RnS T W true B G (match getS e i with | .ow w => .rt w.toD (e.set i .em) | _ => .no) D := q
    cases hs : getS e i with
    | em => rw [hs] at q; exact q.elim
    | va d => rw [hs] at q; exact q.elim
    | ow w =>
      rw [hs] at q
      have hi := getS_some hs (fun z => nomatch z)
      obtain ⟨a, us, s1, s2, s3, s4⟩ := r.rel.ow i w hi
      have hil : i < e.length := (List.getElem?_eq_some_iff.mp hi).1
      have back : ∀ {k : Nat} {s : Sl}, (e.set i .em)[k]? = some s → s ≠ .em → k ≠ i ∧ e[k]? = some s := fun {k s} h ne => by
        by_cases z : k = i
        · subst z
          rw [List.getElem?_set_self hil] at h
          exact (ne (Option.some.inj h).symm).elim
        · rw [List.getElem?_set_ne (Ne.symm z)] at h
          exact ⟨z, h⟩
      have oa : ∀ b, OA σ (e.set i .em) b → OA σ e b := fun b ⟨k, xs, h1, h2⟩ => ⟨k, xs, (back h1 (fun z => nomatch z)).2, h2⟩
      have rl : Rel H G σ (e.set i .em) := ⟨r.rel.sub, by rw [List.length_set]; exact r.rel.len, fun k d h => r.rel.va k d (back h (fun z => nomatch z)).2, fun k ds h => r.rel.ow k ds (back h (fun z => nomatch z)).2, fun k l xs ys h1 h2 h3 => r.rel.dis k l xs ys (back h1 (fun z => nomatch z)).2 (back h2 (fun z => nomatch z)).2 h3⟩
      refine ⟨.ref a, s1, q (.ref a) σ H G ⟨rl, r.gs, r.fr, r.nw, r.al, fun b h => r.oa b (oa b h), r.z⟩ (Same.refl _) ⟨a, us, w, rfl, rfl, (r.oa a ⟨i, w, hi, s1⟩).resolve_left (hio a), s2, s3, s4, fun ⟨k, xs, h1, h2⟩ => ?_⟩⟩
      obtain ⟨z1, z2⟩ := back h1 (fun z => nomatch z)
      exact z1 (r.rel.dis k i xs w z2 hi (h2.trans s1.symm))
end
/-! ### a def's body -/
theorem app_get {e : Env} {k : Nat} {i : Nat} {s : Sl} (h : (e ++ List.replicate k .em)[i]? = some s) (hs : s ≠ .em) : e[i]? = some s := by
  by_cases hi : i < e.length
  · rw [List.getElem?_append_left hi] at h
    exact h
  · rw [List.getElem?_append_right (by omega)] at h
    exact (hs (List.eq_of_mem_replicate (List.mem_of_getElem? h))).elim
theorem start_get {N : List Str} {vs : List V} {i : Nat} (h : i < vs.length) : (start N vs)[i]? = (vs.map some)[i]? := by
  unfold L2.start
  rw [List.getElem?_append_left (by rw [List.length_map]; exact h)]
theorem rel_start {H G : Hp} {vs : List V} {e : Env} {N : List Str} (r : Rel H G (vs.map some) e) (hn : e.length ≤ N.length) : Rel H G (start N vs) (e ++ List.replicate (N.length - e.length) .em) ∧ ∀ a, OA (start N vs) (e ++ List.replicate (N.length - e.length) .em) a ↔ OA (vs.map some) e a := by
  have hl : vs.length = e.length := by have := r.len; rw [List.length_map] at this; exact this
  have lt : ∀ (i : Nat) (s : Sl), e[i]? = some s → i < vs.length := fun i s h => by rw [hl]; exact (List.getElem?_eq_some_iff.mp h).1
  refine ⟨⟨r.sub, ?_, fun i d h => ?_, fun i ds h => ?_, fun i j xs ys hi hj hij => ?_⟩, fun a => ⟨fun ⟨i, xs, h1, h2⟩ => ?_, fun ⟨i, xs, h1, h2⟩ => ?_⟩⟩
  · unfold L2.start
    rw [List.length_append, List.length_append, List.length_map, List.length_replicate, List.length_replicate, hl]
  · have h1 := app_get h (fun z => nomatch z)
    obtain ⟨v, h2, h3⟩ := r.va i d h1
    exact ⟨v, by rw [start_get (lt i _ h1)]; exact h2, h3⟩
  · have h1 := app_get h (fun z => nomatch z)
    obtain ⟨a, us, h2, h3⟩ := r.ow i ds h1
    exact ⟨a, us, by rw [start_get (lt i _ h1)]; exact h2, h3⟩
  · have h1 := app_get hi (fun z => nomatch z)
    have h2 := app_get hj (fun z => nomatch z)
    rw [start_get (lt i _ h1), start_get (lt j _ h2)] at hij
    exact r.dis i j xs ys h1 h2 hij
  · have h3 := app_get h1 (fun z => nomatch z)
    rw [start_get (lt i _ h3)] at h2
    exact ⟨i, xs, h3, h2⟩
  · refine ⟨i, xs, ?_, by rw [start_get (lt i _ h1)]; exact h2⟩
    rw [List.getElem?_append_left (List.getElem?_eq_some_iff.mp h1).1]
    exact h1
theorem outO_some {io : Bool} {e : Env} {o : List D} (h : outO io e = some o) : io = false ∨ e[0]? = some (.ow o) := by
  cases io with
  | false => exact .inl rfl
  | true =>
    cases e with
    | nil => cases h
    | cons s e =>
      cases s with
      | ow xs => cases xs with
        | l xs => cases h; exact .inr rfl
        | d _ _ => cases h
      | _ => cases h
section
variable {T : XT} {W : St → XK} {df : Def} {o : Option (List D)} {ds : List D} {vs : List V} {G H : Hp} {N : List Str}
/-- behind the body: what the caller sees -/
theorem back {B : Bs} (hB : B = ⟨start N vs, asl o ds ++ List.replicate (N.length - (asl o ds).length) .em, G, H, df.io⟩) (r : Rel H G (vs.map some) (asl o ds)) (hn : (asl o ds).length ≤ N.length) (hio : o.isSome = df.io) {σ' : St} {e' : Env} {G' H' : Hp} {o' : List D}
    (r' : RelS B H' G' σ' e') (ho : outO df.io e' = some o') : Rel H' G' (vs.map some) (aslO o o' ds) ∧ Stp (vs.map some) (asl o ds) G H (aslO o o' ds) G' H' := by
  subst hB
  obtain ⟨_, oaE⟩ := rel_start r hn
  have gs : Same G G' := r'.gs
  -- the slot that the callee may change
  have own : ∀ xs, o = some xs → ∃ a us, (vs.map some)[0]? = some (some (.ref a)) ∧ H' a = some (.lst us) ∧ G' a = none ∧ RepA G' us o' := fun xs hxs => by
    subst hxs
    have hio' : df.io = true := hio.symm
    rcases outO_some ho with z | z
    · rw [hio'] at z; cases z
    · obtain ⟨a, us, h1, h2, h3, h4⟩ := r'.rel.ow 0 o' z
      have hz := r'.z hio'
      rw [h1] at hz
      obtain ⟨a2, us2, k1, _⟩ := r.ow 0 xs rfl
      have lv : 0 < vs.length := by
        have := (List.getElem?_eq_some_iff.mp k1).1
        rw [List.length_map] at this
        exact this
      have hz : some (some (V.ref a)) = (start N vs)[0]? := hz
      rw [start_get lv] at hz
      exact ⟨a, us, hz.symm, h2, h3, h4⟩
  have len : (vs.map some).length = (aslO o o' ds).length := by
    rw [r.len]
    cases o <;> rfl
  have sl : ∀ (i : Nat) (s : Sl), (aslO o o' ds)[i]? = some s → (∃ xs, o = some xs ∧ i = 0 ∧ s = .ow o') ∨ (∃ d, s = .va d ∧ (asl o ds)[i]? = some (.va d)) := by
    intro i s h
    cases o with
    | none =>
      rcases asl_get h with ⟨ys, z, _⟩ | ⟨j, d, h1, h2, h3⟩
      · cases z
      · subst h2
        exact .inr ⟨d, rfl, h⟩
    | some xs =>
      cases i with
      | zero => exact .inl ⟨xs, rfl, rfl, (Option.some.inj h).symm⟩
      | succ i =>
        rcases asl_get h with ⟨ys, _, z, _⟩ | ⟨j, d, h1, h2, h3⟩
        · cases z
        · subst h2
          exact .inr ⟨d, rfl, h⟩
  refine ⟨⟨r'.rel.sub, len, fun i d h => ?_, fun i zs h => ?_, fun i j xs ys hi hj _ => ?_⟩, ⟨gs, fun b u hb n => r'.fr b u hb fun z => n ((oaE b).mp z), fun b u hb => ?_, r'.al, fun a ⟨i, zs, h1, h2⟩ => ?_⟩⟩
  · rcases sl i _ h with ⟨xs, _, _, z⟩ | ⟨d', z, h1⟩
    · cases z
    · cases z
      obtain ⟨v, h2, h3⟩ := r.va i d h1
      exact ⟨v, h2, h3.mono gs⟩
  · rcases sl i _ h with ⟨xs, h1, h2, z⟩ | ⟨d', z, h1⟩
    · cases z
      subst h2
      exact own xs h1
    · cases z
  · rcases sl i _ hi with ⟨_, _, h2, _⟩ | ⟨d', z, _⟩
    · rcases sl j _ hj with ⟨_, _, h3, _⟩ | ⟨d', z, _⟩
      · rw [h2, h3]
      · cases z
    · cases z
  · rcases r'.nw b u hb with z | z | z | z
    · exact .inl z
    · exact .inr (.inl z)
    · exact .inr (.inr (.inl ((oaE b).mp z)))
    · exact .inr (.inr (.inr z))
  · rcases sl i _ h1 with ⟨xs, h3, h4, z⟩ | ⟨d', z, _⟩
    · subst h3 h4
      exact ⟨0, xs, rfl, h2⟩
    · cases z
theorem post_rs {Wx : XK} {B : Bs} {Q : VK} (hB : B = ⟨start N vs, asl o ds ++ List.replicate (N.length - (asl o ds).length) .em, G, H, df.io⟩) (r : Rel H G (vs.map some) (asl o ds)) (hn : (asl o ds).length ≤ N.length) (hio : o.isSome = df.io) {rs : RS}
    (h : Post T df.fr vs o ds G H Q Wx (fin df.io df.fr rs)) : RnS T (fun _ => Wx) df.fr B G rs { nx := fun _ H' => Q .non H', rt := Q } := by
  have hBH : B.H = H := by rw [hB]
  cases rs with
  | no => exact h
  | bk e' => exact h.elim
  | ct e' => exact h.elim
  | nx e' =>
    intro σ' H' G' r' _
    have h : Post T df.fr vs o ds G H Q Wx (if df.fr = true then .no else match outO df.io e' with | some o => .ok .non o | none => .no) := h
    split at h
    · exact h.elim
    · next hf =>
      cases ho : outO df.io e' with
      | none => rw [ho] at h; exact h.elim
      | some o' =>
        rw [ho] at h
        obtain ⟨r2, s2⟩ := back hB r hn hio r' ho
        refine h .non H' G' r2 s2 ?_
        rw [Bool.not_eq_true] at hf
        rw [hf]
        exact .non
  | rt d e' =>
    intro v σ' H' G' r' _ rv
    have h : Post T df.fr vs o ds G H Q Wx (match outO df.io e' with | some o => .ok d o | none => .no) := h
    cases ho : outO df.io e' with
    | none => rw [ho] at h; exact h.elim
    | some o' =>
      rw [ho] at h
      obtain ⟨r2, s2⟩ := back hB r hn hio r' ho
      refine h v H' G' r2 s2 ?_
      cases hf : df.fr with
      | false =>
        rw [hf] at rv
        exact rv
      | true =>
        rw [hf] at rv
        obtain ⟨p, us, es, e1, e2, e3, e4, e5, e6, e7⟩ := rv
        rw [hBH] at e3
        refine ⟨p, us, es, e1, e2, e3, e4, e5, e6, fun z => ?_⟩
        obtain ⟨i, zs, z1, z2⟩ := s2.oa _ z
        obtain ⟨a2, us2, y1, y2, _, _⟩ := r.ow i zs z1
        rw [z2] at y1
        cases y1
        rw [e3] at y2
        cases y2
  | exn c fs e' =>
    intro d σ' H' G' r' _ rx
    have h : Post T df.fr vs o ds G H Q Wx (match outO df.io e' with | some o => .ex c fs o | none => .no) := h
    cases ho : outO df.io e' with
    | none => rw [ho] at h; exact h.elim
    | some o' =>
      rw [ho] at h
      obtain ⟨r2, s2⟩ := back hB r hn hio r' ho
      exact h d H' G' r2 s2 rx
end
end Ev
end
section
namespace Ev
open PySem PySem.Spec L2 HT
open PyProof.Rows hiding St
variable [KF]
theorem fm_congr {α β : Type} {f g : α → Option β} : ∀ l : List α, (∀ m ∈ l, f m = g m) → l.filterMap f = l.filterMap g
  | [], _ => rfl
  | m :: l, h => by
    rw [List.filterMap_cons, List.filterMap_cons, h m List.mem_cons_self, fm_congr l fun k hk => h k (List.mem_cons_of_mem _ hk)]
theorem rev_pick (xs : Array Value) : ((List.range xs.size).filterMap fun (m : Nat) => xs[(((xs.size : Int) - 1) + (m : Int) * (-1)).toNat]?).toArray = xs.toList.reverse.toArray := by
  have h := PySem.W.krv_pick xs
  congr 1
  apply List.ext_getElem?
  intro i
  have e : (List.range xs.size).filterMap (fun (m : Nat) => xs[(((xs.size : Int) - 1) + (m : Int) * (-1)).toNat]?) = (List.range xs.size).filterMap fun m => xs[xs.size - 1 - m]? := by
    refine fm_congr _ fun m hm => ?_
    have := List.mem_range.mp hm
    have e2 : (((xs.size : Int) - 1) + (m : Int) * (-1)).toNat = xs.size - 1 - m := by omega
    rw [e2]
  rw [e]
  have e3 : (List.range xs.size).filterMap (fun m => xs[xs.size - 1 - m]?) = ((List.range xs.size).map fun k => xs.size - 1 - k).filterMap (xs[·]?) := by
    rw [List.filterMap_map]
    rfl
  rw [e3, PySem.W.krv_range, List.filterMap_reverse, PySem.W.krv_all]
theorem getItem_tuple_back {prog : Program} {w : World} {A : Around} {E : Value → Shared → Prop} {s : Shared} {t sl : Addr} {items : Array Value} {vs : Value} {Q : Value → Shared → Prop} (ht : IsTup s.heap t items) (hs : s.heap.IsSliceOf sl .none .none vs) (ps : IsPart vs (some (-1)))
    (h : Q (.ref s.heap.objs.size) { s with heap := s.heap.push { cls := .type "tuple", data := .seq items.toList.reverse.toArray } }) (hsz : items.size ≤ sizeLine) : wpAny (model prog w) A (getItem (.ref t) (.ref sl)) Q E s := by
  obtain ⟨os, hos, hcs, hds⟩ := id hs
  have hTs : s.TypeIs (.ref sl) "slice" := ⟨os, hos, hcs⟩
  have fits : sizeOk (.seq items.toList.reverse.toArray) := by
    show items.toList.reverse.toArray.size ≤ sizeLine
    simpa using hsz
  unfold getItem
  try with_reducible refine wpAny_holding ?_
  first | refine wpAny_bind (wpAny_pure ?_) | skip
  refine wpAny_bind (wpAny_sequenceKey ht.typeIs (by decide) (wpAny_bind (wpAny_callSpecial?_slot (name := Str.ofString "__getitem__") ht.typeIs PyProof.Rows.slot_tuple_getitem (wpAny_call_entry PyProof.Rows.slot_tuple_getitem ht.typeIs entry_tuple_getitem ?_ (args_tuple_getitem _ _)))))
  show wpAny _ _ (Builtin.Tuple.tupleItemsOf (.ref t) >>= _) _ _ s
  refine wpAny_bind (tupleItemsOf_ ht (wpAny_bind (wpAny_typeOf hTs ?_)))
  rw [if_pos (by decide)]
  have ap : ∀ (A : Around) (E : Value → Shared → Prop), wpAny (model prog w) A (Builtin.Slice.sliceApplied (.ref sl) (pure ((items.size : Nat) : Int))) (fun r s' => r = ((items.size : Int) - 1, -1, items.size) ∧ s' = s) E s := by
    intro A E
    unfold Builtin.Slice.sliceApplied Builtin.Slice.sliceFields
    refine wpAny_bind (wpAny_bind (wpAny_field hos hds (x := .none) rfl (wpAny_bind (wpAny_field hos hds (x := .none) rfl (wpAny_bind (wpAny_field hos hds (x := vs) rfl (wpAny_pure ?_)))))))
    refine wpAny_bind (slicePart_ ps ?_)
    show wpAny _ _ (if ((-1 : Int) == 0) = true then _ else _) _ _ s
    rw [if_neg (by decide)]
    refine wpAny_bind (slicePart_none (wpAny_bind (slicePart_none (wpAny_bind (wpAny_pure ?_)))))
    refine wpAny_pure ⟨?_, rfl⟩
    show (((items.size : Nat) : Int) - 1, (-1 : Int), Builtin.Slice.slicePlaces (((items.size : Nat) : Int) - 1) (-1) (-1)) = _
    have : Builtin.Slice.slicePlaces (((items.size : Nat) : Int) - 1) (-1) (-1) = items.size := by
      unfold Builtin.Slice.slicePlaces
      rw [if_neg (by decide)]
      split
      · have : (((items.size : Nat) : Int) - 1 - -1 - 1) / (- -1) + 1 = ((items.size : Nat) : Int) := by
          rw [show (- -1 : Int) = 1 by decide, Int.ediv_one]
          omega
        rw [this]
        exact Int.toNat_natCast _
      · have : items.size = 0 := by omega
        rw [this]
        rfl
    rw [this]
  refine wpAny_bind (wpAny_mono (ap _ _) ?_ fun _ _ z => z)
  rintro r s' ⟨rfl, rfl⟩
  have hno : ¬ ((((items.size : Int) - 1) == 0 && (-1 : Int) == 1 && items.size == items.size) = true) := by
    intro q
    rw [Bool.and_eq_true, Bool.and_eq_true] at q
    exact absurd q.1.2 (by decide)
  show wpAny _ _ (if (((items.size : Int) - 1) == 0 && (-1 : Int) == 1 && items.size == items.size) = true then _ else _) _ _ s'
  rw [if_neg hno, rev_pick]
  have done : Q (.ref s'.heap.objs.size) { s' with heap := s'.heap.push { cls := .type "tuple", data := .seq items.toList.reverse.toArray } } := h
  refine wpAny_bind (m := Builtin.Tuple.tupleExact _) ?_
  first
    | exact wpAny_newObj_type (wpAny_pure ⟨_, rfl, wpAny_pure done⟩) (by exact fits)
    | exact wpAny_newObj_type (wpAny_bind (wpAny_pure (wpAny_pure ⟨_, rfl, wpAny_pure done⟩))) (by exact fits)
    | exact wpAny_bind (wpAny_newObj_type (wpAny_pure (wpAny_pure ⟨_, rfl, wpAny_pure done⟩)) (by exact fits))
    | exact wpAny_bind (wpAny_newObj_type (wpAny_pure ⟨_, rfl, wpAny_pure done⟩) (by exact fits))
section
variable {X : Cx} {T : XT} {W : St → XK} {cf : CF} {x : Expr} {a : E} {pos p1 p2 p3 : Pos} {k : Nat}
theorem pe_rev {te : TE} (he : PE X x te) : PE X (.Subscript x (.Slice none none (some (.UnaryOp .USub (.Constant (.int 1) k p1) p2)) p3) pos) (fun σ H Q => te σ H fun v H1 => ∃ a vs, v = .ref a ∧
    ((SqL X.K H1 a vs ∧ ∀ p, H1 p = none → Q (.ref p) (upd H1 p (.lst vs.reverse))) ∨ (SqT X.K H1 a vs ∧ ∀ p, H1 p = none → Q (.ref p) (upd H1 p (.tup vs.reverse))))) := by
  have part : PO X (some (.UnaryOp .USub (.Constant (.int 1) k p1) p2)) (tPart (tUn (rU fun i => .int (-i)) (L2.tC (.int 1)))) := po_some (pe_un un_neg pe_int)
  constructor
  intro pins s σ H Q I h
  refine Subscript_ (thn (he.run pins s σ H _ I h) ?_)
  rintro w0 s1 ⟨v, H1, I1, rv, a, vs, rfl, q⟩
  obtain rfl : w0 = Value.ref a := rv
  have two : ∀ (s2 : Shared) (I2 : Inv X pins σ H1 s2) (vc : Value), IsPart vc (some (-1)) → wpAny (model X.prog X.w) X.A (subscriptTail x (.Slice none none (some (.UnaryOp .USub (.Constant (.int 1) k p1) p2)) p3) (.ref a) (.ref s2.heap.objs.size)) (EP X pins σ Q) X.xe { s2 with heap := s2.heap.push { cls := .type "slice", data := .fields #[.none, .none, vc] } } := by
    intro s2 I2 vc pc
    have I3 : Inv X pins σ H1 { s2 with heap := s2.heap.push { cls := .type "slice", data := .fields #[.none, .none, vc] } } := I2.kept (t' := s2.toks) fun _ _ z => Heap.get?_push_of_some _ z
    rcases q with ⟨hs, q⟩ | ⟨hs, q⟩
    · obtain ⟨its, r, hl, hz⟩ := I3.list hs
      have len := r.length
      refine tail_any (ops := [.ref a, .ref s2.heap.objs.size]) hl.isList.typeIs (PySem.slot_list_getitem.lookup) (wpAny_getItem_list_slice hl.isList (Heap.IsSliceOf.new _ .none .none vc) .none .none pc (by decide) ?_ (by rw [List.size_toArray]; omega)) (by with_unfolding_all rfl)
      rw [PySem.W.krv_pick]
      refine ⟨.ref _, _, I3.laid (t' := s2.toks) (o := .lst vs.reverse) (fun _ _ z => Heap.get?_push_of_some _ z) (Nat.le_refl _) ⟨by rw [List.length_reverse]; exact hz, _, 0, r.reverse, Heap.get?_push_size _ rfl⟩, rfl, q _ (I3.hok.fresh (Nat.le_refl _))⟩
    · obtain ⟨its, r, hl, hz⟩ := I3.tuple hs
      have len := r.length
      refine tail_any (ops := [.ref a, .ref s2.heap.objs.size]) hl.typeIs PyProof.Rows.slot_tuple_getitem.lookup (getItem_tuple_back hl (Heap.IsSliceOf.new _ .none .none vc) pc ?_ (by rw [List.size_toArray]; omega)) (by with_unfolding_all rfl)
      refine ⟨.ref _, _, I3.laid (t' := s2.toks) (o := .tup vs.reverse) (fun _ _ z => Heap.get?_push_of_some _ z) (Nat.le_refl _) ⟨by rw [List.length_reverse]; exact hz, _, r.reverse, ⟨_, Heap.get?_push_size _ rfl, rfl, 0, rfl⟩⟩, rfl, q _ (I3.hok.fresh (Nat.le_refl _))⟩
  refine wpAny_Slice ?_
  rw [evalPart_none]
  refine wpAny_pure ?_
  refine wpAny_pure (thn (part.run pins s1 σ H1 (fun o H4 => o = some (-1) ∧ H4 = H1) I1 ⟨1, rfl, -1, rfl, rfl, rfl⟩) ?_)
  rintro vc s4 ⟨o, H4, I4, pc, rfl, rfl⟩
  exact two s4 I4 vc pc
theorem sv_rev (ha : PE X x (tV T W cf a)) : PE X (.Subscript x (.Slice none none (some (.UnaryOp .USub (.Constant (.int 1) k p1) p2)) p3) pos) (tV T W cf (.rev a)) :=
  wkE (pe_rev ha) fun σ H Q ⟨G, e, r, q⟩ => ⟨G, e, r, RnG.bind q fun d e1 v H1 G1 _ r1 s1 q1 h1 => by
    cases q1 with
    | lst hp hA => exact ⟨_, _, rfl, .inl ⟨.inl (.inl (r1.sub _ _ hp)), fun p hn => RnG.newL h1 r1 hA.reverse hn⟩⟩
    | tup hp hA => exact ⟨_, _, rfl, .inr ⟨.inl (.inl (r1.sub _ _ hp)), fun p hn => RnG.newT h1 r1 hA.reverse hn⟩⟩
    | _ => exact h1.elim⟩
end
end Ev
end
section
namespace Ev
open PySem PySem.Spec L2
open PyProof.Rows hiding St
variable [KF]
/-! ### two loops in a comprehension -/
/-- the list at L as it grows -/
structure LI (A0 : Addr → Prop) (G1 H1 : Hp) (L : Addr) (σ : St) (e : Env) (G H : Hp) (acc : List D) : Prop where
  rel : Rel H G σ e
  sp : Sp' A0 G1 H1 (OA σ e) G H
  ls : ∃ vs, H L = some (.lst vs) ∧ RepA G vs acc
  gn : G L = none
  no : ¬ OA σ e L
section
variable {A0 : Addr → Prop} {G1 H1 : Hp} {L : Addr} {σ σ' : St} {e e' : Env} {G H G' H' : Hp} {acc : List D}
theorem LI.step (l : LI A0 G1 H1 L σ e G H acc) (r : Rel H' G' σ e') (s : Stp σ e G H e' G' H') : LI A0 G1 H1 L σ e' G' H' acc where
  rel := r
  sp := l.sp.trans s.sp
  ls := by
    obtain ⟨vs, h1, h2⟩ := l.ls
    exact ⟨vs, s.fr _ _ h1 l.no, h2.mono s.gs⟩
  gn := by
    obtain ⟨vs, h1, h2⟩ := l.ls
    cases w : G' L with
    | none => rfl
    | some o =>
      rcases s.nw L o w with w | w | w | w
      · rw [l.gn] at w; cases w
      · rw [h1] at w; cases w
      · exact (l.no w).elim
      · exact (w.neL h1).elim
  no := fun z => l.no (s.oa _ z)
theorem LI.less (l : LI A0 G1 H1 L σ e G H acc) (r : Rel H G σ' e') (o : ∀ a, OA σ' e' a → OA σ e a) : LI A0 G1 H1 L σ' e' G H acc :=
  ⟨r, l.sp.less o, l.ls, l.gn, fun z => l.no (o _ z)⟩
theorem LI.wiped (l : LI A0 G1 H1 L σ e G H acc) (vs : List Nat) : LI A0 G1 H1 L (wipe σ vs) (wipeE e vs) G H acc := by
  obtain ⟨r2, o2⟩ := l.rel.wiped vs
  exact l.less r2 o2
theorem LI.push {y : V} {d : D} (l : LI A0 G1 H1 L σ e G H acc) (hD : H1 L = none) (r : Rep G y d) : ∃ vs, H L = some (.lst vs) ∧ vs.length = acc.length ∧ LI A0 G1 H1 L σ e G (upd H L (.lst (vs ++ [y]))) (acc ++ [d]) := by
  obtain ⟨vs, h1, h2⟩ := l.ls
  exact ⟨vs, h1, h2.length, l.rel.upd l.gn l.no, l.sp.upd hD, ⟨_, upd_same, h2.append (.cons r .nil)⟩, l.gn, l.no⟩
/-- an item comes -/
theorem LI.item {v : V} {d : D} {i : Nat} {J : It} {ds : List D} {Gp : Hp → Prop} {Y : Nat → Hp → V → Hp → Prop} (l : LI A0 G1 H1 L σ e G H acc)
    (hit : (H' = H ∧ Rep G v d) ∨ ∃ p us es, v = .ref p ∧ d = .tup es ∧ H p = none ∧ H' = upd H p (.tup us) ∧ RepA G us es) : ∃ G3, LI A0 G1 H1 L σ e G3 H' acc ∧ Rep G3 v d ∧ Same G G3 := by
  rcases hit with ⟨rfl, hr⟩ | ⟨p, us, es, rfl, rfl, hp, rfl, hr⟩
  · exact ⟨G, l, hr, Same.refl _⟩
  · obtain ⟨r3, s3⟩ := l.rel.lay (o := .tup us) hp
    exact ⟨_, l.step r3 s3, .tup upd_same (hr.mono s3.gs), s3.gs⟩
end
theorem drop_at {ds : List D} {i : Nat} {d : D} (h : ds[i]? = some d) : ds.drop i = d :: ds.drop (i + 1) := by
  have hi := (List.getElem?_eq_some_iff.mp h).1
  have hh := List.drop_eq_getElem_cons hi
  rw [hh]
  congr 1
  rw [List.getElem?_eq_getElem hi] at h
  exact Option.some.inj h
theorem wipe_sub {σ : St} {own own1 : List Nat} (h : ∀ j ∈ own1, j ∈ own) : wipe (wipe σ own1) own = wipe σ own := wipe_eq (wipe_len _ _) fun j hj => wipe_get _ _ _ fun z => hj (h j z)
section
variable {X : Cx} {T : XT} {W : St → XK} {cf : CF} {tg elt iter tg1 iter1 : Expr} {ifs1 : List Expr} {scope : Scope} {ownS : List (Str × Nat)} {own1 : List Nat} {t t1 : Tg} {it it1 c el : E} {pos : Pos}
/-- the inner loop, as its reading asks it -/
theorem inner_reads {A0 : Addr → Prop} {G1 H1 : Hp} {L : Addr} (hL : H1 L = none) (hsub : ∀ j ∈ tnames t1, j ∈ own1) {σ2 : St} {e2 e9 : Env} {G2 H2 : Hp} {ds1 acc ys : List D} {J1 : It} (l : LI A0 G1 H1 L σ2 e2 G2 H2 acc) (hJ : IsIt G2 J1 ds1)
    (hl : loopC own1 (bodyC cf el c) t1 ds1 acc (wipeE e2 own1) = .ok ys e9) {Nx : Hp → Prop} (hN : ∀ G H, LI A0 G1 H1 L (wipe σ2 own1) e9 G H ys → Nx H) :
    ∃ W1 : Nat → Nat → Hp → Prop, (∃ m, W1 0 m H2) ∧ ∀ j k H, W1 j k H → (J1.stop j H ∧ Nx H) ∨ (J1.go j H ∧ ∃ Nx1 : Hp → Prop, (∀ H', Nx1 H' → ∃ k', k' < k ∧ W1 (j + 1) k' H') ∧ ∀ x H', J1.yld j H x H' → tG t1 x (wipe σ2 own1) H' fun σ3 H5 => wipe σ3 own1 = wipe σ2 own1 ∧ tC T (fun _ => E0) cf c σ3 H5 fun b H6 =>
        if b = true then tV T (fun _ => E0) cf el σ3 H6 fun y H7 => ∃ acc, H7 L = some (.lst acc) ∧ acc.length < sizeLine ∧ Nx1 (upd H7 L (.lst (acc ++ [y]))) else Nx1 H6) := by
  obtain ⟨Gp, Y, wk, wG, wY⟩ := hJ
  let PI : Nat → Hp → Prop := fun j H => ∃ G3 e3 acc3, LI A0 G1 H1 L (wipe σ2 own1) e3 G3 H acc3 ∧ Same G2 G3 ∧ loopC own1 (bodyC cf el c) t1 (ds1.drop j) acc3 e3 = .ok ys e9
  refine ⟨fun j k H => PI j H ∧ k = ds1.length - j ∧ j ≤ ds1.length, ⟨ds1.length, ⟨G2, _, acc, l.wiped own1, Same.refl _, by rw [List.drop_zero]; exact hl⟩, rfl, Nat.zero_le _⟩, ?_⟩
  rintro j k H ⟨⟨G3, e3, acc3, l3, s3, lp⟩, rfl, hj⟩
  by_cases hlt : j < ds1.length
  · refine .inr ⟨wk.goes j H hlt (wG H (s3.trans l3.rel.sub)), PI (j + 1), fun H' p => ⟨ds1.length - (j + 1), by omega, p, rfl, hlt⟩, fun x H' hy => ?_⟩
    have hy' := wk.yields j H x H' hlt (wG H (s3.trans l3.rel.sub)) hy
    obtain ⟨d, hd, hit⟩ := wY j H x H' hlt (s3.trans l3.rel.sub) hy'
    rw [drop_at hd] at lp
    obtain ⟨e4, ht, lp⟩ := loopC_cons lp
    obtain ⟨G4, l4, rv, s4⟩ := l3.item (J := J1) (ds := ds1) (i := j) (Gp := Gp) (Y := Y) (v := x) (d := d) (H' := H') (by
      rcases hit with ⟨h1, h2⟩ | ⟨p, us, es, h1, h2, h3, h4, h5⟩
      · exact .inl ⟨h1, h2.mono s3⟩
      · exact .inr ⟨p, us, es, h1, h2, h3, h4, h5.mono s3⟩)
    refine ⟨G4, e3, d, e4, l4.rel, rv, ht, fun σ5 p5 => ?_⟩
    have hw : wipe σ5 own1 = wipe σ2 own1 := by
      have z : wipe σ5 own1 = wipe (wipe σ2 own1) own1 := wipe_eq p5.len fun j hj => p5.oth j fun z => hj (hsub j z)
      rw [z]
      exact wipe_eq (wipe_len _ _) fun j hj => wipe_get _ _ _ hj
    refine ⟨hw, ?_⟩
    have l5 := l4.less p5.rel p5.oa
    rcases lp with ⟨y, e6, hb, hacc, lp⟩ | ⟨e6, hb, lp⟩
    · obtain ⟨e5, hb1, hb2⟩ := bodyC_some hb
      refine ⟨G4, e4, p5.rel, ?_⟩
      rw [hb1]
      intro k5 H5 G5 r5 t5 hk
      cases hk
      refine iteT ⟨G5, e5, r5, ?_⟩
      rw [hb2]
      intro yv H6 G6 r6 t6 ry
      have l6 := ((l5.step r5 t5).step r6 t6)
      have l7 := l6.wiped own1
      rw [hw] at l7
      obtain ⟨vs, k1, k2, l8⟩ := l7.push hL ry
      exact ⟨vs, k1, by rw [k2]; exact hacc, G6, _, _, l8, ((s3.trans s4).trans t5.gs).trans t6.gs, lp⟩
    · have hb1 := bodyC_none hb
      refine ⟨G4, e4, p5.rel, ?_⟩
      rw [hb1]
      intro k5 H5 G5 r5 t5 hk
      cases hk
      have l7 := (l5.step r5 t5).wiped own1
      rw [hw] at l7
      exact iteF ⟨G5, _, _, l7, (s3.trans s4).trans t5.gs, lp⟩
  · have e0 : j = ds1.length := by omega
    subst e0
    rw [List.drop_length] at lp
    unfold loopC at lp
    injection lp with k1 k2
    subst k1 k2
    exact .inl ⟨wk.stops H (wG H (s3.trans l3.rel.sub)), hN G3 H l3⟩
theorem loopC2_cons {own own1 : List Nat} {fi : Env → R (List D)} {fb : Env → R (Option D)} {t t1 : Tg} {x : D} {xs acc ys : List D} {e e' : Env} (h : loopC2 own own1 fi fb t t1 (x :: xs) acc e = .ok ys e') :
    ∃ e1 ds1 e2 acc' e3, tset t x e = some e1 ∧ fi e1 = .ok ds1 e2 ∧ loopC own1 fb t1 ds1 acc (wipeE e2 own1) = .ok acc' e3 ∧ loopC2 own own1 fi fb t t1 xs acc' (wipeE e3 own) = .ok ys e' := by
  unfold loopC2 at h
  split at h
  · cases h
  · next e1 h1 =>
    split at h
    · next ds1 e2 h2 =>
      split at h
      · next acc' e3 h3 => exact ⟨e1, ds1, e2, acc', e3, h1, h2, h3, h⟩
      · cases h
    · cases h
theorem loopC2_ok {own own1 : List Nat} {fi : Env → R (List D)} {fb : Env → R (Option D)} {t t1 : Tg} : ∀ {xs acc : List D} {e : Env} {c : Nat} {fs : List D} {e' : Env}, loopC2 own own1 fi fb t t1 xs acc e ≠ .ex c fs e'
  | [], acc, e, c, fs, e', h => by
    unfold loopC2 at h
    cases h
  | x :: xs, acc, e, c, fs, e', h => by
    unfold loopC2 at h
    split at h
    · cases h
    · split at h
      · split at h
        · exact loopC2_ok h
        · cases h
      · cases h
theorem lc2_reads (hsub : ∀ j ∈ tnames t, j ∈ ownS.map (·.2)) (hsub1 : ∀ j ∈ tnames t1, j ∈ own1) (ho : ∀ j ∈ own1, j ∈ ownS.map (·.2)) (σ : St) (H : Hp) (Q : VK) (h : tEv T W cf true (.lc2 el t it t1 it1 c (ownS.map (·.2)) own1) σ H Q) :
    tLc2 (tI T W cf it) (tG t) (tC T (fun _ => E0) cf .absent) (tI T (fun _ => E0) cf it1) (tG t1) (tC T (fun _ => E0) cf c) (tV T (fun _ => E0) cf el) (ownS.map (·.2)) own1 σ H Q := by
  obtain ⟨G, e, r, q⟩ := h
  generalize hown : ownS.map (·.2) = own at *
  have q : Rn T W σ e G H ((evI cf it e).bind fun ds e => if (own.all fun j => !isOwn (getS e j)) = true then (loopC2 own own1 (fun e => evI cf it1 e) (bodyC cf el c) t t1 ds [] (wipeE e own)).bind fun ys e' => .ok (.lst ys) (restE e' e own) else .no) true Q := q
  refine ⟨G, e, r, ?_⟩
  cases hq : evI cf it e with
  | no => rw [hq] at q; exact q
  | ex c fs e' => rw [hq] at q; exact q
  | ok ds e1 =>
    rw [hq] at q
    have q : Rn T W σ e G H (if (own.all fun j => !isOwn (getS e1 j)) = true then (loopC2 own own1 (fun e => evI cf it1 e) (bodyC cf el c) t t1 ds [] (wipeE e1 own)).bind fun ys e' => .ok (.lst ys) (restE e' e1 own) else .no) true Q := q
    split at q
    · next hno =>
      intro J H1 G1 r1 s1 ⟨Gp, Y, wk, wG, wY⟩ D0 hD
      cases hl : loopC2 own own1 (fun e => evI cf it1 e) (bodyC cf el c) t t1 ds [] (wipeE e1 own) with
      | no => rw [hl] at q; exact q.elim
      | ex c fs e' => exact (loopC2_ok hl).elim
      | ok ys e9 =>
        rw [hl] at q
        have q : Rn T W σ e G H (.ok (.lst ys) (restE e9 e1 own)) true Q := q
        obtain ⟨rw1, ow1⟩ := r1.wiped own
        have noOwn : ∀ j ∈ own, ∀ zs, getS e1 j ≠ .ow zs := fun j hj zs hz => by
          have := List.all_eq_true.mp hno j hj
          rw [hz] at this
          cases this
        obtain ⟨rD, sD, nD⟩ := rw1.own (o := .lst []) hD
        let PO : Nat → Hp → Prop := fun i H2 => ∃ G2 e2 acc, LI (OA σ e1) G1 H1 D0 (wipe σ own) e2 G2 H2 acc ∧ Same G1 G2 ∧ loopC2 own own1 (fun e => evI cf it1 e) (bodyC cf el c) t t1 (ds.drop i) acc e2 = .ok ys e9
        refine ⟨fun i m H => PO i H ∧ m = ds.length - i ∧ i ≤ ds.length, ⟨ds.length, ⟨G1, wipeE e1 own, [], ⟨rD, ⟨Same.refl _, fun b o h _ => ?_, fun b o h => .inl h, fun b h => ?_, ow1⟩, ⟨[], upd_same, .nil⟩, r1.free hD, nD⟩, Same.refl _, by rw [List.drop_zero]; exact hl⟩, rfl, Nat.zero_le _⟩, ?_⟩
        · rw [upd_ne (ne_of_none h hD)]
          exact h
        · exact sD.al b h
        rintro i m H2 ⟨⟨G2, e2, acc, l2, s2, lp⟩, rfl, hi⟩
        by_cases hlt : i < ds.length
        · refine .inr ⟨wk.goes i H2 hlt (wG H2 (s2.trans l2.rel.sub)), PO (i + 1), fun H' p => ⟨ds.length - (i + 1), by omega, p, rfl, hlt⟩, fun x H' hy => ?_⟩
          have hy' := wk.yields i H2 x H' hlt (wG H2 (s2.trans l2.rel.sub)) hy
          obtain ⟨d, hd, hit⟩ := wY i H2 x H' hlt (s2.trans l2.rel.sub) hy'
          rw [drop_at hd] at lp
          obtain ⟨e3, ds1, e4, acc', e5, ht, hf, hlp, lp⟩ := loopC2_cons lp
          obtain ⟨G3, l3, rv, s3⟩ := l2.item (J := J) (ds := ds) (i := i) (Gp := Gp) (Y := Y) (v := x) (d := d) (H' := H') (by
            rcases hit with ⟨h1, h2⟩ | ⟨p, us, es, h1, h2, h3, h4, h5⟩
            · exact .inl ⟨h1, h2.mono s2⟩
            · exact .inr ⟨p, us, es, h1, h2, h3, h4, h5.mono s2⟩)
          refine ⟨G3, e2, d, e3, l3.rel, rv, ht, fun σ4 p4 => ?_⟩
          have hw : wipe σ4 own = wipe σ own := by
            have z : wipe σ4 own = wipe (wipe σ own) own := wipe_eq p4.len fun j hj => p4.oth j fun z => hj (hsub j z)
            rw [z]
            exact wipe_eq (wipe_len _ _) fun j hj => wipe_get _ _ _ hj
          refine ⟨hw, ?_⟩
          have l4 := l3.less p4.rel p4.oa
          refine ⟨G3, e3, p4.rel, ?_⟩
          show RnG IsK T _ σ4 e3 G3 H' (.ok true e3) _
          intro k H5 G5 r5 t5 hk
          cases hk
          have l5 := l4.step r5 t5
          refine iteT ⟨G5, e3, r5, ?_⟩
          have hf : evI cf it1 e3 = .ok ds1 e4 := hf
          rw [hf]
          intro J1 H6 G6 r6 t6 hJ1
          have l6 := l5.step r6 t6
          refine inner_reads hD hsub1 l6 hJ1 hlp fun G8 H8 l8 => ?_
          have l9 := l8.wiped own
          rw [wipe_sub ho, hw] at l9
          exact ⟨G8, _, _, l9, l9.sp.gs, lp⟩
        · have e0 : i = ds.length := by omega
          subst e0
          rw [List.drop_length] at lp
          unfold loopC2 at lp
          injection lp with k1 k2
          subst k1 k2
          refine .inl ⟨wk.stops H2 (wG H2 (s2.trans l2.rel.sub)), ?_⟩
          have r2 := l2.rel
          have out : ∀ (j : Nat) (s : Sl), (restE e2 e1 own)[j]? = some s → (∃ d, s = .va d ∧ j ∈ own ∧ e1[j]? = some (.va d)) ∨ (s = .em) ∨ (j ∉ own ∧ e2[j]? = some s) := by
            intro j s h
            rcases restE_get own e2 e1 j s h with ⟨z1, z2⟩ | z
            · cases hs : getS e1 j with
              | em => exact .inr (.inl (z2.trans hs))
              | ow zs => exact (noOwn j z1 zs hs).elim
              | va d => exact .inl ⟨d, z2.trans hs, z1, getS_some hs (fun w => nomatch w)⟩
            · exact .inr (.inr z)
          have oaK : ∀ a, OA σ (restE e2 e1 own) a → OA (wipe σ own) e2 a := fun a ⟨j, zs, z1, z2⟩ => by
            rcases out j _ z1 with ⟨d, z, _⟩ | z | ⟨z3, z4⟩
            · cases z
            · cases z
            · exact ⟨j, zs, z4, by rw [wipe_get own σ j z3]; exact z2⟩
          have rel : Rel H2 G2 σ (restE e2 e1 own) := by
            refine ⟨r2.sub, ?_, fun j d h => ?_, fun j zs h => ?_, fun j k zs us hj hk hjk => ?_⟩
            · rw [restE_len, ← r2.len, wipe_len]
            · rcases out j _ h with ⟨d', z, _, z4⟩ | z | ⟨z3, z4⟩
              · cases z
                obtain ⟨v, k1, k2⟩ := r1.va j d z4
                exact ⟨v, k1, k2.mono s2⟩
              · cases z
              · obtain ⟨v, k1, k2⟩ := r2.va j d z4
                exact ⟨v, by rw [← wipe_get own σ j z3]; exact k1, k2⟩
            · rcases out j _ h with ⟨d', z, _⟩ | z | ⟨z3, z4⟩
              · cases z
              · cases z
              · obtain ⟨a, us, k1, k2, k3, k4⟩ := r2.ow j zs z4
                exact ⟨a, us, by rw [← wipe_get own σ j z3]; exact k1, k2, k3, k4⟩
            · rcases out j _ hj with ⟨d', z, _⟩ | z | ⟨z3, z4⟩
              · cases z
              · cases z
              · rcases out k _ hk with ⟨d', z, _⟩ | z | ⟨z5, z6⟩
                · cases z
                · cases z
                · exact r2.dis j k zs us z4 z6 (by rw [wipe_get own σ j z3, wipe_get own σ k z5]; exact hjk)
          have st := (s1.sp.trans (l2.sp.less oaK)).stp
          obtain ⟨vs, hD2, aD2⟩ := l2.ls
          exact q (.ref D0) H2 G2 rel st ⟨D0, vs, acc, rfl, rfl, s1.al _ hD, hD2, l2.gn, aD2, fun z => l2.no (oaK _ z)⟩
    · exact q.elim
theorem sr_lc2 (hc : X.calm = true) (hN : X.N.Nodup) (hi : PI X tg iter (tI T W cf it)) (ok : BlkOk X.N X.env.scope scope ownS) (hsub : ∀ j ∈ tnames t, j ∈ ownS.map (·.2)) (hsub1 : ∀ j ∈ tnames t1, j ∈ own1) (ho : ∀ j ∈ own1, j ∈ ownS.map (·.2))
    (hb : ∀ (s : Shared) (H : Hp) (C : Addr) (cl : List (Str × Addr)) (fp : List Addr), STg (X.blk s H scope (compEnvC scope cl C X.env) fp) tg t ∧ PI (X.blk s H scope (compEnvC scope cl C X.env) fp) tg1 iter1 (tI T (fun _ => E0) cf it1) ∧ STg (X.blk s H scope (compEnvC scope cl C X.env) fp) tg1 t1 ∧
      PTs (X.blk s H scope (compEnvC scope cl C X.env) fp) ifs1 (tC T (fun _ => E0) cf c) ∧ PE (X.blk s H scope (compEnvC scope cl C X.env) fp) elt (tV T (fun _ => E0) cf el)) (hs : ∀ x, foldedSetIterable iter X.env x = pure x) (hs1 : ∀ env x, foldedSetIterable iter1 env x = pure x) :
    PE X (.ListComp elt [⟨tg, iter, [], 0⟩, ⟨tg1, iter1, ifs1, 0⟩] scope pos) (tEv T W cf true (.lc2 el t it t1 it1 c (ownS.map (·.2)) own1)) :=
  wkE (pe_lc2 hc hN hi ok ho (fun s H C cl fp => sg_of (X := X.blk s H scope (compEnvC scope cl C X.env) fp) hc hN (hb s H C cl fp).1) (fun s H C cl fp => sc_nil) (fun s H C cl fp => (hb s H C cl fp).2.1) (fun s H C cl fp => sg_of (X := X.blk s H scope (compEnvC scope cl C X.env) fp) hc hN (hb s H C cl fp).2.2.1)
    (fun s H C cl fp => (hb s H C cl fp).2.2.2.1) (fun s H C cl fp => (hb s H C cl fp).2.2.2.2) hs hs1) fun σ H Q q => lc2_reads hsub hsub1 ho σ H Q q
/-- name = [.. for .. for ..] on one line -/
theorem as_lc2 {i : Nat} {y : Str} {py p : Pos} (hc : X.calm = true) (hN : X.N.Nodup) (hy : X.N[i]? = some y) (hyl : X.env.scope.names.lookup y = some .local) (hsw : swapsWith (.ListComp elt [⟨tg, iter, [], 0⟩, ⟨tg1, iter1, ifs1, 0⟩] scope p) (some (.Name y py)) pos.line X.env = pure true) (hi : PI X tg iter (tI T W cf it)) (ok : BlkOk X.N X.env.scope scope ownS)
    (hsub : ∀ j ∈ tnames t, j ∈ ownS.map (·.2)) (hsub1 : ∀ j ∈ tnames t1, j ∈ own1) (ho : ∀ j ∈ own1, j ∈ ownS.map (·.2))
    (hb : ∀ (s : Shared) (H : Hp) (C : Addr) (cl : List (Str × Addr)) (fp : List Addr), STg (X.blk s H scope (compEnvC scope cl C X.env) fp) tg t ∧ PI (X.blk s H scope (compEnvC scope cl C X.env) fp) tg1 iter1 (tI T (fun _ => E0) cf it1) ∧ STg (X.blk s H scope (compEnvC scope cl C X.env) fp) tg1 t1 ∧
      PTs (X.blk s H scope (compEnvC scope cl C X.env) fp) ifs1 (tC T (fun _ => E0) cf c) ∧ PE (X.blk s H scope (compEnvC scope cl C X.env) fp) elt (tV T (fun _ => E0) cf el)) (hs : ∀ x, foldedSetIterable iter X.env x = pure x) (hs1 : ∀ env x, foldedSetIterable iter1 env x = pure x) :
    PS X (.Assign [.Name y py] (.ListComp elt [⟨tg, iter, [], 0⟩, ⟨tg1, iter1, ifs1, 0⟩] scope p) pos) (tAsg (tEv T W cf true (.lc2 el t it t1 it1 c (ownS.map (·.2)) own1)) (gName i)) :=
  wkS (ps_setLc2 hc hN hy hyl hsw hi ok ho (fun s H C cl fp => sg_of (X := X.blk s H scope (compEnvC scope cl C X.env) fp) hc hN (hb s H C cl fp).1) (fun s H C cl fp => sc_nil) (fun s H C cl fp => (hb s H C cl fp).2.1) (fun s H C cl fp => sg_of (X := X.blk s H scope (compEnvC scope cl C X.env) fp) hc hN (hb s H C cl fp).2.2.1)
    (fun s H C cl fp => (hb s H C cl fp).2.2.2.1) (fun s H C cl fp => (hb s H C cl fp).2.2.2.2) hs hs1) fun D σ H q => lc2_reads hsub hsub1 ho σ H _ q
/-! ### x in range(..) -/
theorem op_nin_rng (neg : Bool) : OpR X (compareOp (if neg then .NotIn else .In)) (fun x y H Q => ∃ i a lo hi, x = V.int i ∧ y = V.ref a ∧ H a = some (.rng lo hi) ∧ Q (.bl (if neg then !decide (lo ≤ i ∧ i < hi) else decide (lo ≤ i ∧ i < hi))) H) := by
  cases neg with
  | false => exact op_in_rng
  | true =>
    intro pins s σ H x y v u Q I rx ry h
    obtain ⟨i, a, lo, hi, rfl, rfl, ha, q⟩ := h
    obtain ⟨k, rfl⟩ := rx
    obtain rfl : u = Value.ref a := ry
    obtain ⟨t1, t2, t3, ho⟩ := I.hok a _ ha
    show wpAny _ _ (do return Value.bool (!(← contains (Value.ref a) (Value.int i k)))) _ _ s
    refine wpAny_bind (wpAny_contains_slot (T := "range") ⟨_, ho, rfl⟩ F.slot_range_contains (call_meets F.slot_range_contains ⟨_, ho, rfl⟩ F.entry_range_contains (F.args_range_contains_2 _ _) (q_contains a lo hi i t1 t2 t3 k)
      ⟨ho, wpAny_truthy_bool (wpAny_pure ⟨.bl _, H, I, rfl, ?_⟩)⟩))
    rw [place1]
    exact q
theorem cr_range1 : CallR X (.type "range") (fun vs H Q => ∃ j, vs = [V.int j] ∧ ∀ p, H p = none → Q (.ref p) (upd H p (.rng 0 j))) := by
  intro pins s σ H vs us Q I r h
  obtain ⟨j, rfl, q⟩ := h
  obtain ⟨u1, rfl, rj⟩ := vals1 r
  obtain ⟨u, rfl⟩ := rj
  refine call_range_1 ⟨.ref s.heap.objs.size, upd H s.heap.objs.size (.rng 0 j), I.laid (t' := s.toks + 2) (fun b o e => Heap.get?_push_of_some _ e) (Nat.le_refl _) ?_, rfl, q _ (I.hok.fresh (Nat.le_refl _))⟩
  exact ⟨s.toks, u, s.toks + 1, Heap.get?_push_size _ rfl⟩
end
end Ev
end
section
namespace Ev
open PySem PySem.Spec L2
open PyProof.Rows hiding St
variable [KF]
/-! ### an error that was caught is tracked from then on -/
section
variable {X : Cx} {pins : List (Addr × Obj)} {σ : St} {H : Hp} {s : Shared}
theorem Inv.trk {a : Addr} {o : HO} (I : Inv X pins σ H s) (hn : H a = none) (n0 : X.s_0.heap.get? a = none) (new : ObjOk X.prog X.w (upd H a o) s.heap a o) (nL : a ≠ X.env.locals)
    (nC : ∀ x c, X.env.cells.lookup x = some c → c ≠ a) (nP : ∀ p ∈ X.pn ++ pins, p.1 ≠ a) : Inv X pins σ (upd H a o) s where
  ok := I.ok
  os := I.os
  bare := I.bare
  base := {
    keep := I.base.keep
    slot := I.base.slot
    free := fun b u e n hx => by
      have ne : b ≠ a := fun z => by
        subst z
        rw [n0] at e
        cases e
      rw [upd_ne ne]
      exact I.base.free b u e n hx
    there := I.base.there
    tups := fun b xs e => by
      have z := I.base.tups b xs e
      rw [upd_ne (ne_of_none z hn)]
      exact z
    frzs := fun b ob u e => by
      have z := I.base.frzs b ob u e
      rw [upd_ne (ne_of_none z hn)]
      exact z
    tbls := fun b ps e => by
      obtain ⟨more, z⟩ := I.base.tbls b ps e
      exact ⟨more, by rw [upd_ne (ne_of_none z hn)]; exact z⟩ }
  loc := I.loc
  cell := I.cell
  free := by rw [upd_ne (Ne.symm nL)]; exact I.free
  freeC := fun x c e => by rw [upd_ne (nC x c e)]; exact I.freeC x c e
  pin := fun p hp => by
    obtain ⟨h1, h2, h3⟩ := I.pin p hp
    exact ⟨h1, by rw [upd_ne (nP p hp)]; exact h2, h3⟩
  hok := HOk.laidN I.hok (fun _ _ q => q) hn new
  len := I.len
theorem exv_ok {P : Program} {w : World} {H : Hp} {h : Heap} {a : Addr} {cls : Value} {d : Option Addr} {oe : Obj} {us : Array Value} (e : h.get? a = some oe) (z : Zc cls d oe) (q : oe.data = .fields us) : ObjOk P w H h a (exv a cls d) :=
  ⟨⟨oe, us, e, z, q⟩, ⟨oe, e⟩, fun _ _ ⟨o, u, h1, h2⟩ k => ⟨o, u, k _ h1, h2⟩⟩
theorem exv_at {P : Program} {w : World} {a : Addr} {cls : Value} {d : Option Addr} {h : Heap} (x : HOk P w H h) (e : H a = some (exv a cls d)) : ∃ (o : Obj) (us : Array Value), h.get? a = some o ∧ Zc cls d o ∧ o.data = .fields us := by
  have z : ObjOk P w H h a (.ext fun h => ∃ (o : Obj) (us : Array Value), h.get? a = some o ∧ Zc cls d o ∧ o.data = .fields us) := x a _ e
  exact z.1
end
/-- what the clause wishes of an error of the body; the error is tracked in the suite and behind it -/
def wTrk (K : PySem.W.Frag) (c : Value) (i : Nat) (ts : TS) (Wo : WX) (D : Ends) : WX := fun cls d σ H => ∃ b, PySem.W.exmOne K cls c = some b ∧
  (b = true → ∀ a, H a = none → ts { nx := fun σ' H' => D.nx (σ'.set i none) H', rt := D.rt, bk := fun σ' H' => D.bk (σ'.set i none) H', ct := fun σ' H' => D.ct (σ'.set i none) H' } (σ.set i (some (.ref a))) (upd H a (exv a cls d))) ∧
  (b = false → Wo cls d σ H)
/-- the context of a suite whose error is tracked -/
abbrev hotX (X : Cx) (a : Addr) : Cx := { X with A := X.A.mark (some (.ref a)), calm := false, xe := fun _ _ => False }
section
variable {X : Cx} {pins : List (Addr × Obj)} {σ : St} {H : Hp} {s : Shared} {a : Addr}
theorem Inv.hot (I : Inv X pins σ H s) : Inv (hotX X a) pins σ H s :=
  ⟨⟨I.ok.mod, I.ok.kind, I.ok.glob, I.ok.blt, I.ok.above, I.ok.inj, I.ok.has, I.ok.cab, fun z => Bool.noConfusion (z : false = true), I.ok.frames, I.ok.stk, I.ok.exf, I.ok.bs, I.ok.bsz, I.ok.noex, I.ok.exfs, I.ok.funs, I.ok.frf⟩,
    I.os, I.bare, I.base, I.loc, I.cell, I.free, I.freeC, I.pin, I.hok, I.len⟩
theorem Inv.cool (ok : X.Ok) (I : Inv (hotX X a) pins σ H s) : Inv X pins σ H s := ⟨ok, I.os, I.bare, I.base, I.loc, I.cell, I.free, I.freeC, I.pin, I.hok, I.len⟩
end
section
variable {X : Cx} {xn n : Str} {c : Value} {i : Nat} {body rest : List Stmt} {st0 : Stmt} {np pos hp : Pos} {tb : WX → TS} {ts : TS} {Wo : WX}
theorem ps_try_trk (hst : X.stack = X.env :: X.outer) (hfm : X.env.frame = some X.env.locals) (hxx : X.ex = []) (nd : X.N.Nodup) (hi : X.N[i]? = some n) (hl : X.env.kindOf n = some .local) (nm : Names X xn c) (tk : Takes X Wo)
    (hb : ∀ (W : WX) (pn : List (Addr × Obj)) (xe : Value → Shared → Prop), Takes (X.tr pn xe) W → PassesOwn (model X.prog X.w) X.A X.env xe → PSs (X.tr pn xe) body (tb W)) (hh : ∀ a, PSs (hotX X a) (st0 :: rest) ts) :
    PS X (.Try body [.ExceptHandler (some (.Name xn np)) (some n) (st0 :: rest) hp] [] [] pos) (fun D σ H => tb (wTrk X.K c i ts Wo D) D σ H) := by
  refine ⟨fun pins s σ H D I h => ?_⟩
  have ok := I.ok
  have fr0 : X.A.frames = some (X.env :: X.outer) := by rw [ok.frames, hst]
  refine wpAny_Try_except (wpAny_mono ((hb (wTrk X.K c i ts Wo D) (X.pn ++ pins) (fun e t1 => wpAny (model X.prog X.w) X.A (noteFrame e X.env) (fun _ t2 => wpAny (model X.prog X.w) X.A (setFlight e none) (fun _ t3 =>
    wpAny (model X.prog X.w) X.A (handleBy e X.env [.ExceptHandler (some (.Name xn np)) (some n) (st0 :: rest) hp]) (SP X pins D) X.xe t3) X.xe t2) X.xe t1) (fun u s' xx => ?_) PassesOwn.looking).run [] s σ H D (I.toTry _) h) (fun f t hsp => ?_) fun _ _ z => z)
  · obtain ⟨a, B, sI, pins', σ1, H1, cls, d, rfl, I1, nb, up, sky, na, os1, ag, b, hm, yes, no⟩ := xx
    have J := I1.ofTry ok
    have sky1 : Sky B (X.env :: X.outer) a (Zc cls d) X.env.locals s'.heap := hst ▸ sky
    show wpAny (model X.prog X.w) X.A (noteFrame (.ref a) X.env) _ _ _
    refine Sky.land Zc.steady fr0 hfm sky1 fun h3 fl up3 => ?_
    have J3 : Inv X pins σ1 H1 { s' with heap := h3 } := J.landed nb fl.1 (up.trans up3) os1 ag
    obtain ⟨o3, us3, g3, z3, d3⟩ := fl.there
    have nf : a ∉ frs (X.env :: X.outer) := fun q => by
      obtain ⟨_, o, e, w⟩ := fl.2.2.1.mem q
      rw [g3] at e
      cases e
      exact w _ d3
    have nL : a ≠ X.env.locals := fun z => nf (List.mem_filterMap.mpr ⟨X.env, List.mem_cons_self, by rw [hfm, z]⟩)
    -- a is new
    have aI : sI.heap.get? a = none := by
      cases e : sI.heap.get? a with
      | none => rfl
      | some o =>
        have z := nb a o e (by show a ∉ frs X.stack; rw [hst]; exact nf)
        rw [fl.2.1] at z
        cases z
    have a0 : X.s_0.heap.get? a = none := by
      cases e : X.s_0.heap.get? a with
      | none => rfl
      | some o =>
        obtain ⟨o', e'⟩ := J.base.there a o e (by rw [hxx]; exact fun z => nomatch z)
        rw [aI] at e'
        cases e'
    have aC : ∀ x c, X.env.cells.lookup x = some c → c ≠ a := fun x c e z => by
      obtain ⟨v, o, ho, _⟩ := J.cell x c e
      rw [z, aI] at ho
      cases ho
    have aP : ∀ p ∈ X.pn ++ pins, p.1 ≠ a := fun p hp z => by
      have := (J.pin p hp).1
      rw [z, aI] at this
      cases this
    refine wpAny_handleBy_cons (codeAny_handlers_test ?_) (by intro q; cases q)
    have LT : PySem.W.Looks (model X.prog X.w) h3 (typeOf (.ref a)) cls := fun _ _ _ _ k q => wpAny_typeOf_ref (k _ _ g3) (by rw [z3.1]; exact q)
    have LM := PySem.W.exm_one (M := model X.prog X.w) J3.kIn LT hm
    have S3 : Inv (hotX X a) pins σ1 H1 { s' with heap := h3 } := Inv.hot J3
    have look : ∀ {Q : Value → Shared → Prop} {E : Value → Shared → Prop}, Q c { s' with heap := h3 } → wpAny (model X.prog X.w) (X.A.mark (some (.ref a))) (eval (.Name xn np) X.env) Q E { s' with heap := h3 } := fun {Q E} q => by
      obtain ⟨gl, db, w | ⟨w, bt, nn⟩⟩ := nm
      · exact ld_glob (X := hotX X a) S3 gl w q db
      · exact ld_blt (X := hotX X a) S3 gl w bt q nn db
    refine look (LM.here ?_)
    cases b with
    | true =>
      refine codeAny_handlers_suite_as (HandSPX.lands_againZ fl fun h4 fl4 up4 => ?_)
      have J4 : Inv X pins σ1 H1 { s' with heap := h4 } := J.landed nb fl4.1 ((up.trans up3).trans up4) os1 ag
      obtain ⟨o4, us4, g4, z4, d4⟩ := fl4.there
      have T4 : Inv (hotX X a) pins σ1 (upd H1 a (exv a cls d)) { s' with heap := h4 } := Inv.hot (Inv.trk J4 na a0 (exv_ok g4 z4 d4) nL aC aP)
      refine store_ok (X := hotX X a) (v := .ref a) T4 nd hi (.inl hl) rfl (fun s5 S5 => ?_) (.inr hl)
      refine wpAny_mono ((hh a).run pins s5 _ _ _ S5 (yes rfl a na)) (fun f s6 hsp => ?_) (fun _ _ z => False.elim z)
      have fin_ : ∀ {σ6 : St} {H6 : Hp} {Q : Shared → Prop}, Inv (hotX X a) pins σ6 H6 s6 → (∀ s7, Inv X pins (σ6.set i none) H6 s7 → Q s7) → wpAny (model X.prog X.w) X.A (do bindName X.env n .none; unbindBehindTheSuite X.env n hp) (fun _ s7 => Q s7) X.xe s6 :=
        fun S6 hq => gone_ok (Inv.cool ok S6) nd hi hl hq
      cases f with
      | next => obtain ⟨σ6, H6, S6, q6⟩ := hsp; exact fin_ S6 fun s7 J7 => ⟨_, _, J7, q6⟩
      | brk => obtain ⟨σ6, H6, S6, q6⟩ := hsp; exact fin_ S6 fun s7 J7 => ⟨_, _, J7, q6⟩
      | cont => obtain ⟨σ6, H6, S6, q6⟩ := hsp; exact fin_ S6 fun s7 J7 => ⟨_, _, J7, q6⟩
      | ret u => obtain ⟨v6, σ6, H6, S6, r6, q6⟩ := hsp; exact fin_ S6 fun s7 J7 => ⟨_, _, _, J7, r6, q6⟩
    | false =>
      show wpAny _ X.A (handleBy (.ref a) X.env []) _ _ _
      refine wpAny_handleBy_nil ?_
      obtain ⟨k1, k2, k3, oe, vs, T, oT, ts', he, hz, hd, h1, hr⟩ := id fl
      have up' := fun {Q : Unit → Shared → Prop} (w : ∀ h4, HandSPX.HeldZ B (X.env :: X.outer) a (Zc cls d) X.env.locals h4 → h3.UpToSlots h4 → Q () { s' with heap := h4 }) => HandSPX.setFlight_upZ (M := model X.prog X.w) (A := X.A) (E := X.xe) (s := { s' with heap := h3 }) fl w
      unfold PySem.passOn
      refine wpAny_bind (wpAny_field he hd h1 ?_)
      rw [if_neg (fun z => by simp at z)]
      have go : wpAny (model X.prog X.w) X.A (setFlight (.ref a) X.env.frame) (fun _ s4 => wpAny (model X.prog X.w) X.A (throw (.ref a) : Sem Flow) (SP X pins D) X.xe s4) X.xe { s' with heap := h3 } := by
        rw [hfm]
        exact up' fun h4 hh4 up4 => wpAny_throw (tk _ _ ⟨a, B, sI, pins, σ1, H1, cls, d, rfl, J, nb, (up.trans up3).trans up4, .inr (.inr (hst ▸ hh4)), na, os1, ag, no rfl⟩)
      first | exact wpAny_bind (wpAny_pure (wpAny_bind go)) | exact wpAny_bind go
  · cases f with
    | next => obtain ⟨σ2, H2, J2, q⟩ := hsp; exact wpAny_execs_nil ⟨σ2, H2, J2.ofTry ok, q⟩
    | brk => obtain ⟨σ2, H2, J2, q⟩ := hsp; exact ⟨σ2, H2, J2.ofTry ok, q⟩
    | cont => obtain ⟨σ2, H2, J2, q⟩ := hsp; exact ⟨σ2, H2, J2.ofTry ok, q⟩
    | ret u => obtain ⟨v2, σ2, H2, J2, r, q⟩ := hsp; exact ⟨v2, σ2, H2, J2.ofTry ok, r, q⟩
end
end Ev
end
section
namespace Ev
open PySem PySem.Spec L2
open PyProof.Rows hiding St
variable [KF]
/-! ### try .. except C as n -/
section
variable {X : Cx} {T : XT} {W : St → XK} {cf : CF} {fr : Bool} {B : Bs} {pos : Pos}
theorem Put.drop {H G : Hp} {σ : St} {e : Env} (r : Rel H G σ e) (i : Nat) : Put H G σ e [i] (e.set i .em) (σ.set i none) := by
  obtain ⟨r2, o2⟩ := r.wiped [i]
  exact ⟨r2, fun j hj => List.getElem?_set_ne fun z => hj (by rw [z]; exact List.mem_singleton.mpr rfl), List.length_set .., o2⟩
theorem not_one {B : Bs} {i : Nat} (hz : B.io = true → 0 ≠ i) : B.io = true → 0 ∉ [i] := fun h q => hz h (List.mem_singleton.mp q)
theorem RnS.unsuite {Wh : St → XK} {i : Nat} {G : Hp} {r : RS} {D : Ends} (hz : B.io = true → 0 ≠ i) (h : RnS T W fr B G (unS i r) D) :
    RnS T Wh fr B G r { nx := fun σ' H' => D.nx (σ'.set i none) H', rt := D.rt, bk := fun σ' H' => D.bk (σ'.set i none) H', ct := fun σ' H' => D.ct (σ'.set i none) H' } := by
  cases r with
  | nx e =>
    intro σ H G1 r1 s1
    exact h _ H G1 (r1.put (Put.drop r1.rel i) (not_one hz)) s1
  | rt d e =>
    intro v σ H G1 r1 s1 q
    have p := Put.drop r1.rel i
    refine h v _ H G1 (r1.put p (not_one hz)) s1 ?_
    cases fr with
    | false => exact q
    | true =>
      obtain ⟨a, vs, ds, e1, e2, e3, e4, e5, e6, e7⟩ := q
      exact ⟨a, vs, ds, e1, e2, e3, e4, e5, e6, fun z => e7 (p.oa _ z)⟩
  | _ => exact h.elim
theorem sx_try {xn n : Str} {cv : Value} {i c0 : Nat} {ns : List Str} {body rest : List Stmt} {st0 : Stmt} {np hp : Pos} {b hs : S} {Wh : St → XK} (hst : X.stack = X.env :: X.outer) (hfm : X.env.frame = some X.env.locals) (hxx : X.ex = []) (nd : X.N.Nodup)
    (hi : X.N[i]? = some n) (hl : X.env.kindOf n = some .local) (nm : Names X xn cv) (tk : Takes X (fun cls d σ H => W σ cls d H)) (hT : T = KF.T) (hc : c0 < KF.nc) (hns : T.flds c0 = ns) (hm : ∀ k, k < KF.nc → PySem.W.exmOne X.K (T.cls k) cv = some (decide (k = c0)))
    (hz : B.io = true → 0 ≠ i) (hb : ∀ (Wb : WX) (pn : List (Addr × Obj)) (xe : Value → Shared → Prop), Takes (X.tr pn xe) Wb → PassesOwn (model X.prog X.w) X.A X.env xe → PSs (X.tr pn xe) body (tX T (fun σ cls d H => Wb cls d σ H) cf fr B b))
    (hh : ∀ a, PSs (hotX X a) (st0 :: rest) (tX T Wh cf fr B hs)) : PS X (.Try body [.ExceptHandler (some (.Name xn np)) (some n) (st0 :: rest) hp] [] [] pos) (tX T W cf fr B (.try_ b c0 ns i hs)) := by
  refine wkS (ps_try_trk (tb := fun Wb => tX T (fun σ cls d H => Wb cls d σ H) cf fr B b) hst hfm hxx nd hi hl nm tk hb hh) fun D σ H ⟨G, e, r, q⟩ => ⟨G, e, r, ?_⟩
  have q : RnS T W fr B G (match ex cf b e with
    | .exn k fs e' => if k = c0 then unS i (ex cf hs (e'.set i (.va (.err c0 ns fs)))) else .exn k fs e'
    | r => r) D := q
  cases hx : ex cf b e with
  | nx e' => rw [hx] at q; exact q
  | rt d e' => rw [hx] at q; exact q
  | bk e' => rw [hx] at q; exact q
  | ct e' => rw [hx] at q; exact q
  | no => rw [hx] at q; exact q
  | exn k fs e' =>
    rw [hx] at q
    intro d σ1 H1 G1 r1 s1 xa
    have q : RnS T W fr B G (if k = c0 then unS i (ex cf hs (e'.set i (.va (.err c0 ns fs)))) else .exn k fs e') D := q
    refine ⟨decide (k = c0), hm k xa.1, fun hk a na => ?_, fun hk => ?_⟩
    · have ek : k = c0 := of_decide_eq_true hk
      subst ek
      rw [if_pos rfl] at q
      obtain ⟨r2, s2⟩ := r1.rel.lay (o := exv a (T.cls k) d) na
      obtain ⟨k1, k2, vs, k3, k4⟩ := xa
      have rv : Rep (L2.upd G1 a (exv a (T.cls k) d)) (.ref a) (.err k ns fs) := by
        rw [← hns]
        subst hT
        exact .err upd_same k1 k2 (k4.mono s2.gs) (k3.mono s2.gs)
      have r3 := r1.step r2 s2
      obtain ⟨r4, o4⟩ := r3.rel.putV (i := i) rv
      refine ⟨_, _, r3.put (is := [i]) ⟨r4, fun j hj => List.getElem?_set_ne fun z => hj (by rw [z]; exact List.mem_singleton.mpr rfl), List.length_set .., o4⟩ (not_one hz), ?_⟩
      exact RnS.unsuite hz (RnS.mono (s1.trans s2.gs) q)
    · rw [if_neg (of_decide_eq_false hk)] at q
      exact q d σ1 H1 G1 r1 s1 xa
end
/-! ### an error's attributes, its class -/
structure ClA (K : PySem.W.Frag) (c : Nat) (C : Addr) : Prop where
  cls : KF.T.cls c = .ref C
  xf : XfC K C
  ce : ExcC K C
  no : ∀ f ∈ KF.T.flds c, PySem.W.findIn K (.ref C) f = some none
theorem clsIn_of {K : PySem.W.Frag} {C : Addr} (h : PySem.W.hasDictIn K C = true) : (PySem.W.clsIn K C).isSome = true := by
  obtain ⟨cd, hc, _⟩ := PySem.W.any_some h
  rw [hc]
  rfl
section
variable {X : Cx} {T : XT} {W : St → XK} {cf : CF} {x : Expr} {a : E} {pos : Pos}
theorem lookup_mem : ∀ {ns : List Str} {vs : List V} {f : Str} {v : V}, (ns.zip vs).lookup f = some v → f ∈ ns
  | [], _, _, _, h => by cases h
  | n :: ns, [], _, _, h => by cases h
  | n :: ns, v :: vs, f, w, h => by
    rw [List.zip_cons_cons, lookup_put] at h
    by_cases e : f = n
    · rw [e]; exact List.mem_cons_self
    · rw [if_neg e] at h
      exact List.mem_cons_of_mem _ (lookup_mem h)
theorem lookup_rep {G : Hp} : ∀ {ns : List Str} {vs : List V} {fs : List D} {f : Str} {y : D}, RepA G vs fs → (ns.zip fs).lookup f = some y → ∃ v, (ns.zip vs).lookup f = some v ∧ Rep G v y
  | [], _, _, _, _, _, h => by cases h
  | n :: ns, _, _, f, y, .nil, h => by cases h
  | n :: ns, v :: vs, d :: ds, f, y, .cons r ra, h => by
    rw [List.zip_cons_cons] at h ⊢
    rw [lookup_put]
    have h : (match f == n with | true => some d | false => (ns.zip ds).lookup f) = some y := h
    by_cases e : f = n
    · subst e
      rw [if_pos rfl]
      rw [beq_self_eq_true] at h
      cases h
      exact ⟨v, rfl, r⟩
    · rw [if_neg e]
      have e2 : (f == n) = false := by simpa using e
      rw [e2] at h
      exact lookup_rep ra h
/-- e.f of an error that is tracked -/
theorem sv_fld {f : Str} (hA : ∀ c, c < KF.nc → ∃ C, ClA X.K c C) (hb : attributeBase x f X.env (eval x X.env) = eval x X.env) (ha : PE X x (tV T W cf a)) : PE X (.Attribute x f pos) (tV T W cf (.fld a f)) := by
  refine ⟨fun pins s σ H Q I ⟨G, e, r, q⟩ => attr_of hb (thn (ha.run pins s σ H (fun v H1 => ∃ G1 e1 d, Rel H1 G1 σ e1 ∧ Rep G1 v d ∧ RnG Rep T W σ e1 G1 H1 (match d with
    | .err _ ns fs => lift ((ns.zip fs).lookup f) e1
    | _ => .no) Q) I ⟨G, e, r, RnG.bind q fun d e1 v H1 G1 _ r1 s1 q1 h1 => ⟨G1, e1, d, r1, q1, h1⟩⟩) ?_)⟩
  rintro u s1 ⟨v, H1, I1, rv, G1, e1, d, r1, q1, h1⟩
  cases q1 with
  | @err a0 c d0 vs fs g1 g2 g3 g4 g5 =>
    obtain rfl : u = Value.ref a0 := rv
    obtain ⟨C, A⟩ := hA c g2
    obtain ⟨y, hy, h2⟩ := RnG.lift h1
    obtain ⟨w, hw, rw'⟩ := lookup_rep g5 hy
    rcases g4 with ⟨g4, _⟩ | ⟨dd, fl, rfl, g4, g6⟩
    · subst g4
      cases g5
      rw [List.zip_nil_right] at hy
      cases hy
    rw [A.cls] at g1
    obtain ⟨oe, us, h3, h4, h5⟩ := exv_at I1.hok (r1.sub _ _ g1)
    obtain ⟨mA, hns, hr⟩ := (show ObjOk X.prog X.w H1 s1.heap dd (.xd fl) from I1.hok dd _ (r1.sub _ _ g4))
    obtain ⟨od, ho, hl⟩ := lookIn_ns hns
    obtain ⟨uw, hu, ru⟩ := RelO.some_of (v := w) (o := mA f) (by rw [← hw, ← g6]; exact hr f)
    have J : PySem.W.InstAt s1.heap a0 oe C (some od) := ⟨h3, h4.1, by unfold PySem.W.notCls; rw [h5] <;> rfl, by rw [h4.2]; exact ho⟩
    exact HandSPX.exc_get I1.kIn J A.xf.ga A.xf.gg A.xf.exC (PySem.W.findObj_own A.xf.hdC (A.no f (lookup_mem hw)) rfl (by rw [hl, hu])) (handed_of ru) ⟨w, H1, I1.tok _, ru, h2.here r1 rw'⟩
  | _ => exact h1.elim
/-- isinstance(e, C), e an error -/
theorem call_isx {cv : Value} {yes : List Nat} (hA : ∀ c, c < KF.nc → ∃ C, ClA X.K c C) (hy : ∀ c, c < KF.nc → PySem.W.kitOne X.K (KF.T.cls c) cv = some (yes.contains c)) :
    CallR X (.builtin "isinstance") (fun vs H Q => ∃ (v cvv : V) (G : Hp) (c : Nat) (ns : List Str) (fs : List D), vs = [v, cvv] ∧ (∀ u, RelV cvv u → u = cv) ∧ Same G H ∧ Rep G v (.err c ns fs) ∧ Q (.bl (yes.contains c)) H) := by
  intro pins s σ H vs us Q I r h
  obtain ⟨v, cvv, G, c, ns, fs, rfl, hc, sm, hr, q⟩ := h
  obtain ⟨u1, u2, rfl, r1, r2⟩ := vals2 r
  have e2 := hc _ r2
  subst e2
  cases hr with
  | @err a0 c d0 vs fs g1 g2 g3 g4 g5 =>
    obtain rfl : u1 = Value.ref a0 := r1
    obtain ⟨C, A⟩ := hA c g2
    rw [A.cls] at g1
    obtain ⟨oe, us, h3, h4, h5⟩ := exv_at I.hok (sm _ _ g1)
    have fin : ∀ od, (match d0 with | none => od = none | some b => ∃ o, od = some o ∧ s.heap.get? b = some o) → wpAny (model X.prog X.w) X.A (call (.builtin "isinstance") [.ref a0, u2]) (EP X pins σ Q) X.xe s := fun od hod => by
      have J : PySem.W.InstAt s.heap a0 oe C od := by
        refine ⟨h3, h4.1, by unfold PySem.W.notCls; rw [h5] <;> rfl, ?_⟩
        rw [h4.2]
        cases d0 with
        | none => rw [hod]; trivial
        | some b =>
          obtain ⟨o, e1, e2⟩ := hod
          rw [e1]
          exact e2
      have kk := hy c g2
      rw [A.cls] at kk
      exact PySem.W.kia_one (PySem.W.kitx_exc (clsIn_of A.ce.hd) A.ce.hg A.ce.hk A.ce.hs A.ce.ha A.ce.hn A.ce.ht A.ce.hm) I.kIn J kk (fun z => nomatch z) fun tk => ⟨.bl _, H, I.kept (t' := tk) fun _ _ z => z, rfl, q⟩
    rcases g4 with ⟨_, rfl⟩ | ⟨dd, fl, rfl, g4, g6⟩
    · exact fin none rfl
    · obtain ⟨mA, ⟨o, es, ep, e1, _⟩, _⟩ := (show ObjOk X.prog X.w H s.heap dd (.xd fl) from I.hok dd _ (sm _ _ g4))
      exact fin (some o) ⟨o, rfl, e1⟩
end
end Ev
end
section
namespace Ev
open PySem PySem.Spec L2
open PyProof.Rows hiding St
variable [KF]
/-! ### several except clauses -/
structure Hd where
  xn : Str
  np : Pos
  n : Str
  st0 : Stmt
  rest : List Stmt
  hp : Pos
  c : Value
  i : Nat
  ts : TS
def Hd.x (h : Hd) : ExceptHandler := .ExceptHandler (some (.Name h.xn h.np)) (some h.n) (h.st0 :: h.rest) h.hp
def wTrks (K : PySem.W.Frag) (Wo : WX) (D : Ends) : List Hd → WX
  | [], cls, d, σ, H => Wo cls d σ H
  | h :: r, cls, d, σ, H => ∃ b, PySem.W.exmOne K cls h.c = some b ∧
    (b = true → ∀ a, H a = none → h.ts { nx := fun σ' H' => D.nx (σ'.set h.i none) H', rt := D.rt, bk := fun σ' H' => D.bk (σ'.set h.i none) H', ct := fun σ' H' => D.ct (σ'.set h.i none) H' } (σ.set h.i (some (.ref a))) (upd H a (exv a cls d))) ∧
    (b = false → wTrks K Wo D r cls d σ H)
structure HdOk (X : Cx) (h : Hd) : Prop where
  hi : X.N[h.i]? = some h.n
  hl : X.env.kindOf h.n = some .local
  nm : Names X h.xn h.c
  hh : ∀ a, PSs (hotX X a) (h.st0 :: h.rest) h.ts
section
variable {X : Cx} {body : List Stmt} {pos : Pos} {tb : WX → TS} {Wo : WX}
theorem ps_try_trks {hs : List Hd} (hst : X.stack = X.env :: X.outer) (hfm : X.env.frame = some X.env.locals) (hxx : X.ex = []) (nd : X.N.Nodup) (hok : ∀ h ∈ hs, HdOk X h) (hne : hs ≠ []) (tk : Takes X Wo)
    (hb : ∀ (W : WX) (pn : List (Addr × Obj)) (xe : Value → Shared → Prop), Takes (X.tr pn xe) W → PassesOwn (model X.prog X.w) X.A X.env xe → PSs (X.tr pn xe) body (tb W)) :
    PS X (.Try body (hs.map Hd.x) [] [] pos) (fun D σ H => tb (wTrks X.K Wo D hs) D σ H) := by
  refine ⟨fun pins s σ H D I h => ?_⟩
  have ok := I.ok
  have fr0 : X.A.frames = some (X.env :: X.outer) := by rw [ok.frames, hst]
  have first : hs.map Hd.x ≠ [] := fun z => hne (List.map_eq_nil_iff.mp z)
  obtain ⟨h0, hs', e0⟩ : ∃ h0 hs', hs.map Hd.x = h0 :: hs' := by
    cases hq : hs.map Hd.x with
    | nil => exact (first hq).elim
    | cons h0 hs' => exact ⟨h0, hs', rfl⟩
  rw [e0]
  refine wpAny_Try_except (wpAny_mono ((hb (wTrks X.K Wo D hs) (X.pn ++ pins) (fun e t1 => wpAny (model X.prog X.w) X.A (noteFrame e X.env) (fun _ t2 => wpAny (model X.prog X.w) X.A (setFlight e none) (fun _ t3 =>
    wpAny (model X.prog X.w) X.A (handleBy e X.env (h0 :: hs')) (SP X pins D) X.xe t3) X.xe t2) X.xe t1) (fun u s' xx => ?_) PassesOwn.looking).run [] s σ H D (I.toTry _) h) (fun f t hsp => ?_) fun _ _ z => z)
  · obtain ⟨a, B, sI, pins', σ1, H1, cls, d, rfl, I1, nb, up, sky, na, os1, ag, wish⟩ := xx
    have J := I1.ofTry ok
    have sky1 : Sky B (X.env :: X.outer) a (Zc cls d) X.env.locals s'.heap := hst ▸ sky
    show wpAny (model X.prog X.w) X.A (noteFrame (.ref a) X.env) _ _ _
    refine Sky.land Zc.steady fr0 hfm sky1 fun h3 fl up3 => ?_
    have J3 : Inv X pins σ1 H1 { s' with heap := h3 } := J.landed nb fl.1 (up.trans up3) os1 ag
    obtain ⟨o3, us3, g3, z3, d3⟩ := fl.there
    have nf : a ∉ frs (X.env :: X.outer) := fun q => by
      obtain ⟨_, o, e, w⟩ := fl.2.2.1.mem q
      rw [g3] at e
      cases e
      exact w _ d3
    have nL : a ≠ X.env.locals := fun z => nf (List.mem_filterMap.mpr ⟨X.env, List.mem_cons_self, by rw [hfm, z]⟩)
    -- a is new
    have aI : sI.heap.get? a = none := by
      cases e : sI.heap.get? a with
      | none => rfl
      | some o =>
        have z := nb a o e (by show a ∉ frs X.stack; rw [hst]; exact nf)
        rw [fl.2.1] at z
        cases z
    have a0 : X.s_0.heap.get? a = none := by
      cases e : X.s_0.heap.get? a with
      | none => rfl
      | some o =>
        obtain ⟨o', e'⟩ := J.base.there a o e (by rw [hxx]; exact fun z => nomatch z)
        rw [aI] at e'
        cases e'
    have aC : ∀ x c, X.env.cells.lookup x = some c → c ≠ a := fun x c e z => by
      obtain ⟨v, o, ho, _⟩ := J.cell x c e
      rw [z, aI] at ho
      cases ho
    have aP : ∀ p ∈ X.pn ++ pins, p.1 ≠ a := fun p hp z => by
      have := (J.pin p hp).1
      rw [z, aI] at this
      cases this
    have key : ∀ hs : List Hd, (∀ h ∈ hs, HdOk X h) → wTrks X.K Wo D hs cls d σ1 H1 → wpAny (model X.prog X.w) X.A (handleBy (.ref a) X.env (hs.map Hd.x)) (SP X pins D) X.xe { s' with heap := h3 } := by
      intro hs
      induction hs with
      | nil =>
        intro _ no
        show wpAny _ X.A (handleBy (.ref a) X.env []) _ _ _
        refine wpAny_handleBy_nil ?_
        obtain ⟨k1, k2, k3, oe, vs, T, oT, ts', he, hz, hd, h1, hr⟩ := id fl
        have up' := fun {Q : Unit → Shared → Prop} (w : ∀ h4, HandSPX.HeldZ B (X.env :: X.outer) a (Zc cls d) X.env.locals h4 → h3.UpToSlots h4 → Q () { s' with heap := h4 }) => HandSPX.setFlight_upZ (M := model X.prog X.w) (A := X.A) (E := X.xe) (s := { s' with heap := h3 }) fl w
        unfold PySem.passOn
        refine wpAny_bind (wpAny_field he hd h1 ?_)
        rw [if_neg (fun z => by simp at z)]
        have go : wpAny (model X.prog X.w) X.A (setFlight (.ref a) X.env.frame) (fun _ s4 => wpAny (model X.prog X.w) X.A (throw (.ref a) : Sem Flow) (SP X pins D) X.xe s4) X.xe { s' with heap := h3 } := by
          rw [hfm]
          exact up' fun h4 hh4 up4 => wpAny_throw (tk _ _ ⟨a, B, sI, pins, σ1, H1, cls, d, rfl, J, nb, (up.trans up3).trans up4, .inr (.inr (hst ▸ hh4)), na, os1, ag, no⟩)
        first | exact wpAny_bind (wpAny_pure (wpAny_bind go)) | exact wpAny_bind go
      | cons h hs ih =>
        intro hok ⟨b, hm, yes, no⟩
        obtain ⟨hi, hl, nm, hh⟩ := hok h List.mem_cons_self
        show wpAny _ X.A (handleBy (.ref a) X.env (.ExceptHandler (some (.Name h.xn h.np)) (some h.n) (h.st0 :: h.rest) h.hp :: hs.map Hd.x)) _ _ _
        refine wpAny_handleBy_cons (codeAny_handlers_test ?_) (by intro q; cases q)
        have LT : PySem.W.Looks (model X.prog X.w) h3 (typeOf (.ref a)) cls := fun _ _ _ _ k q => wpAny_typeOf_ref (k _ _ g3) (by rw [z3.1]; exact q)
        have LM := PySem.W.exm_one (M := model X.prog X.w) J3.kIn LT hm
        have S3 : Inv (hotX X a) pins σ1 H1 { s' with heap := h3 } := Inv.hot J3
        have look : ∀ {Q : Value → Shared → Prop} {E : Value → Shared → Prop}, Q h.c { s' with heap := h3 } → wpAny (model X.prog X.w) (X.A.mark (some (.ref a))) (eval (.Name h.xn h.np) X.env) Q E { s' with heap := h3 } := fun {Q E} q => by
          obtain ⟨gl, db, w | ⟨w, bt, nn⟩⟩ := nm
          · exact ld_glob (X := hotX X a) S3 gl w q db
          · exact ld_blt (X := hotX X a) S3 gl w bt q nn db
        refine look (LM.here ?_)
        cases b with
        | true =>
          refine codeAny_handlers_suite_as (HandSPX.lands_againZ fl fun h4 fl4 up4 => ?_)
          have J4 : Inv X pins σ1 H1 { s' with heap := h4 } := J.landed nb fl4.1 ((up.trans up3).trans up4) os1 ag
          obtain ⟨o4, us4, g4, z4, d4⟩ := fl4.there
          have T4 : Inv (hotX X a) pins σ1 (upd H1 a (exv a cls d)) { s' with heap := h4 } := Inv.hot (Inv.trk J4 na a0 (exv_ok g4 z4 d4) nL aC aP)
          refine store_ok (X := hotX X a) (v := .ref a) T4 nd hi (.inl hl) rfl (fun s5 S5 => ?_) (.inr hl)
          refine wpAny_mono ((hh a).run pins s5 _ _ _ S5 (yes rfl a na)) (fun f s6 hsp => ?_) (fun _ _ z => False.elim z)
          have fin_ : ∀ {σ6 : St} {H6 : Hp} {Q : Shared → Prop}, Inv (hotX X a) pins σ6 H6 s6 → (∀ s7, Inv X pins (σ6.set h.i none) H6 s7 → Q s7) → wpAny (model X.prog X.w) X.A (do bindName X.env h.n .none; unbindBehindTheSuite X.env h.n h.hp) (fun _ s7 => Q s7) X.xe s6 :=
            fun S6 hq => gone_ok (Inv.cool ok S6) nd hi hl hq
          cases f with
          | next => obtain ⟨σ6, H6, S6, q6⟩ := hsp; exact fin_ S6 fun s7 J7 => ⟨_, _, J7, q6⟩
          | brk => obtain ⟨σ6, H6, S6, q6⟩ := hsp; exact fin_ S6 fun s7 J7 => ⟨_, _, J7, q6⟩
          | cont => obtain ⟨σ6, H6, S6, q6⟩ := hsp; exact fin_ S6 fun s7 J7 => ⟨_, _, J7, q6⟩
          | ret u => obtain ⟨v6, σ6, H6, S6, r6, q6⟩ := hsp; exact fin_ S6 fun s7 J7 => ⟨_, _, _, J7, r6, q6⟩
        | false => exact ih (fun h' hh' => hok h' (List.mem_cons_of_mem _ hh')) (no rfl)
    rw [← e0]
    exact key hs hok wish
  · cases f with
    | next => obtain ⟨σ2, H2, J2, q⟩ := hsp; exact wpAny_execs_nil ⟨σ2, H2, J2.ofTry ok, q⟩
    | brk => obtain ⟨σ2, H2, J2, q⟩ := hsp; exact ⟨σ2, H2, J2.ofTry ok, q⟩
    | cont => obtain ⟨σ2, H2, J2, q⟩ := hsp; exact ⟨σ2, H2, J2.ofTry ok, q⟩
    | ret u => obtain ⟨v2, σ2, H2, J2, r, q⟩ := hsp; exact ⟨v2, σ2, H2, J2.ofTry ok, r, q⟩
end
/-! ### the same over terms -/
section
variable {X : Cx} {T : XT} {W : St → XK} {cf : CF} {fr : Bool} {B : Bs} {pos : Pos}
/-- a clause and its term -/
inductive HdT (X : Cx) (T : XT) (cf : CF) (fr : Bool) (B : Bs) : List Hd → S → Prop where
  | nil : HdT X T cf fr B [] .nil
  | cons {h : Hd} {hs : List Hd} {c0 : Nat} {ns : List Str} {b r : S} {Wh : St → XK} : HdOk X h → h.ts = tX T Wh cf fr B b → c0 < KF.nc → T.flds c0 = ns → (∀ k, k < KF.nc → PySem.W.exmOne X.K (T.cls k) h.c = some (decide (k = c0))) → (B.io = true → 0 ≠ h.i) → HdT X T cf fr B hs r → HdT X T cf fr B (h :: hs) (.hnd c0 ns h.i b r)
theorem HdT.ok {hs : List Hd} {s : S} (h : HdT X T cf fr B hs s) : ∀ x ∈ hs, HdOk X x := by
  induction h with
  | nil => exact fun _ z => nomatch z
  | cons h1 _ _ _ _ _ _ ih =>
    intro x hx
    rcases List.mem_cons.mp hx with rfl | hx
    · exact h1
    · exact ih x hx
theorem hd_wish (hT : T = KF.T) {hs : List Hd} {s : S} (h : HdT X T cf fr B hs s) {k : Nat} {fs : List D} {e' : Env} {G H : Hp} {σ : St} {G0 : Hp} {d : Option Addr} {Dd : Ends} (q : RnS T W fr B G0 (exH cf s k fs e') Dd) (r : RelS B H G σ e') (sm : Same G0 G) (xa : ExAt T k fs d G H) :
    wTrks X.K (fun cls d σ H => W σ cls d H) Dd hs (T.cls k) d σ H := by
  induction h with
  | nil =>
    have q : RnS T W fr B G0 (.exn k fs e') Dd := q
    exact q d σ H G r sm xa
  | @cons h hs c0 ns b rr Wh h1 h2 h3 h4 h5 h6 _ ih =>
    have q : RnS T W fr B G0 (if k = c0 then unS h.i (ex cf b (e'.set h.i (.va (.err c0 ns fs)))) else exH cf rr k fs e') Dd := q
    refine ⟨decide (k = c0), h5 k xa.1, fun hk a na => ?_, fun hk => ?_⟩
    · have ek : k = c0 := of_decide_eq_true hk
      subst ek
      rw [if_pos rfl] at q
      obtain ⟨r2, s2⟩ := r.rel.lay (o := exv a (T.cls k) d) na
      obtain ⟨k1, k2, vs, k3, k4⟩ := xa
      have rv : Rep (L2.upd G a (exv a (T.cls k) d)) (.ref a) (.err k ns fs) := by
        rw [← h4]
        subst hT
        exact .err upd_same k1 k2 (k4.mono s2.gs) (k3.mono s2.gs)
      have r3 := r.step r2 s2
      obtain ⟨r4, o4⟩ := r3.rel.putV (i := h.i) rv
      rw [h2]
      refine ⟨_, _, r3.put (is := [h.i]) ⟨r4, fun j hj => List.getElem?_set_ne fun z => hj (by rw [z]; exact List.mem_singleton.mpr rfl), List.length_set .., o4⟩ (not_one h6), ?_⟩
      exact RnS.unsuite h6 (RnS.mono (sm.trans s2.gs) q)
    · rw [if_neg (of_decide_eq_false hk)] at q
      exact ih q
theorem sx_tryn {hs : List Hd} {b s : S} {body : List Stmt} (hst : X.stack = X.env :: X.outer) (hfm : X.env.frame = some X.env.locals) (hxx : X.ex = []) (nd : X.N.Nodup) (tk : Takes X (fun cls d σ H => W σ cls d H)) (hT : T = KF.T) (hh : HdT X T cf fr B hs s) (hne : hs ≠ [])
    (hb : ∀ (Wb : WX) (pn : List (Addr × Obj)) (xe : Value → Shared → Prop), Takes (X.tr pn xe) Wb → PassesOwn (model X.prog X.w) X.A X.env xe → PSs (X.tr pn xe) body (tX T (fun σ cls d H => Wb cls d σ H) cf fr B b)) : PS X (.Try body (hs.map Hd.x) [] [] pos) (tX T W cf fr B (.tryn b s)) := by
  refine wkS (ps_try_trks (tb := fun Wb => tX T (fun σ cls d H => Wb cls d σ H) cf fr B b) hst hfm hxx nd hh.ok hne tk hb) fun D σ H ⟨G, e, r, q⟩ => ⟨G, e, r, ?_⟩
  have q : RnS T W fr B G (match ex cf b e with
    | .exn k fs e' => exH cf s k fs e'
    | r => r) D := q
  cases hx : ex cf b e with
  | nx e' => rw [hx] at q; exact q
  | rt d e' => rw [hx] at q; exact q
  | bk e' => rw [hx] at q; exact q
  | ct e' => rw [hx] at q; exact q
  | no => rw [hx] at q; exact q
  | exn k fs e' =>
    rw [hx] at q
    intro d σ1 H1 G1 r1 s1 xa
    exact hd_wish hT hh q r1 s1 xa
end
end Ev
end
section
namespace Ev
open PySem PySem.Spec L2 Builtin Builtin.ObjectAttr
open PyProof.Rows hiding St
variable [KF]
/-! ### own classes of errors straight over a built-in one -/
/-- the built-in class -/
structure Base (B newId initId : String) (bm : List Value) : Prop where
  f : ExcBaseFacts B newId initId bm
  s : StoreFacts B bm "object.__setattr__" "object"
  t : PySem.W.excTail bm bm = true
theorem base_VE : Base "ValueError" "ValueError.__new__" "ValueError.__init__" [.type "ValueError", .type "Exception", .type "BaseException", .type "object"] := ⟨PySem.F.excBase_ValueError, PySem.F.store_ValueError, by decide +kernel⟩
theorem base_LE : Base "LookupError" "LookupError.__new__" "LookupError.__init__" [.type "LookupError", .type "Exception", .type "BaseException", .type "object"] := ⟨PySem.F.excBase_LookupError, PySem.F.store_LookupError, by decide +kernel⟩
/-- what the written part says of such a class -/
structure ClI (K : PySem.W.Frag) (C : Addr) (bm : List Value) (newId : String) : Prop where
  cls : ∃ nm q N bs sn sub ab col dd k0 k1 k2 k3 k5, K.lookup C = some (excClassObj nm q C N bs bm true sn sub ab col dd k0 k1 k2 k3 k5 newId)
  sa : PySem.W.findIn K (.ref C) "__setattr__" = some (some (.builtin "object.__setattr__"))
  exC : PySem.W.subIn K (.ref C) (.type "BaseException") = some true
  tyC : PySem.W.typeIn K (.ref C) = some (.type "type")
  kC : PySem.W.keepIn K (.ref C) = true
theorem tk_none {K : PySem.W.Frag} {C : Addr} {f : Str} (h : PySem.W.findIn K (.ref C) f = some none) : PySem.W.takerIn K C f = some none := by
  unfold PySem.W.takerIn
  rw [h]
  rfl
section
variable {K : PySem.W.Frag} {C : Addr} {B newId initId : String} {bm : List Value}
theorem ClI.cd (b : Base B newId initId bm) (T : ClI K C bm newId) : ∃ cd : ClassData, PySem.W.clsIn K C = some cd ∧ cd.hasDict = true ∧ PySem.W.excOver K C bm = true := by
  obtain ⟨nm, q, N, bs, sn, sub, ab, col, dd, k0, k1, k2, k3, k5, hC⟩ := T.cls
  have e : PySem.W.clsIn K C = some { name := nm, bases := bs, mro := .ref C :: bm, ns := N, qualname := q, hasDict := true, slotNames := sn, subclasses := sub, abstract := ab, collection := col, hasDel := false } := by unfold PySem.W.clsIn; rw [hC] <;> rfl
  refine ⟨_, e, rfl, ?_⟩
  unfold PySem.W.excOver
  rw [e]
  show (C == C && PySem.W.excTail bm bm) = true
  rw [b.t, beq_self_eq_true]
  rfl
end
section
variable {X : Cx} {pins : List (Addr × Obj)} {σ : St} {H : Hp} {s : Shared} {a C dx : Addr} {f : Str} {y : V} {u : Value} {fs : List (Str × V)} {Q : Unit → Shared → Prop} {E : Value → Shared → Prop} {A : Around} {B newId initId : String} {bm : List Value}
/-- self.f = y, the dict is made -/
theorem sto_new (b : Base B newId initId bm) (T : ClI X.K C bm newId) (I : Inv X pins σ H s) (e : H a = some (exo a C none)) (no : PySem.W.findIn X.K (.ref C) f = some none) (ry : RelV y u)
    (h : ∀ dx s', H dx = none → dx ≠ a → Inv X pins σ (upd (upd H dx (exd dx [(f, y)])) a (exo a C (some dx))) s' → Q () s') : wpAny (model X.prog X.w) A (setAttr (.ref a) f u) Q E s := by
  obtain ⟨cd, hcd, hd, ov⟩ := ClI.cd b T
  obtain ⟨t1, ho⟩ := exo_at I.hok e
  obtain ⟨hp, g, d, t, os⟩ := s
  have J : PySem.W.InstAt hp a { cls := .ref C, dict := none, data := .fields #[.ref t1, .none, .none, .none, .bool false, .none] } C none := ⟨ho, rfl, rfl, trivial⟩
  refine PySem.W.set_plain I.kIn J T.sa (PySem.W.osa_openX b.s I.kIn J ov (tk_none no) fun bb => ?_)
  have lc : PySem.W.Looks (model X.prog X.w) hp (classData C) cd := PySem.W.looks_clsIn I.kIn hcd
  have hxs : a ≠ hp.objs.size := Nat.ne_of_lt (Heap.lt_size ho)
  have hx1 : (hp.push ({ cls := .type "dict", data := .dict #[] } : Obj)).get? a = some ({ cls := .ref C, dict := none, data := .fields #[.ref t1, .none, .none, .none, .bool false, .none] } : Obj) := Heap.get?_push_of_some _ ho
  have fin_ : ∀ (h' : Heap) (tk' : Nat), h'.Ns1 hp.objs.size (fun z => if z = f then some u else none) → Heap.SameBut hp.objs.size ((hp.push ({ cls := .type "dict", data := .dict #[] } : Obj)).update a fun o => { o with dict := some hp.objs.size }) h' → Q () ⟨h', g, d, tk', os⟩ := fun h' tk' hn hs => by
    have hx : h'.get? a = some ({ cls := .ref C, dict := some hp.objs.size, data := .fields #[.ref t1, .none, .none, .none, .bool false, .none] } : Obj) := (hs.2 a hxs).trans (Heap.get?_update_self _ hx1 rfl)
    have kp : ∀ b o, b ≠ a → hp.get? b = some o → h'.get? b = some o := fun b o hb q => (hs.2 b (Nat.ne_of_lt (Heap.lt_size q))).trans ((Heap.get?_update_ne _ _ _ _ hb).trans (Heap.get?_push_of_some _ q))
    have hnd : H hp.objs.size = none := I.hok.fresh (Nat.le_refl _)
    have nd : ∀ {b : Addr} {o : Obj}, hp.get? b = some o → b ≠ hp.objs.size := fun {b o} q => Nat.ne_of_lt (Heap.lt_size q)
    have na : ∀ {b : Addr}, H b = none → b ≠ a := fun {b} n z => by
      rw [z, e] at n
      cases n
    have un : Un X.fs [] H (upd (upd H hp.objs.size (exd hp.objs.size [(f, y)])) a (exo a C (some hp.objs.size))) hp h' := ⟨
      fun b o q n _ _ => kp b o (na n) q, fun b o q n _ _ => ⟨o.slots, kp b o (na n) q⟩, fun b o q n _ => by rw [upd_ne (na n), upd_ne (nd q)]; exact n,
      fun b o q _ => by
        by_cases hb : b = a
        · exact ⟨_, by rw [hb]; exact hx⟩
        · exact ⟨o, kp b o hb q⟩,
      fun b xs q => by rw [upd_ne (at_ne e q exo_tup), upd_ne (ne_of_none q hnd)]; exact q, fun b o v q => by rw [upd_ne (at_ne e q exo_frz), upd_ne (ne_of_none q hnd)]; exact q,
      fun b ps q => ⟨#[], by rw [upd_ne (at_ne e q exo_tbl), upd_ne (ne_of_none q hnd), q]; simp⟩⟩
    refine h hp.objs.size _ hnd (Ne.symm hxs) (I.un (t' := tk') un fun b o q => ?_)
    by_cases hb : b = a
    · subst hb
      rw [upd_same] at q
      cases q
      exact exo_ok hx
    · rw [upd_ne hb] at q
      by_cases hd : b = hp.objs.size
      · subst hd
        rw [upd_same] at q
        cases q
        exact exd_ok hn (relO_put (fs := []) ry fun _ => True.intro)
      · rw [upd_ne hd] at q
        refine (I.hok b o q).stay (fun c v hc z => kp c v ?_ z) (fun c hc => by rw [upd_ne (at_ne e hc exo_own), upd_ne (ne_of_none hc hnd)]; exact hc) fun c xs hc => by rw [upd_ne (at_ne e hc exo_tup), upd_ne (ne_of_none hc hnd)]; exact hc
        rcases hc with hc | hc
        · rw [hc]; exact hb
        · exact at_ne e hc exo_own
  have e1 : Heap.Ns ((hp.push ({ cls := .type "dict", data := .dict #[] } : Obj)).update a fun o => { o with dict := some hp.objs.size }) hp.objs.size (fun _ => none) :=
    ⟨_, #[], _, (Heap.get?_update_ne _ _ _ _ hxs.symm).trans (Heap.get?_push_at rfl rfl), rfl, fun e he => absurd he (by simp), fun _ => rfl⟩
  obtain ⟨nm, bs, mro, ns, qn, hd', sn, sb, ab, col, del⟩ := cd
  dsimp only at hd
  subst hd
  show wpAny _ _ (storeInOwnDict (.ref a) (.ref C) _ f u bb) _ _ _
  unfold storeInOwnDict ownDictForStores
  repeat (first | (with_reducible refine HandSPX.store_in_new e1 fun h' tk' hn hs => fin_ h' tk' hn hs) | with_reducible refine wpAny_loadPart_at ho ?_ | with_reducible refine lc.at ?_ | wp_step)
/-- self.f = y, into the dict -/
theorem sto_old (b : Base B newId initId bm) (T : ClI X.K C bm newId) (I : Inv X pins σ H s) (e : H a = some (exo a C (some dx))) (ed : H dx = some (exd dx fs)) (hl : fs.length ≤ 900) (no : PySem.W.findIn X.K (.ref C) f = some none) (ry : RelV y u)
    (h : ∀ s', Inv X pins σ (upd H dx (exd dx ((f, y) :: fs))) s' → Q () s') : wpAny (model X.prog X.w) A (setAttr (.ref a) f u) Q E s := by
  obtain ⟨cd, hcd, hd, ov⟩ := ClI.cd b T
  obtain ⟨t1, ho⟩ := exo_at I.hok e
  obtain ⟨mA, hns, rel⟩ := exd_at I.hok ed
  have hw := within_of rel
  obtain ⟨hp, g, d, t, os⟩ := s
  obtain ⟨oD, _, _, hoD, _, _⟩ := hns.count hw
  have J : PySem.W.InstAt hp a { cls := .ref C, dict := some dx, data := .fields #[.ref t1, .none, .none, .none, .bool false, .none] } C (some oD) := ⟨ho, rfl, rfl, hoD⟩
  refine PySem.W.set_plain I.kIn J T.sa (PySem.W.osa_openX b.s I.kIn J ov (tk_none no) fun bb => ?_)
  have lc : PySem.W.Looks (model X.prog X.w) hp (classData C) cd := PySem.W.looks_clsIn I.kIn hcd
  have fin_ : ∀ (h' : Heap) (tk' : Nat), h'.Ns1 dx (fun z => if z = f then some u else mA z) → Heap.SameBut dx hp h' → Q () ⟨h', g, d, tk', os⟩ := fun h' tk' hn hs => by
    have there : ∃ o, h'.get? dx = some o := by
      obtain ⟨o, _, _, e', _⟩ := hn
      exact ⟨o, e'⟩
    exact h _ (I.write (t' := tk') (x := dx) (e := dx) (o := exd dx ((f, y) :: fs)) (by rw [ed]; exact True.intro) (.inl rfl) (fun c v hc q => (hs.2 c hc).trans q) there (exd_ok hn (relO_put ry rel)))
  have len : (fs.map (·.1)).length ≤ 1000 := by rw [List.length_map]; omega
  obtain ⟨nm, bs, mro, ns, qn, hd', sn, sb, ab, col, del⟩ := cd
  dsimp only at hd
  subst hd
  show wpAny _ _ (storeInOwnDict (.ref a) (.ref C) _ f u bb) _ _ _
  unfold storeInOwnDict ownDictForStores
  repeat (first | (with_reducible refine OEX.store_in_old hns hw len fun h' tk' hn hs => fin_ h' tk' hn hs) | with_reducible refine wpAny_loadPart_at ho ?_ | with_reducible refine lc.at ?_ | wp_step)
end
end Ev
end
section
namespace Ev
open PySem PySem.Spec L2
open PyProof.Rows hiding St
variable [KF]
/-! ### heaps that grow -/
structure Grow (G H G' H' : Hp) : Prop where
  sub : Same G' H'
  gs : Same G G'
  fr : ∀ b o, H b = some o → H' b = some o
  nw : ∀ b o, G' b = some o → G b = some o ∨ H b = none ∨ Kt H b o
  al : ∀ b, H' b = none → H b = none
theorem Grow.rel {G H G' H' : Hp} {σ : St} {e : Env} (g : Grow G H G' H') (r : Rel H G σ e) : Rel H' G' σ e ∧ Stp σ e G H e G' H' := by
  refine ⟨⟨g.sub, r.len, fun i d q => ?_, fun i ds q => ?_, r.dis⟩, ⟨g.gs, fun b o h _ => g.fr b o h, fun b o h => (g.nw b o h).imp id fun z => z.imp id .inr, g.al, fun _ h => h⟩⟩
  · obtain ⟨v, h1, h2⟩ := r.va i d q
    exact ⟨v, h1, h2.mono g.gs⟩
  · obtain ⟨a, vs, h1, h2, h3, h4⟩ := r.ow i ds q
    refine ⟨a, vs, h1, g.fr _ _ h2, ?_, h4.mono g.gs⟩
    cases w : G' a with
    | none => rfl
    | some o =>
      rcases g.nw a o w with z | z | z
      · rw [h3] at z; cases z
      · rw [h2] at z; cases z
      · exact (z.ne h2).elim
/-! ### __init__: the state as the fields come -/
structure IS (p C : Addr) (G0 H0 : Hp) (σ : St) (e : Env) (H G : Hp) (done : List (Str × V)) : Prop where
  rel : Rel H G σ e
  gs : Same G0 G
  fr : ∀ b o, H0 b = some o → H b = some o
  nw : ∀ b o, G b = some o → G0 b = some o ∨ H0 b = none ∨ Kt H0 b o
  al : ∀ b, H b = none → H0 b = none
  gp : G p = none
  no : ∀ (i : Nat) (xs : Ow), e[i]? ≠ some (.ow xs)
  s0 : σ[0]? = some (some (.ref p))
  st : (done = [] ∧ H p = some (exo p C none)) ∨ ∃ dx, H p = some (exo p C (some dx)) ∧ H dx = some (exd dx done) ∧ G dx = none ∧ H0 dx = none ∧ dx ≠ p
section
variable {p C : Addr} {G0 H0 : Hp} {σ : St} {e e1 : Env} {H G H1 G1 : Hp} {done : List (Str × V)}
theorem IS.noa (s : IS p C G0 H0 σ e H G done) {a : Addr} : ¬ OA σ e a := fun ⟨i, xs, h, _⟩ => s.no i xs h
theorem IS.step (s : IS p C G0 H0 σ e H G done) (r : Rel H1 G1 σ e1) (t : Stp σ e G H e1 G1 H1) : IS p C G0 H0 σ e1 H1 G1 done where
  rel := r
  gs := s.gs.trans t.gs
  fr := fun b o h => t.fr b o (s.fr b o h) s.noa
  nw := fun b o h => by
    rcases t.nw b o h with z | z | z | z
    · exact s.nw b o z
    · exact .inr (.inl (s.al b z))
    · exact (s.noa z).elim
    · obtain ⟨us, rfl, z⟩ := z
      cases hb : H0 b with
      | none => exact .inr (.inl rfl)
      | some o' =>
        have := s.fr b o' hb
        rw [z] at this
        cases this
        exact .inr (.inr ⟨us, rfl, hb⟩)
  al := fun b h => s.al b (t.al b h)
  gp := by
    have hp : H p ≠ none := by
      rcases s.st with ⟨_, z⟩ | ⟨_, z, _⟩ <;> rw [z] <;> exact fun w => nomatch w
    have hp2 : ∀ o, ¬ Kt H p o := fun o ⟨us, e1, e2⟩ => by
      subst e1
      rcases s.st with ⟨_, z⟩ | ⟨_, z, _⟩ <;> (rw [z] at e2; cases e2)
    cases w : G1 p with
    | none => rfl
    | some o =>
      rcases t.nw p o w with z | z | z | z
      · rw [s.gp] at z; cases z
      · exact (hp z).elim
      · exact (s.noa z).elim
      · exact (hp2 o z).elim
  no := fun i xs h => by
    obtain ⟨a, vs, h1, _⟩ := r.ow i xs h
    exact s.noa (t.oa a ⟨i, xs, h, h1⟩)
  s0 := s.s0
  st := by
    rcases s.st with ⟨z1, z2⟩ | ⟨dx, z1, z2, z3, z4, z5⟩
    · exact .inl ⟨z1, t.fr _ _ z2 s.noa⟩
    · refine .inr ⟨dx, t.fr _ _ z1 s.noa, t.fr _ _ z2 s.noa, ?_, z4, z5⟩
      cases w : G1 dx with
      | none => rfl
      | some o =>
        rcases t.nw dx o w with z | z | z | z
        · rw [z3] at z; cases z
        · rw [z2] at z; cases z
        · exact (s.noa z).elim
        · obtain ⟨us, e1, e2⟩ := z
          subst e1
          rw [z2] at e2
          cases e2
theorem IS.put (s : IS p C G0 H0 σ e H G done) {H2 : Hp} {dx : Addr} {done' : List (Str × V)} (hG : G dx = none) (h0 : H0 dx = none) (ne : dx ≠ p) (hp : H2 p = some (exo p C (some dx))) (hd : H2 dx = some (exd dx done')) (k : ∀ b, b ≠ p → b ≠ dx → H2 b = H b)
    (hp0 : H0 p = none) : IS p C G0 H0 σ e H2 G done' where
  rel := ⟨fun b o h => by
      rw [k b (fun z => by rw [z, s.gp] at h; cases h) (fun z => by rw [z, hG] at h; cases h)]
      exact s.rel.sub b o h, s.rel.len, s.rel.va, fun i xs h => (s.no i xs h).elim, s.rel.dis⟩
  gs := s.gs
  fr := fun b o h => by
    rw [k b (fun z => by rw [z, hp0] at h; cases h) (fun z => by rw [z, h0] at h; cases h)]
    exact s.fr b o h
  nw := s.nw
  al := fun b h => by
    by_cases hb : b = p
    · rw [hb]; exact hp0
    · by_cases hd' : b = dx
      · rw [hd']; exact h0
      · rw [k b hb hd'] at h
        exact s.al b h
  gp := s.gp
  no := s.no
  s0 := s.s0
  st := .inr ⟨dx, hp, hd, hG, h0, ne⟩
end
/-- self.f = x -/
def tSto (K : PySem.W.Frag) (bm : List Value) (newId : String) (f : Str) (to te : TE) : TS := fun D σ H => te σ H fun y H1 => to σ H1 fun x H2 => ∃ a C : Addr, x = .ref a ∧ ClI K C bm newId ∧ PySem.W.findIn K (.ref C) f = some none ∧
  ((H2 a = some (exo a C none) ∧ ∀ dx, H2 dx = none → dx ≠ a → D.nx σ (upd (upd H2 dx (exd dx [(f, y)])) a (exo a C (some dx)))) ∨
    ∃ (dx : Addr) (fs : List (Str × V)), H2 a = some (exo a C (some dx)) ∧ H2 dx = some (exd dx fs) ∧ fs.length ≤ 900 ∧ D.nx σ (upd H2 dx (exd dx ((f, y) :: fs))))
section
variable {X : Cx} {T : XT} {W : St → XK} {cf : CF} {B newId initId : String} {bm : List Value}
theorem ps_sto {o x : Expr} {to te : TE} {f : Str} {p1 pos : Pos} (b : Base B newId initId bm) (ho : PE X o to) (he : PE X x te) (hs : swapsWith x (some (.Attribute o f p1)) pos.line X.env = pure false) :
    PS X (.Assign [.Attribute o f p1] x pos) (tSto X.K bm newId f to te) := by
  refine ⟨fun pins s σ H D I h => plainObj_wpAny_Assign_Attribute (thn (he.run pins s σ H _ I h) fun v s1 ⟨y, H1, I1, r1, q1⟩ => thn (ho.run pins s1 σ H1 _ I1 q1) fun u s2 ⟨x, H2, I2, r2, a, C, ex, K1, no, q⟩ => ?_) hs⟩
  subst ex
  obtain rfl : u = Value.ref a := r2
  rcases q with ⟨ea, q⟩ | ⟨dx, fs, ea, ed, hl, q⟩
  · exact sto_new b K1 I2 ea no r1 fun dx s' n ne J => ⟨σ, _, J, q dx n ne⟩
  · exact sto_old b K1 I2 ea ed hl no r1 fun s' J => ⟨σ, _, J, q⟩
/-- the body of an __init__: its stores, their names and values -/
inductive Ini (X : Cx) (T : XT) (W : St → XK) (cf : CF) (sn : Str) : List Stmt → List Str → E → Prop where
  | nil : Ini X T W cf sn [] [] .nil
  | cons {x : Expr} {f : Str} {np p1 pos : Pos} {ss : List Stmt} {fs : List Str} {a as : E} : PE X x (tV T W cf a) → noComp x = true → Ini X T W cf sn ss fs as → Ini X T W cf sn (.Assign [.Attribute (.Name sn np) f p1] x pos :: ss) (f :: fs) (.cons a as)
def tIni (T : XT) (cf : CF) (p C : Addr) (G0 H0 : Hp) (ns : List Str) (as : E) : TS := fun D σ H => ∃ G e done ds e2 us es, IS p C G0 H0 σ e H G done ∧ H0 p = none ∧ done.length + ns.length ≤ 900 ∧ RepA G us es ∧ evs cf as e = .ok ds e2 ∧
  ∀ σ' H' G' vs, IS p C G0 H0 σ' e2 H' G' ((ns.zip vs).reverse ++ done) → vs.length = ns.length → RepA G' us es → RepA G' vs ds → D.nx σ' H'
theorem ini_run {p C : Addr} {G0 H0 : Hp} {sn : Str} (b : Base B newId initId bm) (K1 : ClI X.K C bm newId) (hN : X.N[0]? = some sn) (hv : Vis X.env.scope sn) (hd : (sn == ("__debug__" : Str)) = false) (hcd : (sn == ("__classdict__" : Str)) = false) :
    ∀ {ss : List Stmt} {ns : List Str} {as : E}, Ini X T W cf sn ss ns as → (∀ f ∈ ns, PySem.W.findIn X.K (.ref C) f = some none) → PSs X ss (tIni T cf p C G0 H0 ns as) := by
  intro ss ns as h
  induction h with
  | nil =>
    intro _
    refine wkSs pss_nil fun D σ H ⟨G, e, done, ds, e2, us, es, s, h0, hl, ru, q, k⟩ => ?_
    cases q
    exact k σ H G [] s rfl ru .nil
  | @cons x f np p1 pos ss ns a as hx hc _ ih =>
    intro hno
    refine wkSs (pss_cons (ps_sto b (pe_var (X := X) hN hv hd hcd) hx (no_swap hc _ _ _)) (ih fun g hg => hno g (List.mem_cons_of_mem _ hg))) fun D σ H ⟨G, e, done, ds, e2, us, es, s, h0, hl, ru, q, k⟩ => ?_
    have q : ((ev cf a e).bind fun x e => (evs cf as e).bind fun xs e => .ok (x :: xs) e) = .ok ds e2 := q
    cases hea : ev cf a e with
    | no => rw [hea] at q; cases q
    | ex c fs e' => rw [hea] at q; cases q
    | ok d e1 =>
      rw [hea] at q
      have q : ((evs cf as e1).bind fun xs e => .ok (d :: xs) e) = .ok ds e2 := q
      cases heb : evs cf as e1 with
      | no => rw [heb] at q; cases q
      | ex c fs e' => rw [heb] at q; cases q
      | ok ds2 e3 =>
        rw [heb] at q
        cases q
        refine ⟨G, e, s.rel, ?_⟩
        rw [hea]
        intro v H1 G1 r1 t1 rv
        have s1 := s.step r1 t1
        refine ⟨.ref p, s1.s0, p, C, rfl, K1, hno f List.mem_cons_self, ?_⟩
        have fin_ : ∀ (H2 : Hp) (done' : List (Str × V)), IS p C G0 H0 σ e1 H2 G1 done' → done' = (f, v) :: done → tIni T cf p C G0 H0 ns as D σ H2 := fun H2 done' s2 ed => by
          subst ed
          refine ⟨G1, e1, _, ds2, e2, us ++ [v], es ++ [d], s2, h0, by rw [List.length_cons] at hl ⊢; omega, (ru.mono t1.gs).append (.cons rv .nil), heb, fun σ' H' G' vs s' hl' ra rb => ?_⟩
          have hh : RepA G' us es ∧ RepA G' [v] [d] := by
            clear hl' rb s' k
            have ll : us.length = es.length := ru.length
            clear ru
            induction us generalizing es with
            | nil =>
              cases es with
              | nil => exact ⟨.nil, ra⟩
              | cons _ _ => cases ll
            | cons u us ih2 =>
              cases es with
              | nil => cases ll
              | cons ee es =>
                cases ra with
                | cons r0 ra =>
                  obtain ⟨z1, z2⟩ := ih2 _ ra (by simpa using ll)
                  exact ⟨.cons r0 z1, z2⟩
          cases hh.2 with
          | cons rvd _ =>
            refine k σ' H' G' (v :: vs) ?_ (by rw [List.length_cons, List.length_cons, hl']) hh.1 (.cons rvd rb)
            have e5 : ((f :: ns).zip (v :: vs)).reverse ++ done = (ns.zip vs).reverse ++ (f, v) :: done := by
              rw [List.zip_cons_cons, List.reverse_cons, List.append_assoc]
              rfl
            rw [e5]
            exact s'
        rcases s1.st with ⟨z1, z2⟩ | ⟨dx, z1, z2, z3, z4, z5⟩
        · subst z1
          refine .inl ⟨z2, fun dx hn hne => ?_⟩
          refine fin_ _ _ (s1.put (dx := dx) (s1.rel.free hn) (s1.al dx hn) hne upd_same (done' := [(f, v)]) ?_ (fun b h1 h2 => by rw [upd_ne h1, upd_ne h2]) h0) rfl
          rw [upd_ne hne, upd_same]
        · refine .inr ⟨dx, done, z1, z2, by omega, ?_⟩
          refine fin_ _ _ (s1.put (dx := dx) z3 z4 z5 ?_ (done' := (f, v) :: done) upd_same (fun b h1 h2 => by rw [upd_ne h2]) h0) rfl
          rw [upd_ne (Ne.symm z5)]
          exact z1
end
end Ev
end
section
namespace Ev
open PySem PySem.Spec L2
open PyProof.Rows hiding St
variable [KF]
/-! ### the making of an error -/
def initE (ds : List D) : Env := .em :: ds.map .va
def spI (cf : CF) (C : Addr) (ns : List Str) (as : E) (np : Nat) : Sp := fun vs H Q _ => vs.length = np ∧ ∃ (p : Addr) (us : List V) (G1 H1 : Hp) (ds fs : List D) (e2 : Env), vs = .ref p :: us ∧ H = upd H1 p (exo p C none) ∧ H1 p = none ∧ Same G1 H1 ∧ RepA G1 us ds ∧ evs cf as (initE ds) = .ok fs e2 ∧
  ∀ σ' H' G' ws, IS p C G1 H1 σ' e2 H' G' ((ns.zip ws).reverse) → ws.length = ns.length → RepA G' ws fs → Q .non H'
theorem init_is {p C : Addr} {N : List Str} {us : List V} {G1 H1 : Hp} {ds : List D} (hn : N.length = us.length + 1) (h0 : H1 p = none) (sm : Same G1 H1) (ra : RepA G1 us ds) : IS p C G1 H1 (start N (.ref p :: us)) (initE ds) (upd H1 p (exo p C none)) G1 [] := by
  have hs : start N (V.ref p :: us) = some (.ref p) :: us.map some := by
    unfold L2.start
    rw [hn, List.length_cons, Nat.sub_self]
    simp
  have gp : G1 p = none := by
    cases w : G1 p with
    | none => rfl
    | some o => rw [sm p o w] at h0; cases h0
  have no : ∀ (i : Nat) (xs : Ow), (initE ds)[i]? ≠ some (.ow xs) := fun i xs h => by
    cases i with
    | zero => cases h
    | succ i =>
      have h : (ds.map Sl.va)[i]? = some (.ow xs) := h
      rw [List.getElem?_map, Option.map_eq_some_iff] at h
      obtain ⟨_, _, z⟩ := h
      cases z
  rw [hs]
  refine ⟨⟨fun b o h => ?_, ?_, fun i d h => ?_, fun i xs h => (no i xs h).elim, fun i j xs _ h => (no i xs h).elim⟩, Same.refl _, fun b o h => ?_, fun b o h => .inl h, fun b h => ?_, gp, no, rfl, .inl ⟨rfl, upd_same⟩⟩
  · rw [upd_ne (fun z => by rw [z, gp] at h; cases h)]
    exact sm b o h
  · unfold initE
    rw [List.length_cons, List.length_cons, List.length_map, List.length_map, ra.length]
  · cases i with
    | zero => cases h
    | succ i =>
      have h : (ds.map Sl.va)[i]? = some (.va d) := h
      rw [List.getElem?_map, Option.map_eq_some_iff] at h
      obtain ⟨d', h1, h2⟩ := h
      cases h2
      obtain ⟨v, h3, h4⟩ := ra.get h1
      refine ⟨v, ?_, h4⟩
      show (us.map some)[i]? = some (some v)
      rw [List.getElem?_map, h3]
      rfl
  · rw [upd_ne (ne_of_none h h0)]
    exact h
  · by_cases hb : b = p
    · rw [hb]; exact h0
    · rw [upd_ne hb] at h
      exact h
section
variable {P : Program} {w : World} {K : PySem.W.Frag} {mg : Str → Option Value} {base : Heap} {B newId initId : String} {bm : List Value} {T : XT}
theorem init_fn {x qual sn : Str} {st : Stmt} {fI C : Addr} {fd : FuncData} {ps ns : List Str} {k : Nat} {cf : CF} {as : E} (F : L2.Fun K x qual st fI fd) (S : FnScope (sn :: ps) (sn :: ps) (defScope st)) (b : Base B newId initId bm) (K1 : ClI K C bm newId) (hl : ns.length ≤ 900)
    (hno : ∀ f ∈ ns, PySem.W.findIn K (.ref C) f = some none) (hv : Vis (defScope st) sn) (hd : (sn == ("__debug__" : Str)) = false) (hcd : (sn == ("__classdict__" : Str)) = false)
    (hi : ∀ (cdv : Value) (A : Around) (outer : List PySem.Env) (s : Shared) (H : Hp) (E : XK), Room k (A.deeper (envOfC qual (defScope st) s.heap.objs.size fI cdv)) → Ini (cxOf (L2.CX P w) P w K mg base (sn :: ps) qual (defScope st) fI cdv A outer s H E) T (fun _ => E) cf sn (defBody st) ns as) :
    FnOk P w K mg base (L2.CX P w) (k + 1) fI fd (sn :: ps) (spI cf C ns as (ps.length + 1)) := by
  refine F.okX S (fun vs H Q E h => h.1) fun cdv A outer s H vs Q E hr hs => ?_
  obtain ⟨hlen, p, us, G1, H1, ds, fs, e2, rfl, rfl, h0, sm, ra, he, q⟩ := hs
  have hln : us.length = ps.length := by simpa using hlen
  refine ⟨_, ini_run b K1 rfl (by
    show Vis (defScope st) sn
    exact hv) hd hcd (hi cdv A outer s _ E hr) hno, G1, initE ds, [], fs, e2, [], [], init_is (by rw [List.length_cons, hln]) h0 sm ra, h0, by simpa using hl, .nil, he, fun σ' H' G' vs' s' hl' _ rb => ?_⟩
  rw [List.append_nil] at s'
  exact q σ' H' G' vs' s' hl' rb
end
section
variable {X : Cx} {T : XT} {W : St → XK} {cf : CF} {B newId initId : String} {bm : List Value} {x : Str} {C fI : Addr} {fd : FuncData} {ps : List Str} {k : Nat} {p pos : Pos} {e : Expr} {es : List Expr} {ta : TA} {sp : Sp}
/-- C(e, ..) -/
theorem pmk_I (b : Base B newId initId bm) (K1 : ClI X.K C bm newId) (iC : PySem.W.findIn X.K (.ref C) "__init__" = some (some (.ref fI))) (tI : PySem.W.typeIn X.K (.ref fI) = some (.type "function")) (F1 : FnOk X.prog X.w X.K X.mg X.base (L2.CX X.prog X.w) k fI fd ps sp) (hr : Room (k + 1) X.A) (hb : Binds X.K fd ps [])
    (hg : Gl X x) (hm : X.mg x = some (.ref C)) (ha : PA X (e :: es) ta) (db : (x == ("__debug__" : Str)) = false) (he : starEach (e :: es) X.env = (false, eval e X.env) :: starEach es X.env) (hpl : (backTo pos (starEach es X.env)).any (·.1) = false) :
    PMk X (.Call (.Name x p) (e :: es) [] pos) (tMkO C sp [] ta) := by
  intro pins s σ H Q I h
  obtain ⟨nm, q, N, bs, sn, sub, ab, col, dd, k0, k1, k2, k3, k5, hC⟩ := K1.cls
  refine wpAny_Call_Name_kw (ld_glob I hg hm (PySem.W.callWith_K (h₀ := X.base) I.ok.mod.kin K1.kC (thn (ha.run pos pins s σ H _ I h) fun us s1 ⟨vs, H1, I1, r1, hz, q1⟩ => ⟨I1.kIn, ?_⟩) he hpl) db)
  show wpAny _ _ (call (.ref C) us) _ _ _
  obtain ⟨hp, g, dr, tk, os⟩ := s1
  have sz : hp.objs.size ≤ hp.objs.size + 1 := Nat.le_succ _
  have new := q1 (hp.objs.size + 1) (I1.hok.fresh sz)
  have kk : ∀ b o, hp.get? b = some o → ((hp.push (PySem.W.kdv_tup us)).push (PySem.HandSPX.excO C hp.objs.size)).get? b = some o := fun b o q => Heap.get?_push_of_some _ (Heap.get?_push_of_some _ q)
  have at_ : ((hp.push (PySem.W.kdv_tup us)).push (PySem.HandSPX.excO C hp.objs.size)).get? (hp.objs.size + 1) = some (PySem.HandSPX.excO C hp.objs.size) := by heap_get
  have I2 : Inv X pins σ (upd H1 (hp.objs.size + 1) (exo (hp.objs.size + 1) C none)) ⟨(hp.push (PySem.W.kdv_tup us)).push (PySem.HandSPX.excO C hp.objs.size), g, dr, tk, os⟩ :=
    I1.laid (t' := tk) (a := hp.objs.size + 1) (o := exo (hp.objs.size + 1) C none) kk sz (exo_ok at_)
  have r2 : Vals (V.ref (hp.objs.size + 1) :: vs) (Value.ref (hp.objs.size + 1) :: us) := .cons rfl r1
  rw [List.append_nil] at new
  have hl : (Value.ref (hp.objs.size + 1) :: us ++ []).length = ps.length := by
    rw [List.append_nil, ← r2.length, F1.len _ _ _ _ new]
  have hb2 := hb _ (Value.ref (hp.objs.size + 1) :: us) I2.kIn hl
  rw [List.append_nil] at hb2
  have hus : us.length ≤ sizeLine := by
    rw [← Paired.length r1, sizeLine_eq]
    omega
  refine wpAny_call (PySem.HandSPX.call_own b.f (fun _ => rfl) (I1.kIn _ _ hC) (PySem.W.looks_findIn I1.kIn iC) (fun self => PySem.W.bind_fn I1.kIn self tI) hus
    (codeAny_mono (F1.run _ X.stack _ _ ⟨Value.ref (hp.objs.size + 1) :: us, []⟩ (Value.ref (hp.objs.size + 1) :: us) _ _ (fun _ _ _ => False) (hr.make C us []) (I2.env0.make C us []) hb2 r2 new) fun r s' hq' => ?_))
  cases r with
  | error er =>
    obtain ⟨_, _, _, _, _, _, _, _, _, _, _, _, z⟩ := hq'
    exact z.elim
  | ok fl =>
    cases fl with
    | ret u =>
      obtain ⟨v, H2, os2, bare2, un2, hok2, rv, ev, d, fs, ea, ed, hd1, q2⟩ := hq'
      subst ev
      obtain ⟨h2, g2, d2, t2, os'⟩ := s'
      exact ⟨rv, mk_end (raises_own K1.exC K1.tyC) I1 sz kk un2 hok2 os2 bare2 ea ed hd1 q2⟩
    | next => exact hq'.elim
    | brk => exact hq'.elim
    | cont => exact hq'.elim
/-- C() of a class without an __init__ -/
theorem pmk_0 (F : ExcBaseFacts B newId initId bm) (q : PySem.W.excIn X.K C bm newId = true) (kC : PySem.W.keepIn X.K (.ref C) = true) (r : Raises X (.ref C)) (hg : Gl X x) (hm : X.mg x = some (.ref C)) (db : (x == ("__debug__" : Str)) = false) :
    PMk X (.Call (.Name x p) [] [] pos) (fun _ H Q => Q (.ref C) none H) := by
  intro pins s σ H Q I h
  refine wpAny_Call_Name_kw (ld_glob I hg hm (PySem.W.callWith_K0 I.kIn kC ?_) db)
  show wpAny _ _ (call (.ref C) []) _ _ _
  obtain ⟨bm', N, nm, qn, bs, hdct, sn, sub, ab, col, dd, k0, k1, k2, k3, k5, mN, hC, hN, hni, T⟩ := exc_obj I.kIn q
  refine wpAny_call_exc_subT F T hC hN hni (fun h' e hx => mk_of I hx r h (I.hok.gone hx.new)) (by rw [sizeLine_eq]; exact Nat.zero_le _)
/-- what the caller sees -/
theorem mk_read {np : Nat} {ns : List Str} {as : E} {vs : List V} {ds fs : List D} {e2 : Env} {G1 H1 : Hp} {a : Addr} {Q : XK} (ha : H1 a = none) (sm : Same G1 H1) (ra : RepA G1 vs ds) (hl : vs.length + 1 = np) (hnd : ns.Nodup) (he : evs cf as (initE ds) = .ok fs e2) (hne : ns ≠ [])
    (k : ∀ d H3 G3 ws, Grow G1 H1 G3 H3 → RepA G3 ws fs → ws.length = ns.length → XdAt G3 ns (some d) ws → Q (.ref C) (some d) H3) : spI cf C ns as np (.ref a :: vs) (upd H1 a (exo a C none))
    (fun v H2 => v = .non ∧ ∃ (d : Addr) (fl : List (Str × V)), H2 a = some (exo a C (some d)) ∧ H2 d = some (exd d fl) ∧ H1 d = none ∧ Q (.ref C) (some d) (upd (del H2 a) d (.xd fl))) (fun _ _ _ => False) := by
  refine ⟨by rw [List.length_cons, hl], a, vs, G1, H1, ds, fs, e2, rfl, rfl, ha, sm, ra, he, fun σ' H' G' ws s hw rw' => ⟨rfl, ?_⟩⟩
  rcases s.st with ⟨z, _⟩ | ⟨dx, z1, z2, z3, z4, z5⟩
  · exfalso
    cases ns with
    | nil => exact hne rfl
    | cons n ns =>
      cases ws with
      | nil => cases hw
      | cons w ws =>
        rw [List.zip_cons_cons, List.reverse_cons] at z
        exact absurd z (by simp)
  · refine ⟨dx, _, z1, z2, z4, k dx _ (upd G' dx (.xd (ns.zip ws).reverse)) ws ⟨fun b o h => ?_, fun b o h => ?_, fun b o h => ?_, fun b o h => ?_, fun b h => ?_⟩ (rw'.mono fun b o h => ?_) hw (.inr ⟨dx, _, rfl, upd_same, fun f => ?_⟩)⟩
    · by_cases hb : b = dx
      · rw [hb, upd_same] at h ⊢
        exact h
      · rw [upd_ne hb] at h ⊢
        rw [del_ne (fun z => by rw [z, s.gp] at h; cases h)]
        exact s.rel.sub b o h
    · have h2 := s.gs b o h
      rw [upd_ne (fun z => by rw [z, z3] at h2; cases h2)]
      exact h2
    · rw [upd_ne (ne_of_none h z4), del_ne (ne_of_none h ha)]
      exact s.fr b o h
    · by_cases hb : b = dx
      · rw [hb]; exact .inr (.inl z4)
      · rw [upd_ne hb] at h
        exact s.nw b o h
    · by_cases hb : b = dx
      · rw [hb]; exact z4
      · rw [upd_ne hb] at h
        by_cases hba : b = a
        · rw [hba]; exact ha
        · rw [del_ne hba] at h
          exact s.al b h
    · rw [upd_ne (fun z => by rw [z, z3] at h; cases h)]
      exact h
    · -- the order of the fields
      have key : ∀ (ns : List Str) (ws : List V), ns.Nodup → ∀ acc : List (Str × V), (∀ g ∈ ns, acc.lookup g = none) → ((ns.zip ws).reverse ++ acc).lookup f = (match (ns.zip ws).lookup f with | some v => some v | none => acc.lookup f) := by
        intro ns
        induction ns with
        | nil => intro ws _ acc _; rfl
        | cons n ns ih =>
          intro ws hn acc ha
          cases ws with
          | nil => rfl
          | cons w ws =>
            rw [List.zip_cons_cons, List.reverse_cons, List.append_assoc]
            have hn2 := List.nodup_cons.mp hn
            rw [show [(n, w)] ++ acc = (n, w) :: acc from rfl, ih ws hn2.2 ((n, w) :: acc) fun g hg => by
              rw [lookup_put, if_neg (fun z => by rw [← z] at hn2; exact hn2.1 hg)]
              exact ha g (List.mem_cons_of_mem _ hg)]
            rw [lookup_put, lookup_put]
            by_cases e : f = n
            · subst e
              rw [if_pos rfl, if_pos rfl]
              cases q : (ns.zip ws).lookup f with
              | none => rfl
              | some v => exact (hn2.1 (lookup_mem q)).elim
            · rw [if_neg e, if_neg e]
      have := key ns ws hnd [] fun _ _ => rfl
      rw [List.append_nil] at this
      rw [this]
      cases (ns.zip ws).lookup f <;> rfl
end
end Ev
end
section
namespace Ev
open PySem PySem.Spec L2
open PyProof.Rows hiding St
variable [KF]
/-! ### raise C(e, ..) -/
/-- what is known of the making of the errors of the class c, by the maker g -/
inductive MkF (P : Program) (w : World) (K : PySem.W.Frag) (mg : Str → Option Value) (base : Heap) (A : Around) (cf : CF) (nm : Str) (c g : Nat) : Prop where
  | ini {B newId initId : String} {bm : List Value} {C fI : Addr} {fd : FuncData} {ps ns : List Str} {as : E} {np k : Nat} {cg : CF} (b : Base B newId initId bm) (K1 : ClI K C bm newId) (iC : PySem.W.findIn K (.ref C) "__init__" = some (some (.ref fI))) (tI : PySem.W.typeIn K (.ref fI) = some (.type "function"))
      (F1 : FnOk P w K mg base (L2.CX P w) k fI fd ps (spI cg C ns as np)) (hr : Room (k + 1) A) (hb : Binds K fd ps []) (hm : mg nm = some (.ref C)) (lt : c < KF.nc) (hc : KF.T.cls c = .ref C) (hf : KF.T.flds c = ns) (nd : ns.Nodup) (ne : ns ≠ []) (h2 : 2 ≤ np) (h9 : np ≤ 900)
      (ev : ∀ ds d o, cf g none ds = .ok d o → ∃ fs e2, d = .tup fs ∧ evs cg as (initE ds) = .ok fs e2 ∧ ds.length + 1 = np) : MkF P w K mg base A cf nm c g
  | zer {B newId initId : String} {bm : List Value} {C : Addr} (F : ExcBaseFacts B newId initId bm) (q : PySem.W.excIn K C bm newId = true) (kC : PySem.W.keepIn K (.ref C) = true) (exC : PySem.W.subIn K (.ref C) (.type "BaseException") = some true) (tyC : PySem.W.typeIn K (.ref C) = some (.type "type"))
      (hm : mg nm = some (.ref C)) (lt : c < KF.nc) (hc : KF.T.cls c = .ref C) (hf : KF.T.flds c = []) (ev : ∀ ds d o, cf g none ds = .ok d o → d = .tup [] ∧ ds = []) : MkF P w K mg base A cf nm c g
  | no {C : Addr} (hm : mg nm = some (.ref C)) (kC : PySem.W.keepIn K (.ref C) = true) (lt : c < KF.nc) (hc : KF.T.cls c = .ref C) (ev : ∀ ds d o, cf g none ds ≠ .ok d o) : MkF P w K mg base A cf nm c g
section
variable {X : Cx} {T : XT} {W : St → XK} {cf : CF} {fr : Bool} {B : Bs} {pos p : Pos} {nm : Str} {c g : Nat} {xs : List Expr} {as : E}
def tMk (T : XT) (W : St → XK) (cf : CF) (c g : Nat) (as : E) : St → Hp → XK → Prop := fun σ H Q => ∃ G e, Rel H G σ e ∧ RnG RepA T W σ e G H (evs cf as e) (fun vs H1 => ∃ G1 ds fs o, Same G1 H1 ∧ RepA G1 vs ds ∧ cf g none ds = .ok (.tup fs) o ∧ ∀ d H3 G3, Grow G1 H1 G3 H3 → ExAt T c fs d G3 H3 → Q (T.cls c) d H3)
theorem pmk_mk (hT : T = KF.T) (m : MkF X.prog X.w X.K X.mg X.base X.A cf nm c g) (hg : Gl X nm) (db : (nm == ("__debug__" : Str)) = false) (h : SEs X T W cf xs as) (hz : KF.T.flds c = [] → xs = []) : PMk X (.Call (.Name nm p) xs [] pos) (tMk T W cf c g as) := by
  intro pins s σ H Q I ⟨G, e, r, q⟩
  cases m with
  | @ini B0 newId initId bm C fI fd ps ns asI np k cg b K1 iC tI F1 hr hb hm lt hc hf nd ne h2 h9 ev =>
    cases h with
    | nil =>
      exfalso
      have q : RnG RepA T W σ e G H (.ok [] e) _ := q
      obtain ⟨G1, ds, fs, o, sm, ra, hcf, k⟩ := q.here r .nil
      obtain ⟨fs', e2, _, _, hl⟩ := ev _ _ _ hcf
      cases ra
      simp at hl
      omega
    | @cons x1 xs1 a1 as1 hs1 ha1 hp1 ht1 =>
      have h := SEs.cons hs1 ha1 hp1 ht1
      refine pmk_I b K1 iC tI F1 hr hb hg hm (sa_of h) db (star_cons hs1 _ _) (back_lc ht1) pins s σ H Q I ⟨G, e, r, ?_⟩
      have up : ∀ (r0 : R (List D)), RnG RepA T W σ e G H r0 (fun vs H1 => ∃ G1 ds fs o, Same G1 H1 ∧ RepA G1 vs ds ∧ cf g none ds = .ok (.tup fs) o ∧ ∀ d H3 G3, Grow G1 H1 G3 H3 → ExAt T c fs d G3 H3 → Q (T.cls c) d H3) → RnG RepA T W σ e G H r0 (fun vs H1 => vs.length ≤ 1000 ∧ ∀ a, H1 a = none → spI cg C ns asI np (.ref a :: (vs ++ [])) (upd H1 a (exo a C none)) (fun v H2 => v = .non ∧ ∃ (d : Addr) (fs : List (Str × V)), H2 a = some (exo a C (some d)) ∧ H2 d = some (exd d fs) ∧ H1 d = none ∧ Q (.ref C) (some d) (upd (del H2 a) d (.xd fs))) (fun _ _ _ => False)) := by
        intro r0 q0
        cases r0 with
        | no => exact q0
        | ex c' fs' e' => exact q0
        | ok ds0 e1 =>
          intro vs H1 G1 r1 s1 q1
          obtain ⟨G2, ds, fs, o, sm, ra, hcf, kk⟩ := q0 vs H1 G1 r1 s1 q1
          obtain ⟨fs', e2, hfs, he, hl⟩ := ev _ _ _ hcf
          cases hfs
          refine ⟨by rw [ra.length]; omega, fun a ha => ?_⟩
          rw [List.append_nil]
          refine mk_read ha sm ra (by rw [ra.length]; exact hl) nd he ne fun d H3 G3 ws gr rw' hw xa => ?_
          subst hT
          have z := kk (some d) H3 G3 gr ⟨lt, by rw [hf, ← hw, rw'.length], ws, rw', by rw [hf]; exact xa⟩
          rw [hc] at z
          exact z
      exact up _ q
  | @zer B0 newId initId bm C F qq kC exC tyC hm lt hc hf ev =>
    cases h with
    | nil =>
      refine pmk_0 F qq kC (raises_own exC tyC) hg hm db pins s σ H Q I ?_
      have q : RnG RepA T W σ e G H (.ok [] e) _ := q
      obtain ⟨G1, ds, fs, o, sm, ra, hcf, k⟩ := q.here r .nil
      obtain ⟨z1, z2⟩ := ev _ _ _ hcf
      cases z1
      subst hT
      have z := k none H G1 ⟨sm, Same.refl _, fun _ _ h => h, fun _ _ h => .inl h, fun _ h => h⟩ ⟨lt, by rw [hf]; rfl, [], .nil, .inl ⟨rfl, rfl⟩⟩
      rw [hc] at z
      exact z
    | @cons x1 xs1 a1 as1 hs1 ha1 hp1 ht1 => exact nomatch hz hf
  | @no C hm kC lt hc ev =>
    cases h with
    | nil =>
      have q : RnG RepA T W σ e G H (.ok [] e) _ := q
      obtain ⟨G1, ds, fs, o, sm, ra, hcf, k⟩ := q.here r .nil
      exact (ev _ _ _ hcf).elim
    | @cons x1 xs1 a1 as1 hs1 ha1 hp1 ht1 =>
      have h := SEs.cons hs1 ha1 hp1 ht1
      refine wpAny_Call_Name_kw (ld_glob I hg hm (PySem.W.callWith_K (h₀ := X.base) I.ok.mod.kin kC (thn ((sa_of h).run pos pins s σ H (fun _ _ => False) I ⟨G, e, r, ?_⟩) fun us s1 ⟨vs, H1, I1, r1, z⟩ => z.elim) (star_cons hs1 _ _) (back_lc ht1)) db)
      cases hq : evs cf (.cons a1 as1) e with
      | no => rw [hq] at q; exact q
      | ex c' fs' e' => rw [hq] at q; exact q
      | ok ds0 e1 =>
        rw [hq] at q
        intro vs H1 G1 r1 s1 q1
        obtain ⟨G2, ds, fs, o, sm, ra, hcf, kk⟩ := q vs H1 G1 r1 s1 q1
        exact ev _ _ _ hcf
theorem sx_rais {pos2 : Pos} (hcm : X.calm = true) (hT : T = KF.T) (tk : Takes X (fun cls d σ H => W σ cls d H)) (m : MkF X.prog X.w X.K X.mg X.base X.A cf nm c g) (hg : Gl X nm) (db : (nm == ("__debug__" : Str)) = false) (h : SEs X T W cf xs as) (hz : KF.T.flds c = [] → xs = []) :
    PS X (.Raise (some (.Call (.Name nm p) xs [] pos)) none pos2) (tX T W cf fr B (.rais c g as)) := by
  refine wkS (ps_raise hcm tk (pmk_mk hT m hg db h hz)) fun D σ H ⟨G, e, r, q⟩ => ?_
  have q : RnS T W fr B G ((evs cf as e).thn fun ds e => match cf g none ds with
    | .ok (.tup fs) _ => .exn c fs e
    | _ => .no) D := q
  refine ⟨G, e, r.rel, RnS.bind (P := RepA) r q fun ds e1 vs H1 G1 _ r1 s1 q1 h1 => ?_⟩
  cases hcf : cf g none ds with
  | no => rw [hcf] at h1; exact h1.elim
  | ex c' fs' o' => rw [hcf] at h1; exact h1.elim
  | ok d o =>
    rw [hcf] at h1
    cases d with
    | tup fs =>
      have h1 : RnS T W fr B G1 (.exn c fs e1) D := h1
      refine ⟨G1, ds, fs, o, r1.rel.sub, q1, hcf, fun d H3 G3 gr xa => ?_⟩
      obtain ⟨r3, s3⟩ := gr.rel r1.rel
      exact h1 d σ H3 G3 (r1.step r3 s3) s3.gs xa
    | _ => exact h1.elim
end
end Ev
end
section
namespace Ev
open PySem PySem.Spec L2
open PyProof.Rows hiding St
variable [KF]
/-! ### dict([(key, value), ..]), the keys tuples of numbers -/
/-- the keys' kind, each key at a place of its own -/
def pinK {prog : Program} {w : World} (B : HeapKind prog w (List L2.Key)) (F : List L2.Key → Addr → Prop) : HeapKind prog w (List L2.Key) where
  is := fun h k a => B.is h k a ∧ F k a
  hash := B.hash
  draws := B.draws
  room := B.room
  inj := fun a b => B.inj a.1 b.1
  keeps := fun a b c d => ⟨B.keeps a.1 b c d, a.2⟩
  pyHash := fun a b c => B.pyHash a b.1 c
  eqBool := fun a b c d => B.eqBool a b.1 c.1 d
  quiet := fun a b => B.quiet a.1 b
theorem pinK_stays {prog : Program} {w : World} {B : HeapKind prog w (List L2.Key)} {F : List L2.Key → Addr → Prop} (h : B.Stays) : (pinK B F).Stays := ⟨fun k a => ⟨h.stays k a.1, a.2⟩, fun a => h.tuple a.1⟩
/-- a pair of the argument: its place, the key, the key's place, the value -/
structure Ent where
  t : Addr
  k : List Int
  b : Addr
  v : V
  u : Value
  d : D
structure EntOk (P : Program) (w : World) (G H : Hp) (h : Heap) (x : Ent) : Prop where
  at_ : PairAt h x.t (.ref x.b) x.u
  hb : H x.b = some (.tup ((keyOf x.k).map kV))
  is : (tupleKind (mixKind P w)).is h (keyOf x.k) x.b
  rv : RelV x.v x.u
  rd : Rep G x.v x.d
theorem ents {P : Program} {w : World} {G H : Hp} {h : Heap} (hok : HOk P w H h) (sm : Same G H) : ∀ {xs : List D} {ws : List V} {its : List Value} {Pl : List (List Int × D)}, RepA G ws xs → Vals ws its → pairs? xs = some Pl → ∃ L : List Ent, Pl = L.map (fun x => (x.k, x.d)) ∧ its = L.map (fun x => Value.ref x.t) ∧ ∀ x ∈ L, EntOk P w G H h x
  | [], _, _, Pl, .nil, r, q => by
    cases r
    cases q
    exact ⟨[], rfl, rfl, fun _ z => nomatch z⟩
  | d :: xs, _, _, Pl, .cons rd ra, r, q => by
    cases r with
    | @cons v0 u0 vs0 us0 rv0 r =>
    unfold pairs? at q
    split at q
    · next e0 => cases e0
    · next ys d0 r0 e0 =>
      cases e0
      rw [Option.bind_eq_some_iff] at q
      obtain ⟨k, h1, h2⟩ := q
      rw [Option.map_eq_some_iff] at h2
      obtain ⟨Pr, h3, rfl⟩ := h2
      obtain ⟨L, g1, g2, g3⟩ := ents hok sm ra r h3
      cases rd with
      | @tup t vs _ ht hT =>
        obtain rfl : u0 = Value.ref t := rv0
        cases hT with
        | @cons vk vs1 _ _ rk hT =>
        cases hT with
        | @cons vv vs2 _ _ rvv hT =>
        cases hT
        cases rk with
        | @tup b us _ hb hB =>
          obtain ⟨_, it2, rr, tt⟩ := (show ObjOk P w H h t (.tup [.ref b, vv]) from hok t _ (sm _ _ ht))
          obtain ⟨_, it3, rk, tk⟩ := (show ObjOk P w H h b (.tup us) from hok b _ (sm _ _ hb))
          cases rr with
          | @cons _ ub _ us2 rb rr =>
          cases rr with
          | @cons _ uv _ us3 ruv rr =>
          cases rr
          obtain rfl : ub = Value.ref b := rb
          have hus : us = (keyOf k).map kV := by rw [hB.ints h1, keyOf_kV]
          refine ⟨⟨t, k, b, vv, uv, d0⟩ :: L, by rw [g1]; rfl, by rw [g2]; rfl, fun x hx => ?_⟩
          rcases List.mem_cons.mp hx with rfl | hx
          · refine ⟨.inl tt, by rw [← hus]; exact sm _ _ hb, ?_, ruv, rvv⟩
            obtain ⟨o, o1, o2, n, o3⟩ := tk
            refine ⟨o, _, n, o1, o2, o3, ?_⟩
            rw [hus] at rk
            exact items_are rk
          · exact g3 x hx
    · cases q
theorem stored_rel {k : List L2.Key} {v : V} {u : Value} (r : RelV v u) {A : List (List L2.Key × V)} {B : List (List L2.Key × Value)} (h : Paired (fun p q => p.1 = q.1 ∧ RelV p.2 q.2) A B) : Paired (fun p q => p.1 = q.1 ∧ RelV p.2 q.2) (putK A k v) (stored B k u) := by
  have ha : ∀ {A : List (List L2.Key × V)} {B : List (List L2.Key × Value)}, Paired (fun p q => p.1 = q.1 ∧ RelV p.2 q.2) A B → (A.any fun p => decide (p.1 = k)) = B.any fun p => decide (p.1 = k) := fun h => by
    induction h with
    | nil => rfl
    | cons h1 _ ih => rw [List.any_cons, List.any_cons, ih, h1.1]
  have h1 : Paired (fun p q => p.1 = q.1 ∧ RelV p.2 q.2) (A.map fun kv => if kv.1 = k then (kv.1, v) else kv) (B.map fun kv => if kv.1 = k then (kv.1, u) else kv) := by
    clear ha
    induction h with
    | nil => exact .nil
    | @cons a b _ _ h1 _ ih =>
      rw [List.map_cons, List.map_cons]
      refine .cons ?_ ih
      by_cases e : b.1 = k
      · rw [if_pos e, if_pos (h1.1.trans e)]
        exact ⟨h1.1, r⟩
      · rw [if_neg e, if_neg fun z => e (h1.1.symm.trans z)]
        exact h1
  have h2 : Paired (fun p q => p.1 = q.1 ∧ RelV p.2 q.2) (A ++ [(k, v)]) (B ++ [(k, u)]) := by
    clear ha h1
    induction h with
    | nil => exact .cons ⟨rfl, r⟩ .nil
    | cons h1 _ ih => exact .cons h1 ih
  unfold putK stored
  rw [ha h]
  split
  · exact h1
  · exact h2
theorem merge_rel {P : Program} {w : World} {G H : Hp} {h : Heap} : ∀ (L : List Ent), (∀ x ∈ L, EntOk P w G H h x) → ∀ (a : List (List Int × D)) (A : List (List L2.Key × V)) (B : List (List L2.Key × Value)), KR G a A → Paired (fun p q => p.1 = q.1 ∧ RelV p.2 q.2) A B →
    ∃ A', KR G ((L.map fun x => (x.k, x.d)).foldl (fun acc p => dputP acc p.1 p.2) a) A' ∧ Paired (fun p q => p.1 = q.1 ∧ RelV p.2 q.2) A' ((L.map fun x => (keyOf x.k, x.u)).foldl (fun acc p => stored acc p.1 p.2) B) ∧ A'.length ≤ A.length + L.length
  | [], _, a, A, B, h1, h2 => ⟨A, h1, h2, by simp⟩
  | x :: L, hx, a, A, B, h1, h2 => by
    have e := hx x List.mem_cons_self
    obtain ⟨A', g1, g2, g3⟩ := merge_rel L (fun y hy => hx y (List.mem_cons_of_mem _ hy)) (dputP a x.k x.d) (putK A (keyOf x.k) x.v) (stored B (keyOf x.k) x.u) (h1.put e.rd) (stored_rel e.rv h2)
    refine ⟨A', g1, g2, ?_⟩
    have : (putK A (keyOf x.k) x.v).length ≤ A.length + 1 := by
      unfold putK
      split
      · rw [List.length_map]; omega
      · rw [List.length_append]; exact Nat.le_refl _
    rw [List.length_cons]
    omega
theorem paired_get {α β : Type} {F : α → β → Prop} : ∀ {l : List α} {m : List β} {γ : Type} {f : γ → β} {n : List γ} {R : α → γ → Prop}, Paired F l m → m = n.map f → (∀ a c, c ∈ n → F a (f c) → R a c) → Paired R l n
  | _, _, _, f, [], _, .nil, _, _ => .nil
  | _, _, _, f, [], _, .cons _ _, e, _ => by cases e
  | _, _, _, f, c :: n, _, .nil, e, _ => by cases e
  | _, _, _, f, c :: n, _, .cons h t, e, k => by
    rw [List.map_cons] at e
    injection e with e1 e2
    subst e1
    exact .cons (k _ _ List.mem_cons_self h) (paired_get t e2 fun a c' hc => k a c' (List.mem_cons_of_mem _ hc))
section
variable {X : Cx} {T : XT} {W : St → XK} {cf : CF} {x : Expr} {a : E} {pos : Pos}
theorem call_dictT (hc : X.calm = true) (hu : X.A.units + 66 < cLine) : CallR X (.type "dict") (fun vs H Q => ∃ (G : Hp) (v : V) (xs : List D) (P : List (List Int × D)), vs = [v] ∧ Same G H ∧ Rep G v (.lst xs) ∧ pairs? xs = some P ∧ xs.length ≤ 1000 ∧ ∀ p Q', H p = none → KR G (mergeP P) Q' → Q (.ref p) (upd H p (.dT Q'))) := by
  intro pins s σ H vs us Q I rv h
  obtain ⟨G, v, xs, P, rfl, sm, hr, hP, hl, q⟩ := h
  cases hr with
  | @lst l ws _ hg hA =>
  cases rv with
  | @cons _ u _ us' r1 r2 =>
  cases r2
  obtain rfl : u = Value.ref l := r1
  obtain ⟨_, its, n, rits, hobj⟩ := (show ObjOk X.prog X.w H s.heap l (.lst ws) from I.hok l _ (sm _ _ hg))
  obtain ⟨L, e1, e2, e3⟩ := ents I.hok sm hA rits hP
  have hlen : L.length ≤ 1000 := by
    have := congrArg List.length e2
    rw [List.length_map, ← Paired.length rits, hA.length] at this
    omega
  have hsz := sizeLine_eq
  let F : List L2.Key → Addr → Prop := fun k b => H b = some (.tup (k.map kV))
  let ps : List (Value × Value) := L.map fun x => (Value.ref x.b, x.u)
  let Ts : Nat → Addr := fun i => ((L.map (·.t))[i]?).getD 0
  have psl : ps.length = L.length := List.length_map ..
  have pget : ∀ (j : Nat) (k v : Value), ps[j]? = some (k, v) → ∃ x, L[j]? = some x ∧ x ∈ L ∧ k = .ref x.b ∧ v = x.u := fun j k v hj => by
    rw [List.getElem?_map, Option.map_eq_some_iff] at hj
    obtain ⟨x, h1, h2⟩ := hj
    cases h2
    exact ⟨x, h1, List.mem_of_getElem? h1, rfl, rfl⟩
  refine dict_keyed (knd := pinK (tupleKind (mixKind X.prog X.w)) F) (kvs := L.map fun x => (keyOf x.k, x.u)) (pinK_stays tupleKind_stays) (PairArg.list l its.toArray Ts ps) (I.ok.hd hc) (show X.A.units + 2 < cLine by omega) ⟨⟨_, n, hobj, rfl, rfl, rfl⟩, ?_, fun j k v hj => ?_⟩ ⟨L.map fun x => (keyOf x.k, x.b, x.u), ?_, ⟨?_, fun i k v hi => ?_⟩, fun x hx => ?_⟩ ?_ ?_ ?_
  · show its.length = ps.length
    rw [e2, psl, List.length_map]
  · obtain ⟨x, h1, h2, rfl, rfl⟩ := pget j k v hj
    have ht : Ts j = x.t := by
      show ((L.map (·.t))[j]?).getD 0 = x.t
      rw [List.getElem?_map, h1]
      rfl
    rw [ht]
    refine ⟨?_, (e3 x h2).at_⟩
    rw [List.getElem?_toArray, e2, List.getElem?_map, h1]
    rfl
  · show (L.map fun x => (keyOf x.k, x.b, x.u)).map _ = _
    rw [List.map_map]
    rfl
  · rw [List.length_map, psl]
  · obtain ⟨x, h1, h2, rfl, rfl⟩ := pget i k v hi
    exact ⟨keyOf x.k, x.b, by rw [List.getElem?_map, h1]; rfl, rfl⟩
  · obtain ⟨y, hy, rfl⟩ := List.mem_map.mp hx
    exact ⟨(e3 y hy).is, (e3 y hy).hb⟩
  · rintro h' hk k b ⟨⟨o, items, m, z1, z2, z3, z4⟩, zF⟩
    exact ⟨⟨o, items, m, hk _ _ (fun z => nomatch z) z1, z2, z3, z4⟩, zF⟩
  · rw [psl]; omega
  · rintro h' tk ⟨xs', ⟨o, es, ep, o1, o2, o3, o4, o5, o6⟩, hxs⟩ hk
    obtain ⟨A', g1, g2, g3⟩ := merge_rel (G := G) (H := H) (h := s.heap) L e3 [] [] [] .nil .nil
    have hk' : ∀ b o, s.heap.get? b = some o → h'.get? b = some o := fun b o => hk b o (fun z => nomatch z)
    have fresh : H s.heap.objs.size = none := I.hok.fresh (Nat.le_refl _)
    have two : 1 < s.heap.objs.size := by
      obtain ⟨m, ⟨ol, _, _, hol, _⟩, _⟩ := I.loc
      have a1 := Heap.lt_size hol
      have a2 := Heap.lt_size hobj
      have a3 : l ≠ X.env.locals := fun z => by
        have := I.free
        rw [← z, sm _ _ hg] at this
        cases this
      have key : ∀ a b n : Nat, a ≠ b → a < n → b < n → 1 < n := fun a b n h1 h2 h3 => by omega
      exact key _ _ _ a3 a2 a1
    refine ⟨.ref s.heap.objs.size, upd H s.heap.objs.size (.dT A'), I.laid hk' (Nat.le_refl _) ?_, rfl, q _ A' fresh ?_⟩
    · refine (show A'.length ≤ sizeLine ∧ (s.heap.objs.size == sysModules) = false ∧ ∃ ys, Paired (fun p q => p.1 = q.1 ∧ upd H s.heap.objs.size (.dT A') q.2.1 = some (.tup (p.1.map kV)) ∧ RelV p.2 q.2.2) A' ys ∧ ∃ o es ep, h'.get? s.heap.objs.size = some o ∧ o.ExactDict ∧ o.data = .dict es ep ∧ es.toList = ys.map (entryOfKey (tupleKind (mixKind X.prog X.w))) ∧ (ys.map fun x => x.1).Nodup from ⟨?_, ?_, xs', ?_, o, es, ep, o1, o2, o3, o4, o6⟩)
      · have : A'.length ≤ 0 + L.length := g3
        omega
      · have : s.heap.objs.size ≠ sysModules := fun z => by
          have z2 : s.heap.objs.size = 1 := z
          omega
        simpa using this
      · refine paired_get g2 (f := fun x : List L2.Key × Addr × Value => (x.1, x.2.2)) hxs.symm fun p c hc hh => ⟨hh.1, ?_, hh.2⟩
        have hF : H c.2.1 = some (.tup (c.1.map kV)) := (o5 c hc).2
        rw [upd_ne (ne_of_none hF fresh), hF]
        rw [show p.1 = c.1 from hh.1]
    · rw [e1]
      exact g1
theorem Rn.newD {σ : St} {e : Env} {G H : Hp} {Q : VK} {P : List (List Int × D)} {Q' : List (List L2.Key × V)} {p : Addr} (h : Rn T W σ e G H (.ok (.dic (P.map (·.1)) (P.map (·.2))) e) true Q) (r : Rel H G σ e) (q : KR G P Q') (hp : H p = none) : Q (.ref p) (upd H p (.dT Q')) := by
  obtain ⟨r1, s1, n1⟩ := r.own (o := .dT Q') hp
  obtain ⟨h1, h2, h3⟩ := q.out
  exact h _ _ _ r1 s1 ⟨p, Q'.map (·.2), .d (P.map (·.1)) (P.map (·.2)), rfl, rfl, hp, upd_same.trans (congrArg (fun z => some (HO.dT z)) h1.symm), r.free hp, ⟨h2, h3⟩, n1⟩
theorem sr_dct (hc : X.calm = true) (hu : X.A.units + 66 < cLine) (hg : Gl X "dict") (hm : X.mg "dict" = none) {p : Pos} (hs : starless x = true) (ha : PE X x (tV T W cf a)) : PE X (.Call (.Name "dict" p) [x] [] pos) (tEv T W cf true (.dct a)) :=
  wkE (pe_callTy (call_dictT hc hu) hg hm (by decide +kernel) (pa_cons ha pa_nil (star_cons hs _ _)) (by decide +kernel) (by decide +kernel) (star_cons hs _ _) rfl) fun σ H Q ⟨G, e, r, q⟩ => ⟨G, e, r, Rn.bindR q fun d e1 v H1 G1 _ r1 s1 q1 h1 => by
    cases d with
    | lst xs =>
      cases hp : pairs? xs with
      | none =>
        have h1 : Rn T W σ e1 G1 H1 ((lift (pairs? xs) e1).bind fun kvs e => if xs.length ≤ 1000 then .ok (.dic ((mergeP kvs).map (·.1)) ((mergeP kvs).map (·.2))) e else .no) true Q := h1
        rw [hp] at h1
        exact h1.elim
      | some P =>
        have h1 : Rn T W σ e1 G1 H1 ((lift (pairs? xs) e1).bind fun kvs e => if xs.length ≤ 1000 then .ok (.dic ((mergeP kvs).map (·.1)) ((mergeP kvs).map (·.2))) e else .no) true Q := h1
        rw [hp] at h1
        have h1 : Rn T W σ e1 G1 H1 (if xs.length ≤ 1000 then .ok (.dic ((mergeP P).map (·.1)) ((mergeP P).map (·.2))) e1 else .no) true Q := h1
        split at h1
        · next hl => exact ⟨G1, v, xs, P, rfl, r1.sub, q1, hp, hl, fun p Q' hp0 kr => h1.newD r1 kr hp0⟩
        · exact h1.elim
    | _ => exact h1.elim⟩
/-- a list and a list, a new one -/
theorem sr_ladd {y : Expr} {b : E} (ha : PE X x (tV T W cf a)) (hb : PE X y (tV T W cf b)) : PE X (.BinOp x .Add y pos) (tEv T W cf true (.ladd a b)) :=
  wkE (pe_op op_cat ha hb) fun σ H Q ⟨G, e, r, q⟩ => ⟨G, e, r, Rn.bindR q fun d e1 v H1 G1 _ r1 s1 q1 h1 => ⟨G1, e1, r1, Rn.bindR h1 fun d2 e2 u H2 G2 _ r2 s2 q2 h2 => by
    cases q1.mono s2.gs with
    | @lst p1 vs xs g1 g2 =>
      cases q2 with
      | @lst p2 us ys g3 g4 =>
        have h2 : Rn T W σ e2 G2 H2 (if xs.length + ys.length ≤ sizeLine then .ok (.lst (xs ++ ys)) e2 else .no) true Q := h2
        split at h2
        · next hl => exact ⟨p1, p2, vs, us, rfl, rfl, r2.sub _ _ g1, r2.sub _ _ g3, by rw [g2.length, g4.length]; exact hl, fun p hp => h2.newF r2 (g2.append g4) hp⟩
        · exact h2.elim
      | _ => exact h2.elim
    | _ => exact h2.elim⟩⟩
end
end Ev
end
section
namespace Ev
open PySem PySem.Spec L2
open PyProof.Rows hiding St
variable [KF]
def opIn (neg : Bool) : CmpOp := if neg then .NotIn else .In
section
variable {X : Cx} {T : XT} {W : St → XK} {cf : CF} {x y z : Expr} {a b c : E} {pos p p2 : Pos}
theorem boot_rng : bootBuiltins ("range" : Str) = some (.type "range") := by decide +kernel
def inR (neg : Bool) (l i h : Int) : Bool := if neg then !decide (l ≤ i ∧ i < h) else decide (l ≤ i ∧ i < h)
def inr2K (cf : CF) (neg : Bool) (a b c : E) (e : Env) : R Bool := (ev cf a e).bind fun x e => (ev cf b e).bind fun z e => (ev cf c e).bind fun y e => match x, z, y with
    | .int i, .int l, .int h => .ok (inR neg l i h) e
    | _, _, _ => .no
def inr1K (cf : CF) (neg : Bool) (a c : E) (e : Env) : R Bool := (ev cf a e).bind fun x e => (ev cf c e).bind fun y e => match x, y with
    | .int i, .int h => .ok (inR neg 0 i h) e
    | _, _ => .no
theorem bind_assoc {α β γ : Type} (r : R α) (f : α → Env → R β) (g : β → Env → R γ) : (r.bind f).bind g = r.bind fun x e => (f x e).bind g := by cases r <;> rfl
theorem bind_congr {α β : Type} (r : R α) {f g : α → Env → R β} (h : ∀ x e, f x e = g x e) : r.bind f = r.bind g := by
  cases r with
  | ok x e => exact h x e
  | _ => rfl
theorem inr2_v {neg : Bool} {e : Env} : ev cf (.inr2 neg a b c) e = (inr2K cf neg a b c e).bind fun k e => .ok (.bl k) e := by
  unfold inr2K
  rw [bind_assoc]
  refine bind_congr _ fun x e => ?_
  rw [bind_assoc]
  refine bind_congr _ fun z e => ?_
  rw [bind_assoc]
  refine bind_congr _ fun y e => ?_
  cases x <;> try rfl
  cases z <;> try rfl
  cases y <;> rfl
theorem inr1_v {neg : Bool} {e : Env} : ev cf (.inr1 neg a c) e = (inr1K cf neg a c e).bind fun k e => .ok (.bl k) e := by
  unfold inr1K
  rw [bind_assoc]
  refine bind_congr _ fun x e => ?_
  rw [bind_assoc]
  refine bind_congr _ fun y e => ?_
  cases x <;> try rfl
  cases y <;> rfl
theorem bl_t {e : Env} (r : R Bool) : ((r.bind fun k e => .ok (D.bl k) e).bind fun x e => lift (truthy x) e) = r.bind fun k e => .ok k e := by
  rw [bind_assoc]
  exact bind_congr _ fun _ _ => rfl
def rRng2 : List V → Hp → VK → Prop := fun vs H Q => ∃ i j, vs = [V.int i, V.int j] ∧ ∀ p, H p = none → Q (.ref p) (upd H p (.rng i j))
/-- what both readings ask -/
theorem inr2_read {neg : Bool} {σ : St} {H : Hp} {G : Hp} {e : Env} {Qk : Bool → Hp → Prop} (r : Rel H G σ e) (q : RnG IsK T W σ e G H (inr2K cf neg a b c e) Qk) :
    tV T W cf a σ H fun v H1 => tV T W cf b σ H1 fun u1 H2 => tV T W cf c σ H2 fun u2 H3 => ∃ l h, [u1, u2] = [V.int l, V.int h] ∧ ∀ p, H3 p = none → ∃ i a lo hi, v = V.int i ∧ V.ref p = V.ref a ∧ upd H3 p (.rng l h) a = some (.rng lo hi) ∧ Qk (inR neg lo i hi) (upd H3 p (.rng l h)) :=
  ⟨G, e, r, RnG.bind q fun d e1 v H1 G1 _ r1 s1 q1 h1 => ⟨G1, e1, r1, RnG.bind h1 fun d2 e2 u1 H2 G2 _ r2 s2 q2 h2 => ⟨G2, e2, r2, RnG.bind h2 fun d3 e3 u2 H3 G3 _ r3 s3 q3 h3 => by
    cases q1 with
    | int i =>
      cases q2 with
      | int l =>
        cases q3 with
        | int h =>
          have h3 : RnG IsK T W σ e3 G3 H3 (.ok (inR neg l i h) e3) Qk := h3
          refine ⟨l, h, rfl, fun p hp => ⟨i, p, l, h, rfl, rfl, upd_same, ?_⟩⟩
          obtain ⟨r4, s4⟩ := r3.lay (o := .rng l h) hp
          exact (h3.after s4).here r4 rfl
        | _ => exact h3.elim
      | _ => exact h3.elim
    | _ => exact h3.elim⟩⟩⟩
theorem inr1_read {neg : Bool} {σ : St} {H : Hp} {G : Hp} {e : Env} {Qk : Bool → Hp → Prop} (r : Rel H G σ e) (q : RnG IsK T W σ e G H (inr1K cf neg a c e) Qk) :
    tV T W cf a σ H fun v H1 => tV T W cf c σ H1 fun u2 H3 => ∃ h, [u2] = [V.int h] ∧ ∀ p, H3 p = none → ∃ i a lo hi, v = V.int i ∧ V.ref p = V.ref a ∧ upd H3 p (.rng 0 h) a = some (.rng lo hi) ∧ Qk (inR neg lo i hi) (upd H3 p (.rng 0 h)) :=
  ⟨G, e, r, RnG.bind q fun d e1 v H1 G1 _ r1 s1 q1 h1 => ⟨G1, e1, r1, RnG.bind h1 fun d3 e3 u2 H3 G3 _ r3 s3 q3 h3 => by
    cases q1 with
    | int i =>
      cases q3 with
      | int h =>
        have h3 : RnG IsK T W σ e3 G3 H3 (.ok (inR neg 0 i h) e3) Qk := h3
        refine ⟨h, rfl, fun p hp => ⟨i, p, 0, h, rfl, rfl, upd_same, ?_⟩⟩
        obtain ⟨r4, s4⟩ := r3.lay (o := .rng 0 h) hp
        exact (h3.after s4).here r4 rfl
      | _ => exact h3.elim
    | _ => exact h3.elim⟩⟩
theorem no_mark {neg : Bool} {es : List Expr} : behindInMarks (opIn neg) (.Call (.Name "range" p) es [] p2) = false := by cases neg <;> rfl
theorem sv_inr2 {neg : Bool} (hg : Gl X "range") (hm : X.mg "range" = none) (hs : starless y = true) (hs2 : starless z = true) (ha : PE X x (tV T W cf a)) (hb : PE X y (tV T W cf b)) (hc : PE X z (tV T W cf c)) : PE X (.Compare x [opIn neg] [.Call (.Name "range" p) [y, z] [] p2] pos) (tV T W cf (.inr2 neg a b c)) :=
  wkE (pe_cmpR (op_nin_rng neg) ha (pe_callTy cr_range2 hg hm boot_rng (pa_cons hb (pa_cons hc pa_nil (star_cons hs2 _ _)) (star_cons hs _ _)) (by decide) (by decide) (star_cons hs _ _) (by rw [star_cons hs2]; rfl)) no_mark) fun σ H Q ⟨G, e, r, q⟩ =>
    inr2_read (Qk := fun k H => Q (.bl k) H) r (by
      rw [inr2_v] at q
      refine RnG.bind q fun k e1 w H1 G1 _ r1 s1 q1 h1 => ?_
      cases q1
      exact h1.here r1 (.bl k))
theorem st_inr2 {neg : Bool} (hg : Gl X "range") (hm : X.mg "range" = none) (hs : starless y = true) (hs2 : starless z = true) (ha : PE X x (tV T W cf a)) (hb : PE X y (tV T W cf b)) (hc : PE X z (tV T W cf c)) : PT X (.Compare x [opIn neg] [.Call (.Name "range" p) [y, z] [] p2] pos) (tT T W cf (.inr2 neg a b c)) :=
  wkT (pt_cmpR (op_nin_rng neg) ha (pe_callTy cr_range2 hg hm boot_rng (pa_cons hb (pa_cons hc pa_nil (star_cons hs2 _ _)) (star_cons hs _ _)) (by decide) (by decide) (star_cons hs _ _) (by rw [star_cons hs2]; rfl)) no_mark) fun σ H Q ⟨G, e, r, q⟩ =>
    inr2_read (Qk := fun k H => ∃ k', V.bl k = .bl k' ∧ Q k' H) r (by
      rw [inr2_v, bl_t (e := e)] at q
      refine RnG.bind q fun k e1 w H1 G1 _ r1 s1 q1 h1 => ?_
      cases q1
      exact ⟨k, rfl, h1.here r1 rfl⟩)
theorem sv_inr1 {neg : Bool} (hg : Gl X "range") (hm : X.mg "range" = none) (hs2 : starless z = true) (ha : PE X x (tV T W cf a)) (hc : PE X z (tV T W cf c)) : PE X (.Compare x [opIn neg] [.Call (.Name "range" p) [z] [] p2] pos) (tV T W cf (.inr1 neg a c)) :=
  wkE (pe_cmpR (op_nin_rng neg) ha (pe_callTy cr_range1 hg hm boot_rng (pa_cons hc pa_nil (star_cons hs2 _ _)) (by decide) (by decide) (star_cons hs2 _ _) rfl) no_mark) fun σ H Q ⟨G, e, r, q⟩ =>
    inr1_read (Qk := fun k H => Q (.bl k) H) r (by
      rw [inr1_v] at q
      refine RnG.bind q fun k e1 w H1 G1 _ r1 s1 q1 h1 => ?_
      cases q1
      exact h1.here r1 (.bl k))
theorem st_inr1 {neg : Bool} (hg : Gl X "range") (hm : X.mg "range" = none) (hs2 : starless z = true) (ha : PE X x (tV T W cf a)) (hc : PE X z (tV T W cf c)) : PT X (.Compare x [opIn neg] [.Call (.Name "range" p) [z] [] p2] pos) (tT T W cf (.inr1 neg a c)) :=
  wkT (pt_cmpR (op_nin_rng neg) ha (pe_callTy cr_range1 hg hm boot_rng (pa_cons hc pa_nil (star_cons hs2 _ _)) (by decide) (by decide) (star_cons hs2 _ _) rfl) no_mark) fun σ H Q ⟨G, e, r, q⟩ =>
    inr1_read (Qk := fun k H => ∃ k', V.bl k = .bl k' ∧ Q k' H) r (by
      rw [inr1_v, bl_t (e := e)] at q
      refine RnG.bind q fun k e1 w H1 G1 _ r1 s1 q1 h1 => ?_
      cases q1
      exact ⟨k, rfl, h1.here r1 rfl⟩)
theorem RnG.wk {α β : Type} {P : Hp → β → α → Prop} {σ : St} {e : Env} {G H : Hp} {r : R α} {Q Q' : β → Hp → Prop} (h : RnG P T W σ e G H r Q) (k : ∀ v H, Q v H → Q' v H) : RnG P T W σ e G H r Q' := by
  cases r with
  | ok d e' => exact fun v H' G' r s p => k v H' (h v H' G' r s p)
  | _ => exact h
/-- min, max of two -/
def mmN (mx : Bool) : Str := if mx then "max" else "min"
theorem sv_mm {mx : Bool} (hcm : X.calm = true) (hg : Gl X (mmN mx)) (hm : X.mg (mmN mx) = none) (hs : starless x = true) (hs2 : starless y = true) (ha : PE X x (tV T W cf a)) (hb : PE X y (tV T W cf b)) : PE X (.Call (.Name (mmN mx) p) [x, y] [] pos) (tV T W cf (.mm mx a b)) := by
  have rd : ∀ (σ : St) (H : Hp) (Q : VK), tV T W cf (.mm mx a b) σ H Q → tV T W cf a σ H fun v H1 => tV T W cf b σ H1 fun u H2 => ∃ i j, v = .int i ∧ u = .int j ∧ Q (.int (if mx then (if j > i then j else i) else if j < i then j else i)) H2 := fun σ H Q ⟨G, e, r, q⟩ => ⟨G, e, r, RnG.bind q fun d e1 v H1 G1 _ r1 s1 q1 h1 => ⟨G1, e1, r1, RnG.bind h1 fun d2 e2 u H2 G2 _ r2 s2 q2 h2 => by
    cases q1 with
    | int i =>
      cases q2 with
      | int j => exact ⟨i, j, rfl, rfl, h2.here r2 (.int _)⟩
      | _ => exact h2.elim
    | _ => exact h2.elim⟩⟩
  cases mx with
  | true =>
    refine wkE (pe_callB (call_max2 hcm) hg hm PyProof.Rows.boot_max (pa_cons ha (pa_cons hb pa_nil (star_cons hs2 _ _)) (star_cons hs _ _)) (by decide) (by decide) (star_cons hs _ _) (by rw [star_cons hs2]; rfl)) fun σ H Q q => ?_
    obtain ⟨G, e, r, q⟩ := rd σ H Q q
    exact ⟨G, e, r, q.wk fun v H1 ⟨G1, e1, r1, q1⟩ => ⟨G1, e1, r1, q1.wk fun u H2 ⟨i, j, e1, e2, q2⟩ => ⟨i, j, by rw [e1, e2], q2⟩⟩⟩
  | false =>
    refine wkE (pe_callB (call_min2 hcm) hg hm PyProof.Rows.boot_min (pa_cons ha (pa_cons hb pa_nil (star_cons hs2 _ _)) (star_cons hs _ _)) (by decide) (by decide) (star_cons hs _ _) (by rw [star_cons hs2]; rfl)) fun σ H Q q => ?_
    obtain ⟨G, e, r, q⟩ := rd σ H Q q
    exact ⟨G, e, r, q.wk fun v H1 ⟨G1, e1, r1, q1⟩ => ⟨G1, e1, r1, q1.wk fun u H2 ⟨i, j, e1, e2, q2⟩ => ⟨i, j, by rw [e1, e2], q2⟩⟩⟩
end
end Ev
end
section
namespace Ev
open PySem PySem.Spec L2
open PyProof.Rows hiding St
/-! ### sorting -/
theorem insI_perm (n : Int) : ∀ l : List Int, (insI n l).Perm (n :: l)
  | [] => .refl _
  | m :: r => by
    unfold insI
    split
    · exact .refl _
    · exact ((insI_perm n r).cons m).trans (.swap n m r)
theorem sortI_perm : ∀ l : List Int, (sortI l).Perm l
  | [] => .refl _
  | n :: r => (insI_perm n _).trans ((sortI_perm r).cons n)
theorem insI_pw (n : Int) : ∀ l : List Int, l.Pairwise (· ≤ ·) → (insI n l).Pairwise (· ≤ ·)
  | [], _ => List.pairwise_singleton _ _
  | m :: r, h => by
    unfold insI
    rw [List.pairwise_cons] at h
    split
    · next hc =>
      refine List.pairwise_cons.mpr ⟨fun y hy => ?_, List.pairwise_cons.mpr h⟩
      rcases List.mem_cons.mp hy with rfl | hy
      · exact hc
      · exact Int.le_trans hc (h.1 y hy)
    · next hc =>
      refine List.pairwise_cons.mpr ⟨fun y hy => ?_, insI_pw n r h.2⟩
      rcases List.mem_cons.mp ((insI_perm n r).mem_iff.mp hy) with rfl | hy
      · omega
      · exact h.1 y hy
theorem sortI_pw : ∀ l : List Int, (sortI l).Pairwise (· ≤ ·)
  | [] => .nil
  | n :: r => insI_pw n _ (sortI_pw r)
theorem sortI_of {ns ms : List Int} (h : ms.Perm ns) (p : ms.Pairwise (· ≤ ·)) : ms = sortI ns :=
  List.Perm.eq_of_pairwise (fun a b _ _ h1 h2 => Int.le_antisymm h1 h2) p (sortI_pw ns) (h.trans (sortI_perm ns).symm)
theorem two_is {k : List Int} (h : two k = true) : ∃ a b, k = [a, b] ∧ 0 ≤ a ∧ 0 ≤ b := by
  unfold two at h
  split at h
  · rw [Bool.and_eq_true, decide_eq_true_eq, decide_eq_true_eq] at h
    exact ⟨_, _, rfl, h.1, h.2⟩
  · cases h
theorem leK_two {a b c d : Int} : leK [a, b] [c, d] = true ↔ a < c ∨ (a = c ∧ b ≤ d) := by
  simp [leK]
theorem insK_perm (k : List Int) : ∀ l : List (List Int), (insK k l).Perm (k :: l)
  | [] => .refl _
  | m :: r => by
    unfold insK
    split
    · exact .refl _
    · exact ((insK_perm k r).cons m).trans (.swap k m r)
theorem sortK_perm : ∀ l : List (List Int), (sortK l).Perm l
  | [] => .refl _
  | n :: r => (insK_perm n _).trans ((sortK_perm r).cons n)
theorem insK_pw {k : List Int} (hk : two k = true) : ∀ l : List (List Int), l.all two = true → l.Pairwise (fun a b => leK a b = true) → (insK k l).Pairwise (fun a b => leK a b = true)
  | [], _, _ => List.pairwise_singleton _ _
  | m :: r, ha, h => by
    unfold insK
    rw [List.pairwise_cons] at h
    rw [List.all_cons, Bool.and_eq_true] at ha
    obtain ⟨a, b, rfl, _, _⟩ := two_is hk
    obtain ⟨c, d, rfl, _, _⟩ := two_is ha.1
    split
    · next hc =>
      refine List.pairwise_cons.mpr ⟨fun y hy => ?_, List.pairwise_cons.mpr h⟩
      rcases List.mem_cons.mp hy with rfl | hy
      · exact hc
      · have h2 := h.1 y hy
        obtain ⟨e, f, rfl, _, _⟩ := two_is (List.all_eq_true.mp ha.2 y hy)
        rw [leK_two] at hc h2 ⊢
        omega
    · next hc =>
      refine List.pairwise_cons.mpr ⟨fun y hy => ?_, insK_pw hk r ha.2 h.2⟩
      rcases List.mem_cons.mp ((insK_perm _ r).mem_iff.mp hy) with rfl | hy
      · rw [leK_two] at hc ⊢
        omega
      · exact h.1 y hy
theorem all_perm {l m : List (List Int)} (h : l.Perm m) (ha : m.all two = true) : l.all two = true := by
  rw [List.all_eq_true] at ha ⊢
  exact fun x hx => ha x (h.mem_iff.mp hx)
theorem sortK_pw : ∀ l : List (List Int), l.all two = true → (sortK l).Pairwise (fun a b => leK a b = true)
  | [], _ => .nil
  | n :: r, ha => by
    rw [List.all_cons, Bool.and_eq_true] at ha
    exact insK_pw ha.1 _ (all_perm (sortK_perm r) ha.2) (sortK_pw r ha.2)
theorem sortK_of {ks ms : List (List Int)} (ha : ks.all two = true) (h : ms.Perm ks) (p : ms.Pairwise (fun a b => leK a b = true)) : ms = sortK ks := by
  refine List.Perm.eq_of_pairwise (fun a b h1 h2 h3 h4 => ?_) p (sortK_pw ks ha) (h.trans (sortK_perm ks).symm)
  obtain ⟨x, y, rfl, _, _⟩ := two_is (List.all_eq_true.mp ha a (h.mem_iff.mp h1))
  obtain ⟨z, w, rfl, _, _⟩ := two_is (List.all_eq_true.mp ha b ((sortK_perm ks).mem_iff.mp h2))
  rw [leK_two] at h3 h4
  have e1 : x = z := by omega
  have e2 : y = w := by omega
  rw [e1, e2]
theorem some_bd : ∀ ks : List (List Int), ks.all two = true → ∃ B : Int, ∀ k ∈ ks, TS.Bd B k
  | [], _ => ⟨0, fun _ h => nomatch h⟩
  | k :: ks, h => by
    rw [List.all_cons, Bool.and_eq_true] at h
    obtain ⟨B, hB⟩ := some_bd ks h.2
    obtain ⟨a, b, rfl, h1, h2⟩ := two_is h.1
    refine ⟨max B (a + b + 1), fun k hk m hm => ?_⟩
    rcases List.mem_cons.mp hk with rfl | hk
    · simp at hm
      omega
    · have := hB k hk m hm
      omega
variable [KF]
/-! ### sorted(d), the keys tuples of two numbers -/
theorem sorted_raw {P : Program} {w : World} {A : Around} {E : Value → Shared → Prop} {s : Shared} {d : Addr} {es : Array DictEntry} {ep : Nat} {B : Int} {Q : Value → Shared → Prop} (hh : A.handled = none) (hd : (d == sysModules) = false) (ok : s.heap.DictRaw d es ep) (hs : es.size < 64)
    (hT : ∀ (i : Nat) (hi : i < es.size), ∃ ns, TS.TupInts s.heap es[i].key ns ∧ ns.length = 2 ∧ TS.Bd B ns)
    (h : ∀ (h' : Heap) (tk : Nat) (p : Addr) (acc : List Value) (out : Array Value) (c : Nat), (∀ b o, s.heap.get? b = some o → h'.get? b = some o) → s.heap.get? p = none → h'.get? p = some (seqObj "list" out c) → acc.length = es.size → (∀ (j : Nat) (v : Value), acc[j]? = some v → ∃ hi : j < es.size, v = es[j].key) → out.toList.Perm acc →
      List.Pairwise (fun u v => TS.code B (TS.intsOf s.heap u) ≤ TS.code B (TS.intsOf s.heap v)) out.toList → Q (.ref p) { heap := h', gens := s.gens, drawn := s.drawn, toks := tk, os := s.os }) :
    wpAny (model P w) A (call (.builtin "sorted") [.ref d]) Q E s := by
  have hsz := sizeLine_eq
  refine call_function_tree kind_sorted plain_sorted entry_sorted (args_sorted1 _) ?_
  unfold Builtin.sorted
  refine wpAny_bind ?_
  refine wpAny_mono (Q := fun _ s' => s' = s) ?_ ?_ (fun _ _ z => z)
  · unfold checkCount
    repeat (first | wp_step | rfl)
  · rintro _ s_1 rfl
    refine wpAny_bind (PySem.W.kdu_collect (KdlSrc.rawDict hd) (show A.in1.handled = none from hh) ok (by omega) fun h' tk acc keep items => ?_)
    refine wpAny_bind (wpAny_newList (hsz := by rw [Array.length_toList, items.1]; omega) ?_)
    refine wpAny_bind ?_
    have n0 : s_1.heap.get? h'.objs.size = none := by
      cases z : s_1.heap.get? h'.objs.size with
      | none => rfl
      | some o => exact (Nat.lt_irrefl _ (Heap.lt_size (keep _ _ z))).elim
    have hat : (h'.push ({ cls := .type "list", data := .seq acc.toList.toArray } : Obj)).get? h'.objs.size = some (seqObj "list" acc.toList.toArray 0) := by heap_get
    have kk : ∀ b o, s_1.heap.get? b = some o → (h'.push ({ cls := .type "list", data := .seq acc.toList.toArray } : Obj)).get? b = some o := fun b o q => Heap.get?_push_of_some _ (keep b o q)
    have ai : ∀ (j : Nat) (v : Value), acc.toList[j]? = some v → ∃ hi : j < es.size, v = es[j].key := fun j v q => items.2 j v (by rw [← Array.getElem?_toList]; exact q)
    have al : acc.toList.length = es.size := by rw [Array.length_toList, items.1]
    refine Calls.wpAny_keep (TS.call_sort_tups (d := 2) (B := B) hat (by rw [al]; exact hs) (by decide) (fun v hv => ?_) fun out hp hw => ?_)
    · obtain ⟨j, hj⟩ := List.getElem?_of_mem hv
      obtain ⟨hi, rfl⟩ := ai j v hj
      obtain ⟨ns, ⟨b, xs, e1, ⟨o, o1, o2⟩, e3⟩, e4, e5⟩ := hT j hi
      exact ⟨ns, ⟨b, xs, e1, ⟨o, kk _ _ o1, o2⟩, e3⟩, e4, e5⟩
    · obtain ⟨c, hc⟩ := sortedHeap_at (out := out) hat
      refine wpAny_pure ?_
      refine h _ tk _ acc.toList out c (fun b o q => ?_) n0 hc al ai hp ?_
      · have lt : b < h'.objs.size := Heap.lt_size (keep b o q)
        rw [sortedHeap_old (by intro z; rw [z] at lt; exact Nat.lt_irrefl _ lt) (Heap.lt_size (kk b o q))]
        exact kk b o q
      · refine List.Pairwise.imp_of_mem (fun {u v} hu hv q => ?_) hw
        have e : ∀ u ∈ out.toList, TS.intsOf (h'.push ({ cls := .type "list", data := .seq acc.toList.toArray } : Obj)) u = TS.intsOf s_1.heap u := fun u hu => by
          obtain ⟨j, hj⟩ := List.getElem?_of_mem (hp.mem_iff.mp hu)
          obtain ⟨hi, rfl⟩ := ai j u hj
          obtain ⟨ns, ⟨b, xs, e1, ⟨o, o1, o2⟩, e3⟩, e4, e5⟩ := hT j hi
          rw [e1, TS.intsOf.eq_1, TS.intsOf.eq_1, o1, kk _ _ o1]
        rw [← e u hu, ← e v hv]
        exact q
section
variable {X : Cx} {T : XT} {W : St → XK} {cf : CF} {x y z : Expr} {xs : List Expr} {a b c as : E} {pos : Pos}
theorem tups_at {P : Program} {w : World} {H : Hp} {h : Heap} {k : List Int} {b : Addr} (ok : HOk P w H h) (e : H b = some (.tup (k.map V.int))) : TS.TupInts h (.ref b) k := by
  obtain ⟨_, its, r, o, h1, h2, n, h3⟩ := (show ObjOk P w H h b (.tup (k.map V.int)) from ok b _ e)
  exact ⟨b, its.toArray, rfl, ⟨o, h1, h2, n, h3⟩, by simpa using r.ints⟩
theorem kt_keys {H : Hp} {ks : List (List Int)} : ∀ {vs : List V} {xs : List (List L2.Key × Addr × Value)}, ks.length = vs.length → KT H ((ks.map fun k => k.map Sum.inl).zip vs) xs → Paired (fun k b => H b = some (.tup (k.map V.int))) ks (xs.map fun x => x.2.1) := by
  induction ks with
  | nil =>
    intro vs xs hl h
    cases h
    exact .nil
  | cons k ks ih =>
    intro vs xs hl h
    cases vs with
    | nil => cases hl
    | cons v vs =>
      have h : KT H ((keyOf k, v) :: (ks.map fun k => k.map Sum.inl).zip vs) xs := h
      cases h with
      | cons h1 h2 =>
        refine .cons ?_ (ih (by simpa using hl) h2)
        rw [← keyOf_kV]
        exact h1.2.1
theorem Paired.atj {α β : Type} {F : α → β → Prop} : ∀ {l : List α} {m : List β}, Paired F l m → ∀ {j : Nat} {b : β}, m[j]? = some b → ∃ a, l[j]? = some a ∧ F a b
  | _, _, .nil, j, b, h => by simp at h
  | _, _, .cons h t, 0, b, hb => by simp at hb; subst hb; exact ⟨_, rfl, h⟩
  | _, _, .cons h t, j + 1, b, hb => by
    obtain ⟨a, h1, h2⟩ := Paired.atj t (j := j) (by simpa using hb)
    exact ⟨a, by simpa using h1, h2⟩
theorem paired_zip {α β : Type} {F : α → β → Prop} : ∀ {l : List α} {m : List β}, Paired F l m → ∀ p ∈ l.zip m, F p.1 p.2
  | _, _, .nil, p, h => by cases h
  | _, _, .cons h t, p, hp => by
    rw [List.zip_cons_cons] at hp
    rcases List.mem_cons.mp hp with rfl | hp
    · exact h
    · exact paired_zip t p hp
theorem paired_of {α β : Type} {F : α → β → Prop} : ∀ {L : List (α × β)}, (∀ p ∈ L, F p.1 p.2) → Paired F (L.map (·.1)) (L.map (·.2))
  | [], _ => .nil
  | p :: L, h => .cons (h p List.mem_cons_self) (paired_of fun q hq => h q (List.mem_cons_of_mem _ hq))
theorem call_sortD (hc : X.calm = true) : CallR X (.builtin "sorted") (fun vs H Q => ∃ (d : Addr) (ks : List (List Int)) (ws : List V), vs = [V.ref d] ∧ Rd H d (.dT ((ks.map fun k => k.map Sum.inl).zip ws)) ∧ ks.length = ws.length ∧ ks.length < 64 ∧ ks.all two = true ∧
    ∀ p bs, H p = none → Paired (fun k b => H b = some (.tup (k.map V.int))) (sortK ks) bs → Q (.ref p) (upd H p (.lst (bs.map V.ref)))) := by
  intro pins s σ H vs us Q I r h
  obtain ⟨d, ks, ws, rfl, hd, hl, h64, h2, q⟩ := h
  obtain ⟨u, rfl, rx⟩ := r.one
  cases rx
  obtain ⟨z, hs, xs, pr, o, es, ep, ho, hx, hdt, he, hn⟩ := (show ObjOk X.prog X.w H s.heap d (.dT _) from hd.ok I.hok)
  have l1 : es.size = xs.length := size_of_entries he
  have pk := kt_keys hl pr
  have l2 : ks.length = xs.length := by have := Paired.length pk; rw [List.length_map] at this; exact this
  obtain ⟨B, hB⟩ := some_bd ks h2
  have key : ∀ (i : Nat) (hi : i < es.size), ∃ k b, ks[i]? = some k ∧ (xs.map fun x => x.2.1)[i]? = some b ∧ es[i].key = .ref b ∧ H b = some (.tup (k.map V.int)) := fun i hi => by
    have qe := entry_at he i
    rw [Array.getElem?_eq_getElem hi] at qe
    have hi2 : i < xs.length := by omega
    rw [List.getElem?_eq_getElem hi2] at qe
    have qe : es[i] = entryOfKey (tupleKind (mixKind X.prog X.w)) xs[i] := Option.some.inj qe
    have hb : (xs.map fun x => x.2.1)[i]? = some xs[i].2.1 := by rw [List.getElem?_map, List.getElem?_eq_getElem hi2]; rfl
    obtain ⟨k, k1, k2⟩ := Paired.atj pk hb
    exact ⟨k, _, k1, hb, by rw [qe]; rfl, k2⟩
  refine sorted_raw (B := B) (I.ok.hd hc) hs ⟨o, ho, hx, hdt⟩ (by omega) (fun i hi => ?_) fun h' tk p acc out c keep n0 hp al ai perm pw => ?_
  · obtain ⟨k, b, k1, _, k3, k4⟩ := key i hi
    have hk : k ∈ ks := List.mem_of_getElem? k1
    obtain ⟨x, y, rfl, _, _⟩ := two_is (List.all_eq_true.mp h2 k hk)
    exact ⟨_, by rw [k3]; exact tups_at I.hok k4, rfl, hB _ hk⟩
  · have ea : acc = (ks.zip (xs.map fun x => x.2.1)).map fun q => Value.ref q.2 := by
      have e0 : (ks.zip (xs.map fun x => x.2.1)).map (fun q => Value.ref q.2) = (xs.map fun x => x.2.1).map Value.ref := by
        show (ks.zip (xs.map fun x => x.2.1)).map (Value.ref ∘ Prod.snd) = _
        rw [← List.map_map, List.map_snd_zip (by rw [List.length_map, l2]; exact Nat.le_refl _)]
      rw [e0]
      apply List.ext_getElem?
      intro j
      cases hj : acc[j]? with
      | none =>
        have h1 := List.getElem?_eq_none_iff.mp hj
        rw [List.getElem?_eq_none]
        rw [List.length_map, List.length_map]
        omega
      | some v =>
        obtain ⟨hi, e1⟩ := ai j v hj
        obtain ⟨k, b, _, k2, k3, _⟩ := key j hi
        rw [List.getElem?_map, k2, e1, k3]
        rfl
    rw [ea] at perm
    obtain ⟨L, p1, p2⟩ := perm_lift _ perm _ rfl
    have all : ∀ q ∈ L, H q.2 = some (.tup (q.1.map V.int)) := fun q hq => paired_zip pk q (p1.mem_iff.mp hq)
    have pw2 : (L.map (·.1)).Pairwise (fun a b => leK a b = true) := by
      rw [← p2, List.pairwise_map] at pw
      rw [List.pairwise_map]
      refine List.Pairwise.imp_of_mem (fun {u v} hu hv hw => ?_) pw
      rw [(tups_at I.hok (all u hu)).ints, (tups_at I.hok (all v hv)).ints] at hw
      have mu : u.1 ∈ ks := (List.of_mem_zip (p1.mem_iff.mp hu)).1
      have mv : v.1 ∈ ks := (List.of_mem_zip (p1.mem_iff.mp hv)).1
      obtain ⟨a1, b1, e1, _, _⟩ := two_is (List.all_eq_true.mp h2 _ mu)
      obtain ⟨a2, b2, e2, _, _⟩ := two_is (List.all_eq_true.mp h2 _ mv)
      have g1 := hB _ mu
      have g2 := hB _ mv
      rw [e1] at hw g1 ⊢
      rw [e2] at hw g2 ⊢
      rw [leK_two]
      exact code_lex g1 g2 hw
    have es_ : L.map (·.1) = sortK ks := by
      refine sortK_of h2 ?_ pw2
      have := p1.map (·.1)
      rw [List.map_fst_zip (by rw [List.length_map, l2]; exact Nat.le_refl _)] at this
      exact this
    have hlen : ((L.map (·.2)).map V.ref).length ≤ sizeLine := by
      have := congrArg List.length es_
      rw [List.length_map, (sortK_perm ks).length_eq] at this
      have hsz := sizeLine_eq
      rw [List.length_map, List.length_map]
      omega
    have eo : out.toList = (L.map (·.2)).map Value.ref := by rw [← p2, List.map_map]; rfl
    have hn := I.hok.gone n0
    refine ⟨.ref p, _, I.laidN (t' := tk) (o := .lst ((L.map (·.2)).map V.ref)) keep n0 hn ?_, rfl, q p (L.map (·.2)) hn ?_⟩
    · exact ⟨hlen, out.toList, c, by rw [eo]; exact vals_refs _, hp⟩
    · rw [← es_]
      exact paired_of all
/-- what a new list of key tuples leaves -/
theorem Rn.newK {σ : St} {e : Env} {G H : Hp} {Q : VK} {ks : List (List Int)} {bs : List Addr} {p : Addr} (h : Rn T W σ e G H (.ok (.lst (ks.map tupK)) e) true Q) (r : Rel H G σ e) (pk : Paired (fun k b => H b = some (.tup (k.map V.int))) ks bs) (hp : H p = none) : Q (.ref p) (upd H p (.lst (bs.map V.ref))) := by
  let G' : Hp := fun b => if b ∈ bs then H b else G b
  have gs : Same G G' := fun b o hb => by
    show (if b ∈ bs then H b else G b) = some o
    split
    · exact r.sub b o hb
    · exact hb
  have tupB : ∀ b ∈ bs, ∃ k : List Int, H b = some (.tup (k.map V.int)) := fun b hb => by
    obtain ⟨j, hj⟩ := List.getElem?_of_mem hb
    obtain ⟨k, _, k2⟩ := Paired.atj pk hj
    exact ⟨k, k2⟩
  have sub : Same G' H := fun b o hb => by
    have hb : (if b ∈ bs then H b else G b) = some o := hb
    split at hb
    · exact hb
    · exact r.sub b o hb
  have r1 : Rel H G' σ e := ⟨sub, r.len, fun i d q => by
      obtain ⟨v, q1, q2⟩ := r.va i d q
      exact ⟨v, q1, q2.mono gs⟩, fun i ds q => (by
      obtain ⟨a, us, q1, q2, q3, q4⟩ := r.ow i ds q
      refine ⟨a, us, q1, q2, ?_, q4.mono gs⟩
      show (if a ∈ bs then H a else G a) = none
      rw [if_neg fun z => ?_]
      · exact q3
      · obtain ⟨k, hk⟩ := tupB a z
        rw [hk] at q2
        cases ds <;> (cases q2; done)), r.dis⟩
  have s1 : Stp σ e G H e G' H := ⟨gs, fun b o hb _ => hb, fun b o hb => by
      have hb : (if b ∈ bs then H b else G b) = some o := hb
      split at hb
      · next hm =>
        obtain ⟨k, hk⟩ := tupB b hm
        rw [hk] at hb
        cases hb
        exact .inr (.inr (.inr ⟨_, rfl, hk⟩))
      · exact .inl hb, fun b hb => hb, fun _ hb => hb⟩
  have ra : ∀ {ks : List (List Int)} {cs : List Addr}, Paired (fun k b => H b = some (.tup (k.map V.int))) ks cs → (∀ b ∈ cs, b ∈ bs) → RepA G' (cs.map V.ref) (ks.map tupK) := fun {ks cs} h => by
    induction h with
    | nil => exact fun _ => .nil
    | @cons k b ks cs h1 _ ih =>
      intro hm
      refine .cons (.tup (vs := k.map V.int) ?_ ?_) (ih fun b hb => hm b (List.mem_cons_of_mem _ hb))
      · show (if b ∈ bs then H b else G b) = _
        rw [if_pos (hm b List.mem_cons_self)]
        exact h1
      · clear h1 ih hm
        induction k with
        | nil => exact .nil
        | cons n k ih2 => exact .cons (.int n) ih2
  obtain ⟨r2, s2, n2⟩ := r1.own (o := .lst (bs.map V.ref)) hp
  exact h _ _ _ r2 (s1.trans s2) ⟨p, bs.map V.ref, .l (ks.map tupK), rfl, rfl, hp, upd_same, r1.free hp, ra pk fun _ hb => hb, n2⟩
end
end Ev
end
section
namespace Ev
open PySem PySem.Spec L2
open PyProof.Rows hiding St
variable [KF]
section
variable {X : Cx} {T : XT} {W : St → XK} {cf : CF} {x y z : Expr} {xs : List Expr} {a b c as : E} {pos : Pos}
theorem Rn.liftR {fr : Bool} {σ : St} {e : Env} {G H : Hp} {Q : VK} {o : Option D} (h : Rn T W σ e G H (lift o e) fr Q) : ∃ y, o = some y ∧ Rn T W σ e G H (.ok y e) fr Q := by
  cases o with
  | none => exact h.elim
  | some y => exact ⟨y, rfl, h⟩
theorem rep_intsV {G : Hp} : ∀ ns : List Int, RepA G (ns.map V.int) (ns.map D.int)
  | [] => .nil
  | n :: ns => .cons (.int n) (rep_intsV ns)
theorem srt_lst {σ : St} {e : Env} {G H : Hp} {Q : VK} {p : Addr} {vs : List V} {ds : List D} {K : PySem.W.Frag} (r : Rel H G σ e) (hl : H p = some (.lst vs)) (hA : RepA G vs ds) (h : Rn T W σ e G H (lift (srtD (.lst ds)) e) true Q) : rSortedI K [.ref p] H Q := by
  obtain ⟨y, hy, h⟩ := h.liftR
  have hy : (ints? ds).map (fun ns => D.lst ((sortI ns).map .int)) = some y := hy
  rw [Option.map_eq_some_iff] at hy
  obtain ⟨ns, h1, rfl⟩ := hy
  have e1 := hA.ints h1
  subst e1
  refine ⟨p, ns, rfl, .inl (.inl hl), fun ns' q hp hs hq => ?_⟩
  rw [sortI_of hp hs]
  exact h.newF r (rep_intsV _) hq
def rSrtD : List V → Hp → VK → Prop := fun vs H Q => ∃ (d : Addr) (ks : List (List Int)) (ws : List V), vs = [V.ref d] ∧ Rd H d (.dT ((ks.map fun k => k.map Sum.inl).zip ws)) ∧ ks.length = ws.length ∧ ks.length < 64 ∧ ks.all two = true ∧
    ∀ p bs, H p = none → Paired (fun k b => H b = some (.tup (k.map V.int))) (sortK ks) bs → Q (.ref p) (upd H p (.lst (bs.map V.ref)))
theorem srt_dic {σ : St} {e : Env} {G H : Hp} {Q : VK} {p : Addr} {ks : List (List Int)} {ws : List V} {ds : List D} (r : Rel H G σ e) (hd : Rd H p (.dT ((ks.map fun k => k.map Sum.inl).zip ws))) (hl : ks.length = ws.length) (h : Rn T W σ e G H (lift (srtD (.dic ks ds)) e) true Q) : rSrtD [.ref p] H Q := by
  obtain ⟨y, hy, h⟩ := h.liftR
  have hy : (if decide (ks.length < 64) && ks.all two then some (D.lst ((sortK ks).map tupK)) else none) = some y := hy
  split at hy
  · next hc =>
    rw [Bool.and_eq_true, decide_eq_true_eq] at hc
    cases hy
    exact ⟨p, ks, ws, rfl, hd, hl, hc.1, hc.2, fun q bs hq pk => h.newK r pk hq⟩
  · cases hy
theorem boot_sorted' : bootBuiltins ("sorted" : Str) = some (.builtin "sorted") := by decide +kernel
theorem pe_sortI (hg : Gl X "sorted") (hm : X.mg "sorted" = none) {p : Pos} {t : TE} (hs : starless x = true) (ha : PE X x t) : PE X (.Call (.Name "sorted" p) [x] [] pos) (fun σ H Q => t σ H fun v H1 => rSortedI X.K [v] H1 Q) :=
  wkE (pe_callB cr_sortedI hg hm boot_sorted' (pa_cons ha pa_nil (star_cons hs _ _)) (by decide) (by decide) (star_cons hs _ _) rfl) fun σ H Q q => q
theorem pe_sortD (hc : X.calm = true) (hg : Gl X "sorted") (hm : X.mg "sorted" = none) {p : Pos} {t : TE} (hs : starless x = true) (ha : PE X x t) : PE X (.Call (.Name "sorted" p) [x] [] pos) (fun σ H Q => t σ H fun v H1 => rSrtD [v] H1 Q) :=
  wkE (pe_callB (call_sortD hc) hg hm boot_sorted' (pa_cons ha pa_nil (star_cons hs _ _)) (by decide) (by decide) (star_cons hs _ _) rfl) fun σ H Q q => q
theorem sr_srt (hc : X.calm = true) (hg : Gl X "sorted") (hm : X.mg "sorted" = none) {p : Pos} (hs : starless x = true) (ha : PE X x (tV T W cf a)) : PE X (.Call (.Name "sorted" p) [x] [] pos) (tEv T W cf true (.srt a)) :=
  wkE (orE (pe_sortI hg hm hs ha) (pe_sortD hc hg hm hs ha)) fun σ H Q ⟨G, e, r, q⟩ => by
    have q : Rn T W σ e G H ((ev cf a e).bind fun x e => lift (srtD x) e) true Q := q
    by_cases hd : ∃ ks xs e', ev cf a e = .ok (.dic ks xs) e'
    · obtain ⟨ks, xs, e0, he⟩ := hd
      refine .inr ⟨G, e, r, Rn.bindR q fun d e1 v H1 G1 eq r1 s1 q1 h1 => ?_⟩
      rw [he] at eq
      cases eq
      cases q1 with
      | dic hg hl hA => exact srt_dic r1 (.inl (r1.sub _ _ hg)) hl h1
    · refine .inl ⟨G, e, r, Rn.bindR q fun d e1 v H1 G1 eq r1 s1 q1 h1 => ?_⟩
      have q1 : Rep G1 v d := q1
      cases q1 with
      | lst ha hA => exact srt_lst r1 (r1.sub _ _ ha) hA h1
      | dic _ _ _ => exact (hd ⟨_, _, _, eq⟩).elim
      | _ => exact h1.elim
theorem sr_srto {i : Nat} {n : Str} {np : Pos} (hc : X.calm = true) (hg : Gl X "sorted") (hm : X.mg "sorted" = none) {p : Pos} (hN : X.N[i]? = some n) (hv : Vis X.env.scope n) (hd : (n == ("__debug__" : Str)) = false) (hcd : (n == ("__classdict__" : Str)) = false) :
    PE X (.Call (.Name "sorted" p) [.Name n np] [] pos) (tEv T W cf true (.srto i)) :=
  wkE (orE (pe_sortI hg hm rfl (pe_var (X := X) hN hv hd hcd)) (pe_sortD hc hg hm rfl (pe_var (X := X) hN hv hd hcd))) fun σ H Q ⟨G, e, r, q⟩ => by
    have q : Rn T W σ e G H ((lift (rdS (getS e i)) e).bind fun x e => lift (srtD x) e) true Q := q
    cases hs : getS e i with
    | em => rw [hs] at q; exact q.elim
    | va d =>
      rw [hs] at q
      have q : Rn T W σ e G H (lift (srtD d) e) true Q := q
      obtain ⟨v, h1, h2⟩ := r.va i d (getS_some hs (fun z => nomatch z))
      cases h2 with
      | lst ha hA => exact .inl ⟨_, h1, srt_lst r (r.sub _ _ ha) hA q⟩
      | dic hg hl hA => exact .inr ⟨_, h1, srt_dic r (.inl (r.sub _ _ hg)) hl q⟩
      | _ => exact q.elim
    | ow w =>
      rw [hs] at q
      obtain ⟨p2, vs, h1, h2, h3, h4⟩ := r.ow i w (getS_some hs (fun z => nomatch z))
      cases w with
      | l ds => exact .inl ⟨_, h1, srt_lst (ds := ds) r h2 h4 q⟩
      | d ks ds => exact .inr ⟨_, h1, srt_dic (ds := ds) r (.inl h2) h4.1 q⟩
/-- what a dict tells of a key -/
theorem dget_opt {G : Hp} {q : List Int} : ∀ {ks : List (List Int)} {vs : List V} {ds : List D}, RepA G vs ds → ks.length = vs.length → (∃ v z, valV ((ks.map fun k => k.map Sum.inl).zip vs) (keyOf q) = some v ∧ dget ks ds q = some z ∧ Rep G v z) ∨ (valV ((ks.map fun k => k.map Sum.inl).zip vs) (keyOf q) = none ∧ dget ks ds q = none)
  | [], _, _, _, _ => .inr ⟨rfl, rfl⟩
  | k :: ks, _, _, .nil, hl => by cases hl
  | k :: ks, v :: vs, d :: ds, .cons r ra, hl => by
    rw [List.length_cons, List.length_cons, Nat.add_right_cancel_iff] at hl
    have e0 : dget (k :: ks) (d :: ds) q = ((((k, d) :: ks.zip ds).find? fun p => decide (p.1 = q)).map (·.2)) := rfl
    have e1 : valV (((k :: ks).map fun k => k.map Sum.inl).zip (v :: vs)) (keyOf q) = valV ((k.map Sum.inl, v) :: (ks.map fun k => k.map Sum.inl).zip vs) (keyOf q) := rfl
    rw [e0, e1]
    by_cases hk : k = q
    · rw [List.find?_cons_of_pos (by exact decide_eq_true hk), valV_pos (by rw [hk])]
      exact .inl ⟨v, d, rfl, rfl, r⟩
    · rw [List.find?_cons_of_neg (by simpa using hk), valV_neg (fun z => hk (keyOf_inj z))]
      exact dget_opt ra hl
theorem dat {H G : Hp} {a : Addr} {u : V} {vs : List V} {ks : List (List Int)} {ys : List D} {k : List Int} (sm : Same G H) (h : Rd H a (.dT ((ks.map fun k => k.map Sum.inl).zip vs))) (hk : Rep G u (.tup ys)) (h1 : ints? ys = some k) : DGet H a u (valV ((ks.map fun k => k.map Sum.inl).zip vs) (keyOf k)) := by
  cases hk with
  | @tup b us _ hb hB => exact .inr ⟨_, keyOf k, b, h, rfl, by rw [sm _ _ hb, hB.ints h1, keyOf_kV], rfl⟩
/-- d.get(k, z), d a name -/
theorem sv_dget {i : Nat} {n : Str} {np apos cpos : Pos} (hu : X.A.units + 66 < cLine) (hN : X.N[i]? = some n) (hv : Vis X.env.scope n) (hd : (n == ("__debug__" : Str)) = false) (hcd : (n == ("__classdict__" : Str)) = false) (hl : (apos.endLine == cpos.line) = true) (hs1 : starless y = true) (hs2 : starless z = true)
    (hb : PE X y (tV T W cf b)) (hcc : PE X z (tV T W cf c)) : PE X (.Call (.Attribute (.Name n np) "get" apos) [y, z] [] cpos) (tV T W cf (.dget i b c)) := by
  have e1 : starEach [y, z] X.env = [(false, PySem.eval y X.env), (false, PySem.eval z X.env)] := by
    rw [star_cons hs1, star_cons hs2]
    rfl
  refine wkE (pe_dget2 (by omega) (pe_var (X := X) hN hv hd hcd) hb hcc ⟨rfl, by rw [e1]; rfl, hl, by rw [e1]; rfl⟩) fun σ H Q ⟨G, e, r, q⟩ => ?_
  have q : RnG Rep T W σ e G H (if isDc (getS e i) = true then (ev cf b e).bind fun y e => (ev cf c e).bind fun z e => (lift (dicS (getS e i)) e).bind fun q e => match y with
    | .tup ys => lift ((ints? ys).map fun k => (dget q.1 q.2 k).getD z) e
    | _ => .no else .no) Q := q
  split at q
  · next hl =>
    obtain ⟨q0, hx0⟩ := Option.isSome_iff_exists.mp hl
    obtain ⟨p, vs0, z1, z2, _, _⟩ := r.dicS hx0
    refine ⟨.ref p, z1, p, rfl, .inr ⟨_, .inl z2⟩, G, e, r, RnG.bind q fun d e1 v H1 G1 _ r1 s1 q1 h1 => ⟨G1, e1, r1, RnG.bind h1 fun d2 e2 u H2 G2 _ r2 s2 q2 h2 => ?_⟩⟩
    obtain ⟨q3, hx, h3⟩ := h2.liftB
    obtain ⟨p2, vs, y1, y2, y3, y4⟩ := r2.dicS hx
    rw [z1] at y1
    cases y1
    cases d with
    | tup ys =>
      obtain ⟨z, hz, h4⟩ := h3.lift
      rw [Option.map_eq_some_iff] at hz
      obtain ⟨k, k1, k2⟩ := hz
      refine ⟨_, dat r2.sub (.inl y2) (q1.mono s2.gs) k1, ?_⟩
      rcases dget_opt (q := k) y4 y3 with ⟨w, z', g1, g2, g3⟩ | ⟨g1, g2⟩
      · rw [g1]
        rw [g2] at k2
        cases k2
        exact h4.here r2 g3
      · rw [g1]
        rw [g2] at k2
        cases k2
        exact h4.here r2 q2
    | _ => exact h3.elim
  · exact q.elim
/-- k in d, k not in d, d a name -/
def dinoK (cf : CF) (neg : Bool) (k : E) (i : Nat) (e : Env) : R Bool := (ev cf k e).bind fun y e => (lift (dicS (getS e i)) e).bind fun q e => match y with
    | .tup ys => lift ((ints? ys).map fun k => if neg = true then !(dget q.1 q.2 k).isSome else (dget q.1 q.2 k).isSome) e
    | _ => .no
theorem dino_v {neg : Bool} {i : Nat} {e : Env} : ev cf (.dino neg b i) e = (dinoK cf neg b i e).bind fun k e => .ok (.bl k) e := by
  unfold dinoK
  rw [bind_assoc]
  refine bind_congr _ fun x e => ?_
  rw [bind_assoc]
  refine bind_congr _ fun q e => ?_
  cases x with
  | tup ys =>
    show lift ((ints? ys).map _) e = (lift ((ints? ys).map _) e).bind _
    cases ints? ys <;> rfl
  | _ => rfl
theorem dino_read {neg : Bool} {i : Nat} {σ : St} {H G : Hp} {e : Env} {Qk : Bool → Hp → Prop} (r : Rel H G σ e) (q : RnG IsK T W σ e G H (dinoK cf neg b i e) Qk) :
    tV T W cf b σ H fun y H1 => ∃ v, σ[i]? = some (some v) ∧ ∃ a o, v = .ref a ∧ DGet H1 a y o ∧ Qk (if neg = true then !o.isSome else o.isSome) H1 :=
  ⟨G, e, r, RnG.bind q fun d e1 v H1 G1 _ r1 s1 q1 h1 => by
    obtain ⟨q3, hx, h3⟩ := h1.liftB
    obtain ⟨p2, vs, y1, y2, y3, y4⟩ := r1.dicS hx
    cases d with
    | tup ys =>
      obtain ⟨z, hz, h4⟩ := h3.lift
      rw [Option.map_eq_some_iff] at hz
      obtain ⟨k, k1, k2⟩ := hz
      refine ⟨_, y1, p2, _, rfl, dat r1.sub (.inl y2) q1 k1, ?_⟩
      have e2 : (valV ((q3.1.map fun k => k.map Sum.inl).zip vs) (keyOf k)).isSome = (dget q3.1 q3.2 k).isSome := by
        rcases dget_opt (q := k) y4 y3 with ⟨w, z', g1, g2, g3⟩ | ⟨g1, g2⟩
        · rw [g1, g2]; rfl
        · rw [g1, g2]; rfl
      rw [e2, k2]
      exact h4.here r1 rfl
    | _ => exact h3.elim⟩
theorem pc_dnx {neg : Bool} {i : Nat} {n : Str} {np : Pos} {ty : TE} (hu : X.A.units + 66 < cLine) (hN : X.N[i]? = some n) (hv : Vis X.env.scope n) (hd : (n == ("__debug__" : Str)) = false) (hcd : (n == ("__classdict__" : Str)) = false) (hb : PE X y ty) :
    PC X (opIn neg) y (.Name n np) (fun σ H Q => ty σ H fun y H1 => ∃ v, σ[i]? = some (some v) ∧ ∃ a o, v = .ref a ∧ DGet H1 a y o ∧ Q (.bl (if neg = true then !o.isSome else o.isSome)) H1) := by
  cases neg with
  | false => exact pc_din (by omega) hb (pe_var (X := X) hN hv hd hcd)
  | true => exact pc_dnotin (by omega) hb (pe_var (X := X) hN hv hd hcd)
theorem nm_mark {neg : Bool} {n : Str} {np : Pos} : behindInMarks (opIn neg) (.Name n np) = false := by cases neg <;> rfl
theorem sv_dino {neg : Bool} {i : Nat} {n : Str} {np : Pos} (hu : X.A.units + 66 < cLine) (hN : X.N[i]? = some n) (hv : Vis X.env.scope n) (hd : (n == ("__debug__" : Str)) = false) (hcd : (n == ("__classdict__" : Str)) = false) (hb : PE X y (tV T W cf b)) :
    PE X (.Compare y [opIn neg] [.Name n np] pos) (tV T W cf (.dino neg b i)) :=
  wkE (pe_cmp (pc_dnx hu hN hv hd hcd hb) nm_mark) fun σ H Q ⟨G, e, r, q⟩ => dino_read (Qk := fun k H => Q (.bl k) H) r (by
    rw [dino_v] at q
    refine RnG.bind q fun k e1 w H1 G1 _ r1 s1 q1 h1 => ?_
    cases q1
    exact h1.here r1 (.bl k))
theorem st_dino {neg : Bool} {i : Nat} {n : Str} {np : Pos} (hu : X.A.units + 66 < cLine) (hN : X.N[i]? = some n) (hv : Vis X.env.scope n) (hd : (n == ("__debug__" : Str)) = false) (hcd : (n == ("__classdict__" : Str)) = false) (hb : PE X y (tV T W cf b)) :
    PT X (.Compare y [opIn neg] [.Name n np] pos) (tT T W cf (.dino neg b i)) :=
  wkT (pt_cmp (pc_dnx hu hN hv hd hcd hb) nm_mark) fun σ H Q ⟨G, e, r, q⟩ => dino_read (Qk := fun k H => ∃ k', V.bl k = .bl k' ∧ Q k' H) r (by
    rw [dino_v, bl_t (e := e)] at q
    refine RnG.bind q fun k e1 w H1 G1 _ r1 s1 q1 h1 => ?_
    cases q1
    exact ⟨k, rfl, h1.here r1 rfl⟩)
/-- {} -/
theorem sr_demp : PE X (.Dict [] [] pos) (tEv T W cf true .demp) :=
  wkE pe_dnewT fun σ H Q ⟨G, e, r, q⟩ p hp => by
    have q : Rn T W σ e G H (.ok (.dic [] []) e) true Q := q
    exact Rn.newD (P := []) (Q' := []) q r .nil hp
/-- [*a, *b] -/
theorem items_sq {K : PySem.W.Frag} {G H : Hp} {v : V} {d : D} {ds : List D} (sm : Same G H) (r : Rep G v d) (h : items? d = some ds) : ∃ p vs, v = .ref p ∧ (SqT K H p vs ∨ SqL K H p vs) ∧ RepA G vs ds := by
  cases r with
  | lst ha hA => cases h; exact ⟨_, _, rfl, .inr (.inl (.inl (sm _ _ ha))), hA⟩
  | tup ha hA => cases h; exact ⟨_, _, rfl, .inl (.inl (.inl (sm _ _ ha))), hA⟩
  | _ => cases h
theorem Rn.liftBR {γ : Type} {fr : Bool} {σ : St} {e : Env} {G H : Hp} {Q : VK} {o : Option γ} {k : γ → Env → R D} (h : Rn T W σ e G H ((lift o e).bind k) fr Q) : ∃ y, o = some y ∧ Rn T W σ e G H (k y e) fr Q := by
  cases o with
  | none => exact h.elim
  | some y => exact ⟨y, rfl, h⟩
theorem sr_cat {p1 p2 : Pos} (ha : PE X x (tV T W cf a)) (hb : PE X y (tV T W cf b)) : PE X (.List [.Starred x p1, .Starred y p2] pos) (tEv T W cf true (.cat a b)) :=
  wkE (pe_lst (StX.pa_star ha (StX.pa_star hb pa_nil))) fun σ H Q ⟨G, e, r, q⟩ => ⟨G, e, r, Rn.bindR q fun d e1 v H1 G1 _ r1 s1 q1 h1 => by
    obtain ⟨xs, hx, h2⟩ := h1.liftBR
    obtain ⟨p, vs, rfl, i1, i2⟩ := items_sq (K := X.K) r1.sub q1 hx
    refine ⟨p, vs, rfl, i1, G1, e1, r1, Rn.bindR h2 fun d2 e2 u H2 G2 _ r2 s2 q2 h3 => ?_⟩
    obtain ⟨ys, hy, h4⟩ := h3.liftBR
    obtain ⟨p', us, rfl, j1, j2⟩ := items_sq (K := X.K) r2.sub q2 hy
    have h4 : Rn T W σ e2 G2 H2 (if xs.length + ys.length ≤ sizeLine then .ok (.lst (xs ++ ys)) e2 else .no) true Q := h4
    split at h4
    · next hl =>
      refine ⟨p', us, rfl, j1, ?_⟩
      show (vs ++ (us ++ [])).length ≤ sizeLine ∧ ∀ l, H2 l = none → Q (.ref l) (upd H2 l (.lst (vs ++ (us ++ []))))
      rw [List.append_nil]
      have ra := (i2.mono s2.gs).append j2
      exact ⟨by rw [ra.length, List.length_append]; exact hl, fun l hn => h4.newF r2 ra hn⟩
    · exact h4.elim⟩
/-- xs.count(k), whole numbers -/
theorem sv_lcnt {apos cpos : Pos} (hs : starless y = true) (hl : (apos.endLine == cpos.line) = true) (hab : ∀ f, attributeBase x f X.env (PySem.eval x X.env) = PySem.eval x X.env) (ha : PE X x (tV T W cf a)) (hb : PE X y (tV T W cf b)) :
    PE X (.Call (.Attribute x "count" apos) [y] [] cpos) (tV T W cf (.lcnt a b)) :=
  wkE (pe_bm PySem.F.plainAttrs_list PySem.F.slot_list_count PySem.F.type_list_count mt_lcount ha (pa_cons hb pa_nil (star_cons hs _ _)) (hab _) (by rw [star_cons hs]; rfl) hl (star_cons hs _ _) rfl) fun σ H Q ⟨G, e, r, q⟩ => ⟨G, e, r, RnG.bind q fun d e1 v H1 G1 _ r1 s1 q1 h1 => by
    cases q1 with
    | @lst p vs xs hg hA =>
      refine ⟨.inl ⟨rfl, _, .inl (.inl (r1.sub _ _ hg))⟩, G1, e1, r1, RnG.bind h1 fun d2 e2 u H2 G2 _ r2 s2 q2 h2 => ?_⟩
      cases q2 with
      | int k =>
        obtain ⟨z, hz, h3⟩ := h2.lift
        rw [Option.map_eq_some_iff] at hz
        obtain ⟨ns, h4, rfl⟩ := hz
        have e1 := hA.ints h4
        subst e1
        exact ⟨p, ns, k, rfl, rfl, .inl (.inl (r2.sub _ _ (s2.gs _ _ hg))), h3.here r2 (.int _)⟩
      | _ => exact h2.elim
    | _ => exact h1.elim⟩
end
end Ev
end
section
namespace Ev
open PySem PySem.Spec L2
open PyProof.Rows hiding St
variable [KF]
section
variable {X : Cx} {T : XT} {W : St → XK} {cf : CF} {x y z : Expr} {as : E} {pos : Pos}
theorem paired_onto {H' G' : Hp} : ∀ {ts : List Addr} {rows : List (List V)}, Paired (fun (t : Addr) (r : List V) => H' t = some (.tup r)) ts rows → (∀ t ∈ ts, G' t = H' t) → Paired (fun (t : Addr) (r : List V) => G' t = some (.tup r)) ts rows
  | _, _, .nil, _ => .nil
  | _, _, .cons h p, k => .cons (by rw [k _ List.mem_cons_self]; exact h) (paired_onto p fun t ht => k t (List.mem_cons_of_mem _ ht))
theorem rep_zip3 {G' : Hp} : ∀ {xs ys zs : List V} {dx dy dz : List D} {ts : List Addr}, RepA G' xs dx → RepA G' ys dy → RepA G' zs dz → Paired (fun (t : Addr) (r : List V) => G' t = some (.tup r)) ts (zip3V xs ys zs) → RepA G' (ts.map V.ref) (zip3D dx dy dz)
  | [], _, _, _, _, _, _, .nil, _, _, h => by
    cases h
    exact .nil
  | _ :: _, [], _, _, _, _, _, .cons _ _, .nil, _, h => by
    cases h
    exact .nil
  | _ :: _, _ :: _, [], _, _, _, _, .cons _ _, .cons _ _, .nil, h => by
    cases h
    exact .nil
  | x :: xs, y :: ys, z :: zs, _, _, _, _, .cons r1 a1, .cons r2 a2, .cons r3 a3, h => by
    cases h with
    | cons h1 h2 => exact .cons (.tup h1 (.cons r1 (.cons r2 (.cons r3 .nil)))) (rep_zip3 a1 a2 a3 h2)
/-- what a new list of new tuples leaves -/
theorem Rn.newZ {σ : St} {e : Env} {G H H' : Hp} {Q : VK} {ds : List D} {p : Addr} {ts : List Addr} {rows : List (List V)} (h : Rn T W σ e G H (.ok (.lst ds) e) true Q) (r : Rel H G σ e) (kp : ∀ b o, H b = some o → H' b = some o) (hp : H p = none) (hn : ∀ t ∈ ts, H t = none) (hm : p ∉ ts)
    (eS : H' p = some (.lst (ts.map V.ref))) (pk : Paired (fun (t : Addr) (r : List V) => H' t = some (.tup r)) ts rows) (ra : ∀ G', Same G G' → Paired (fun (t : Addr) (r : List V) => G' t = some (.tup r)) ts rows → RepA G' (ts.map V.ref) ds) : Q (.ref p) H' := by
  let G' : Hp := fun b => if b ∈ ts then H' b else G b
  have gs : Same G G' := fun b o hb => by
    show (if b ∈ ts then H' b else G b) = some o
    split
    · exact kp b o (r.sub b o hb)
    · exact hb
  have sub : Same G' H' := fun b o hb => by
    have hb : (if b ∈ ts then H' b else G b) = some o := hb
    split at hb
    · exact hb
    · exact kp b o (r.sub b o hb)
  have nw : ∀ b o, G' b = some o → G b = some o ∨ H b = none ∨ Kt H b o := fun b o hb => by
    have hb : (if b ∈ ts then H' b else G b) = some o := hb
    split at hb
    · next hm => exact .inr (.inl (hn b hm))
    · exact .inl hb
  have al : ∀ b, H' b = none → H b = none := fun b hb => by
    cases q : H b with
    | none => rfl
    | some o => rw [kp b o q] at hb; cases hb
  obtain ⟨r1, s1⟩ := r.kept gs sub kp nw al
  have gp : G' p = none := by
    show (if p ∈ ts then H' p else G p) = none
    rw [if_neg hm]
    exact r.free hp
  have pk' := paired_onto (G' := G') pk fun t ht => by
    show (if t ∈ ts then H' t else G t) = H' t
    rw [if_pos ht]
  exact h _ _ _ r1 s1 ⟨p, ts.map V.ref, .l ds, rfl, rfl, hp, eS, gp, ra G' gs pk', (r.own (o := .lst []) hp).2.2⟩
theorem sq_of {K : PySem.W.Frag} {G H : Hp} {v : V} {d : D} {ds : List D} (sm : Same G H) (r : Rep G v d) (h : items? d = some ds) : ∃ p vs, v = .ref p ∧ (SqL K H p vs ∨ SqT K H p vs) ∧ RepA G vs ds := by
  obtain ⟨p, vs, e1, e2, e3⟩ := items_sq (K := K) sm r h
  exact ⟨p, vs, e1, e2.symm, e3⟩
/-- list(zip(x, y, z)) -/
theorem sr_lz3 {p p2 pos2 : Pos} (hc : X.calm = true) (hg : Gl X "list") (hm : X.mg "list" = none) (hgz : Gl X "zip") (hmz : X.mg "zip" = none) (h : SEs X T W cf [x, y, z] as) :
    PE X (.Call (.Name "list" p) [.Call (.Name "zip" p2) [x, y, z] [] pos2] [] pos) (tEv T W cf true (.lz3 as)) := by
  have hs : starEach [x, y, z] X.env = (false, PySem.eval x X.env) :: starEach [y, z] X.env := by
    cases h with
    | cons hs _ _ _ => exact star_cons hs _ _
  have hb : (backTo pos2 (starEach [y, z] X.env)).any (·.1) = false := by
    cases h with
    | cons _ _ _ h2 => exact back_lc h2
  refine wkE (pe_listZip3 hc hg hm hgz hmz (sa_of h) hs hb) fun σ H Q ⟨G, e, r, q⟩ => ⟨G, e, r, Rn.bindR q fun ds e1 vs H1 G1 _ r1 s1 q1 h1 => ?_⟩
  replace q1 : RepA G1 vs ds := q1
  cases q1 with
  | nil => exact h1.elim
  | cons a1 m1 =>
    cases m1 with
    | nil => exact h1.elim
    | cons a2 m2 =>
      cases m2 with
      | nil => exact h1.elim
      | cons a3 m3 =>
        cases m3 with
        | cons _ _ => exact h1.elim
        | nil =>
          obtain ⟨dx, ex, h1⟩ := Rn.liftBR h1
          obtain ⟨dy, ey, h1⟩ := Rn.liftBR h1
          obtain ⟨dz, ez, h1⟩ := Rn.liftBR h1
          obtain ⟨q1, xs, rfl, sx, rx⟩ := sq_of (K := X.K) r1.sub a1 ex
          obtain ⟨q2, ys, rfl, sy, ry⟩ := sq_of (K := X.K) r1.sub a2 ey
          obtain ⟨q3, zs, rfl, sz, rz⟩ := sq_of (K := X.K) r1.sub a3 ez
          have h1 : Rn T W σ e1 G1 H1 (if dx.length = dy.length ∧ dx.length = dz.length then .ok (.lst (zip3D dx dy dz)) e1 else .no) true Q := h1
          split at h1
          · next hl =>
            refine ⟨q1, q2, q3, xs, ys, zs, rfl, sx, sy, sz, by rw [rx.length, ry.length]; exact hl.1, by rw [rx.length, rz.length]; exact hl.2, fun H' p ts kp hp hn hm eS pk _ => ?_⟩
            exact Rn.newZ h1 r1 kp hp hn hm eS pk fun G' gs pk' => rep_zip3 (rx.mono gs) (ry.mono gs) (rz.mono gs) pk'
          · exact h1.elim
end
end Ev
end
section
namespace Ev
open PySem PySem.Spec L2
open PyProof.Rows hiding St
variable [KF]
/-! ### which text is which -/
structure Ct where
  N : List Str
  fns : List (Str × Bool)
  kws : List (Nat × Nat × List Str × List Nat)
  /-- the classes of errors: name, number, maker, fields -/
  cls : List (Str × Nat × Nat × List Str)
  /-- names of classes: which errors are theirs -/
  xis : List (Str × List Nat)
  io : Bool
  fr : Bool
def Ct.frs (c : Ct) (f : Nat) : Bool := match c.fns[f]? with
  | some p => p.2
  | none => false
def visB (sc : Scope) (x : Str) : Bool := match sc.names.lookup x with
  | some .local => true | some .cell => true | some .free => true | _ => false
def locB (sc : Scope) (x : Str) : Bool := match sc.names.lookup x with
  | some .local => true | some .cell => true | _ => false
def glB (sc : Scope) (x : Str) : Bool := match sc.names.lookup x with
  | some .globalImplicit => true | _ => false
def notDbg (x : Str) : Bool := !(x == ("__debug__" : Str))
def nmB (c : Ct) (sc : Scope) (i : Nat) (x : Str) : Bool := decide (c.N[i]? = some x) && visB sc x && notDbg x && !(x == ("__classdict__" : Str))
def fnB (c : Ct) (sc : Scope) (f : Nat) (x : Str) : Bool := (match c.fns[f]? with | some p => decide (p.1 = x) | none => false) && glB sc x && notDbg x
def biB (sc : Scope) (s x : Str) : Bool := decide (x = s) && glB sc x
def sliceB : Expr → Bool
  | .Slice _ _ _ _ => true
  | _ => false
def setB : Expr → Bool
  | .Set _ _ _ => true
  | _ => false
mutual
def mtT (c : Ct) (sc : Scope) (ok : Str → Bool) : Tg → Expr → Bool
  | .nm i, .Name x _ => decide (c.N[i]? = some x) && locB sc x && ok x
  | .tp ts, .Tuple xs _ _ => mtTs c sc ok ts xs
  | _, _ => false
termination_by structural x => x
def mtTs (c : Ct) (sc : Scope) (ok : Str → Bool) : Tg → List Expr → Bool
  | .nil, [] => true
  | .cons t ts, x :: xs => starless x && mtT c sc ok t x && mtTs c sc ok ts xs
  | _, _ => false
termination_by structural x => x
end
def tysB (sc : Scope) : List Ty → List Expr → Bool
  | [], [] => true
  | t :: ts, .Name n _ :: xs => decide (n = Str.ofString (tyN t)) && glB sc n && tysB sc ts xs
  | _, _ => false
def blkOkT (scope sc : Scope) (x : Str) : Bool := decide (scope.names.lookup x = some .cell) || decide ((relS scope sc).names.lookup x = some .local)
def ownS (c : Ct) (own : List Nat) : List (Str × Nat) := own.map fun i => (c.N.getD i (Str.ofString ""), i)
def isCl : Expr → Bool
  | .Call _ _ _ _ => true
  | _ => false
def isTup : Expr → Bool
  | .Tuple _ _ _ => true
  | _ => false
mutual
def mtE (c : Ct) : E → Scope → Expr → Bool
  | .ci i, _, xx => match xx with
    | .Constant (.int j) _ _ => decide (i = j)
    | _ => false
  | .cs z, _, xx => match xx with
    | .Constant (.str y) _ _ => decide (z = y)
    | _ => false
  | .cb k, _, xx => match xx with
    | .Constant (.bool j) _ _ => k == j
    | _ => false
  | .cn, _, xx => match xx with
    | .Constant .none _ _ => true
    | _ => false
  | .neg a, sc, xx => match xx with
    | .UnaryOp .USub x _ => mtE c a sc x
    | _ => false
  | .v i, sc, xx => match xx with
    | .Name n _ => nmB c sc i n
    | _ => false
  | .bin op a b, sc, xx => match xx with
    | .BinOp x o y _ => decide (o = opB op) && mtE c a sc x && mtE c b sc y
    | _ => false
  | .cmp op a b, sc, xx => match xx with
    | .Compare x [o] [y] _ => decide (o = opC op) && !behindInMarks o y && mtE c a sc x && mtE c b sc y
    | _ => false
  | .cmp2 op op' a b d, sc, xx => match xx with
    | .Compare x [o, o'] [y, z] _ => decide (o = opC op) && decide (o' = opC op') && !lastMarks [o, o'] [y, z] && mtE c a sc x && mtE c b sc y && mtE c d sc z
    | _ => false
  | .cmp3 o1 o2 o3 a b d f, sc, xx => match xx with
    | .Compare x [p1, p2, p3] [y, z, u] _ => decide (p1 = opC o1) && decide (p2 = opC o2) && decide (p3 = opC o3) && !lastMarks [p1, p2, p3] [y, z, u] && mtE c a sc x && mtE c b sc y && mtE c d sc z && mtE c f sc u
    | _ => false
  | .band es, sc, xx => match xx with
    | .BoolOp .And xs _ => !xs.isEmpty && mtEs c es sc xs
    | _ => false
  | .bor es, sc, xx => match xx with
    | .BoolOp .Or xs _ => !xs.isEmpty && mtEs c es sc xs
    | _ => false
  | .not a, sc, xx => match xx with
    | .UnaryOp .Not x _ => mtE c a sc x
    | _ => false
  | .orf a b, sc, xx => match xx with
    | .BoolOp .Or [x, y] _ => isF c.frs a && isF c.frs b && starless x && starless y && mtE c a sc x && mtE c b sc y
    | _ => false
  | .ite d a b, sc, xx => match xx with
    | .IfExp z x y _ => mtE c d sc z && mtE c a sc x && mtE c b sc y
    | _ => false
  | .call f as, sc, xx => match xx with
    | .Call (.Name n _) xs [] _ => fnB c sc f n && mtEs c as sc xs
    | _ => false
  | .callo f i as, sc, xx => match xx with
    | .Call (.Name n _) (.Name m _ :: xs) [] _ => fnB c sc f n && nmB c sc i m && mtEs c as sc xs
    | _ => false
  | .callb f i j, sc, xx => match xx with
    | .Call (.Name n _) [.Name m _, .Name m2 _] [] _ => fnB c sc f n && !c.frs f && nmB c sc i m && nmB c sc j m2 && i != j
    | _ => false
  | .callf f a as, sc, xx => match xx with
    | .Call (.Name n _) (x :: xs) [] _ => fnB c sc f n && isF c.frs a && starless x && mtE c a sc x && mtEs c as sc xs
    | _ => false
  | .callk f as bs pl, sc, xx => match xx with
    | .Call (.Name n _) xs kws _ => fnB c sc f n && (c.kws.any fun q => decide (q.1 = f) && decide (q.2.1 = xs.length) && decide (q.2.2.2 = pl) && mtK c bs sc kws q.2.2.1) && mtEs c as sc xs
    | _ => false
  | .bi b a, sc, xx => match xx with
    | .Call (.Name n _) [x] [] _ => biB sc (biN b) n && starless x && mtE c a sc x
    | _ => false
  | .leno i, sc, xx => match xx with
    | .Call (.Name n _) [.Name m _] [] _ => biB sc "len" n && nmB c sc i m
    | _ => false
  | .isi a t, sc, xx => match xx with
    | .Call (.Name n _) [x, .Name m _] [] _ => biB sc "isinstance" n && biB sc (Str.ofString (tyN t)) m && starless x && mtE c a sc x
    | _ => false
  | .isis a ts, sc, xx => match xx with
    | .Call (.Name n _) [x, .Tuple xs _ _] [] _ => biB sc "isinstance" n && tysB sc ts xs && decide (ts.length ≤ 8) && starless x && mtE c a sc x
    | _ => false
  | .ix a k, sc, xx => match xx with
    | .Subscript x y _ => !sliceB y && mtE c a sc x && mtE c k sc y
    | _ => false
  | .ixo i k, sc, xx => match xx with
    | .Subscript (.Name n _) y _ => !sliceB y && nmB c sc i n && mtE c k sc y
    | _ => false
  | .sl a lo hi, sc, xx => match xx with
    | .Subscript x (.Slice l h none _) _ => mtE c a sc x && (match l with | none => isAbs lo | some y => !isAbs lo && mtE c lo sc y) && (match h with | none => isAbs hi | some y => !isAbs hi && mtE c hi sc y)
    | _ => false
  | .fld a f, sc, xx => match xx with
    | .Attribute x m _ => decide (m = f) && !isCl x && mtE c a sc x
    | _ => false
  | .isx a yes, sc, xx => match xx with
    | .Call (.Name n _) [x, .Name m _] [] _ => biB sc "isinstance" n && glB sc m && notDbg m && (c.xis.any fun q => decide (q.1 = m) && decide (q.2 = yes)) && starless x && mtE c a sc x
    | _ => false
  | .rev a, sc, xx => match xx with
    | .Subscript x (.Slice none none (some (.UnaryOp .USub (.Constant (.int 1) _ _) _)) _) _ => mtE c a sc x
    | _ => false
  | .lst as, sc, xx => match xx with
    | .List xs _ => mtEs c as sc xs
    | _ => false
  | .tup as, sc, xx => match xx with
    | .Tuple xs _ _ => mtEs c as sc xs
    | _ => false
  | .lc el t it d own, sc, xx => match xx with
    | .ListComp elt [⟨tg, iter, ifs, ia⟩] scope _ => decide (ia = 0) && blkC c.N sc scope (ownS c own) && (tnames t).all (fun j => own.contains j) && mtT c (relS scope sc) (blkOkT scope sc) t tg && !setB iter && mtI c it sc tg iter && mtE c el (relS scope sc) elt &&
      (match ifs with | [] => isAbs d | [y] => !isAbs d && mtE c d (relS scope sc) y | _ => false)
    | _ => false
  | .lc2 el t it t1 it1 d own own1, sc, xx => match xx with
    | .ListComp elt [⟨tg, iter, [], ia⟩, ⟨tg1, iter1, ifs, ib⟩] scope _ => decide (ia = 0) && decide (ib = 0) && blkC c.N sc scope (ownS c own) && (tnames t).all (fun j => own.contains j) && (tnames t1).all (fun j => own1.contains j) && own1.all (fun j => own.contains j) && mtT c (relS scope sc) (blkOkT scope sc) t tg && mtT c (relS scope sc) (blkOkT scope sc) t1 tg1 &&
      !setB iter && !setB iter1 && mtI c it sc tg iter && mtI c it1 (relS scope sc) tg1 iter1 && mtE c el (relS scope sc) elt && (match ifs with | [] => isAbs d | [y] => !isAbs d && mtE c d (relS scope sc) y | _ => false)
    | _ => false
  | .inr1 neg a d, sc, xx => match xx with
    | .Compare x [o] [.Call (.Name n _) [z] [] _] _ => decide (o = opIn neg) && biB sc "range" n && starless z && mtE c a sc x && mtE c d sc z
    | _ => false
  | .inr2 neg a b d, sc, xx => match xx with
    | .Compare x [o] [.Call (.Name n _) [y, z] [] _] _ => decide (o = opIn neg) && biB sc "range" n && starless y && starless z && mtE c a sc x && mtE c b sc y && mtE c d sc z
    | _ => false
  | .dct a, sc, xx => match xx with
    | .Call (.Name n _) [x] [] _ => biB sc "dict" n && starless x && mtE c a sc x
    | _ => false
  | .ladd a b, sc, xx => match xx with
    | .BinOp x o y _ => decide (o = .Add) && mtE c a sc x && mtE c b sc y
    | _ => false
  | .srt a, sc, xx => match xx with
    | .Call (.Name n _) [x] [] _ => biB sc "sorted" n && starless x && mtE c a sc x
    | _ => false
  | .srto i, sc, xx => match xx with
    | .Call (.Name n _) [.Name m _] [] _ => biB sc "sorted" n && nmB c sc i m
    | _ => false
  | .dget i k d, sc, xx => match xx with
    | .Call (.Attribute (.Name n _) m ap) [y, z] [] cp => nmB c sc i n && decide (m = ("get" : Str)) && (ap.endLine == cp.line) && starless y && starless z && mtE c k sc y && mtE c d sc z
    | _ => false
  | .dino neg k i, sc, xx => match xx with
    | .Compare y [o] [.Name n _] _ => decide (o = opIn neg) && nmB c sc i n && mtE c k sc y
    | _ => false
  | .lz3 as, sc, xx => match xx with
    | .Call (.Name n _) [.Call (.Name m _) [x, y, z] [] _] [] _ => biB sc "list" n && biB sc "zip" m && mtEs c as sc [x, y, z]
    | _ => false
  | .demp, _, xx => match xx with
    | .Dict [] [] _ => true
    | _ => false
  | .cat a b, sc, xx => match xx with
    | .List [.Starred x _, .Starred y _] _ => mtE c a sc x && mtE c b sc y
    | _ => false
  | .lcnt a b, sc, xx => match xx with
    | .Call (.Attribute x m ap) [y] [] cp => decide (m = ("count" : Str)) && !isCl x && (ap.endLine == cp.line) && starless y && mtE c a sc x && mtE c b sc y
    | _ => false
  | .mm mx a b, sc, xx => match xx with
    | .Call (.Name n _) [x, y] [] _ => biB sc (mmN mx) n && starless x && starless y && mtE c a sc x && mtE c b sc y
    | _ => false
  | _, _, _ => false
termination_by structural x => x
def mtEs (c : Ct) : E → Scope → List Expr → Bool
  | .nil, _, [] => true
  | .cons a as, sc, x :: xs => starless x && mtE c a sc x && mtEs c as sc xs
  | _, _, _ => false
termination_by structural x => x
def mtK (c : Ct) : E → Scope → List Keyword → List Str → Bool
  | .nil, _, [], [] => true
  | .cons a as, sc, ⟨some k, x, _⟩ :: kws, k' :: ks => decide (k = k') && mtE c a sc x && mtK c as sc kws ks
  | _, _, _, _ => false
termination_by structural x => x
def mtI (c : Ct) : E → Scope → Expr → Expr → Bool
  | .seq a, sc, _, x => mtE c a sc x
  | .range1 a, sc, _, xx => match xx with
    | .Call (.Name n _) [x] [] _ => biB sc "range" n && starless x && mtE c a sc x
    | _ => false
  | .range2 a b, sc, _, xx => match xx with
    | .Call (.Name n _) [x, y] [] _ => biB sc "range" n && starless x && starless y && mtE c a sc x && mtE c b sc y
    | _ => false
  | .enum a, sc, tg, xx => match xx with
    | .Call (.Name n _) [x] [] _ => isTup tg && biB sc "enumerate" n && starless x && mtE c a sc x
    | _ => false
  | .zip a b, sc, tg, xx => match xx with
    | .Call (.Name n _) [x, y] [] _ => isTup tg && biB sc "zip" n && starless x && starless y && mtE c a sc x && mtE c b sc y
    | _ => false
  | _, _, _, _ => false
termination_by structural x => x
end
/-! ### .. is so -/
def bnames : List Str := ["len", "abs", "int", "list", "tuple", "all", "sum", "min", "isinstance", "bool", "str", "range", "enumerate", "zip", "max", "any", "sorted", "dict", "reversed", "set"]
/-- the name m is that of a class; which errors are its -/
def XiOk (K : PySem.W.Frag) (mg : Str → Option Value) (q : Str × List Nat) : Prop := ∃ cv : Value, (∀ k, k < KF.nc → PySem.W.kitOne K (KF.T.cls k) cv = some (q.2.contains k)) ∧
  ((∃ C : Addr, cv = .ref C ∧ mg q.1 = some (.ref C)) ∨ ∃ bn : String, cv = .type bn ∧ mg q.1 = none ∧ bootBuiltins q.1 = some (.type bn) ∧ q.1 ≠ ("__name__" : Str))
structure Good (X : Cx) (T : XT) (W : St → XK) (dis : List DI) (cf : CF) (n : Nat) (c : Ct) (sc : Scope) (fok : Str → Bool) : Prop where
  kf : X.K = KF.K
  ok : Okc X T W dis cf n
  N : X.N = c.N
  sc : X.env.scope = sc
  nd : X.N.Nodup
  hc : X.calm = true
  hu : X.A.units + 66 < cLine
  bn : ∀ x ∈ bnames, X.mg x = none
  fs : ∀ (f : Nat) (p : Str × Bool), c.fns[f]? = some p → ∃ d, dis[f]? = some d ∧ d.name = p.1 ∧ d.df.fr = p.2
  kw : ∀ q ∈ c.kws, ∀ d, dis[q.1]? = some d → KwOk X.K d.fd d.ps q.2.2.1 q.2.1 q.2.2.2
  fn : ∀ x, fok x = true → X.fn x = true ∨ X.env.scope.names.lookup x = some .local
  tf : T = KF.T
  ca : ∀ k, k < KF.nc → ∃ C, ClA X.K k C
  mks : ∀ q ∈ c.cls, KF.T.flds q.2.1 = q.2.2.2 ∧ MkF X.prog X.w X.K X.mg X.base X.A cf q.1 q.2.1 q.2.2.1
  xi : ∀ q ∈ c.xis, XiOk X.K X.mg q
section
variable {X : Cx} {T : XT} {W : St → XK} {dis : List DI} {cf : CF} {n : Nat} {c : Ct} {sc : Scope} {fok : Str → Bool}
theorem visB_ok {x : Str} (h : visB sc x = true) : Vis sc x := by
  unfold visB at h
  split at h
  · next e => exact .inl e
  · next e => exact .inr (.inl e)
  · next e => exact .inr (.inr e)
  · cases h
theorem locB_ok {x : Str} (h : locB sc x = true) : Loc sc x := by
  unfold locB at h
  split at h
  · next e => exact .inl e
  · next e => exact .inr e
  · cases h
theorem glB_ok {x : Str} (h : glB sc x = true) : sc.names.lookup x = some .globalImplicit := by
  unfold glB at h
  split at h
  · next e => exact e
  · cases h
theorem Good.gl (g : Good X T W dis cf n c sc fok) {x : Str} (h : glB sc x = true) : Gl X x := by
  have e := glB_ok h
  rw [← g.sc] at e
  exact e
theorem Good.nm (g : Good X T W dis cf n c sc fok) {i : Nat} {x : Str} (h : nmB c sc i x = true) : X.N[i]? = some x ∧ Vis X.env.scope x ∧ (x == ("__debug__" : Str)) = false ∧ (x == ("__classdict__" : Str)) = false := by
  unfold nmB notDbg at h
  simp only [Bool.and_eq_true, decide_eq_true_eq, Bool.not_eq_true'] at h
  obtain ⟨⟨⟨h1, h2⟩, h3⟩, h4⟩ := h
  exact ⟨by rw [g.N]; exact h1, by rw [g.sc]; exact visB_ok h2, h3, h4⟩
theorem Good.fnm (g : Good X T W dis cf n c sc fok) {f : Nat} {x : Str} (h : fnB c sc f x = true) : ∃ d, dis[f]? = some d ∧ d.name = x ∧ d.df.fr = c.frs f ∧ Gl X d.name ∧ (d.name == ("__debug__" : Str)) = false := by
  unfold fnB notDbg at h
  simp only [Bool.and_eq_true, Bool.not_eq_true'] at h
  obtain ⟨⟨h1, h2⟩, h3⟩ := h
  cases hp : c.fns[f]? with
  | none => rw [hp] at h1; cases h1
  | some p =>
    rw [hp] at h1
    have e1 : p.1 = x := of_decide_eq_true h1
    obtain ⟨d, k1, k2, k3⟩ := g.fs f p hp
    have e2 : d.name = x := k2.trans e1
    refine ⟨d, k1, e2, ?_, by rw [e2]; exact g.gl h2, by rw [e2]; exact h3⟩
    unfold Ct.frs
    rw [hp]
    exact k3
theorem Good.bi (g : Good X T W dis cf n c sc fok) {s x : Str} (h : biB sc s x = true) (hs : s ∈ bnames) : x = s ∧ Gl X s ∧ X.mg s = none := by
  unfold biB at h
  rw [Bool.and_eq_true, decide_eq_true_eq] at h
  obtain ⟨e, h2⟩ := h
  subst e
  exact ⟨rfl, g.gl h2, g.bn _ hs⟩
theorem biN_in (b : Bi) : biN b ∈ bnames := by cases b <;> decide
theorem tyN_in (t : Ty) : Str.ofString (tyN t) ∈ bnames := by cases t <;> decide
theorem slice_ix {y : Expr} (h : sliceB y = false) : PlainIx y := by
  intro o i
  cases y <;> first | rfl | cases h
theorem set_it {y : Expr} (h : setB y = false) (env : PySem.Env) (x : Value) : foldedSetIterable y env x = pure x := by
  cases y <;> first | rfl | cases h
theorem Good.tys (g : Good X T W dis cf n c sc fok) : ∀ {ts : List Ty} {xs : List Expr}, tysB sc ts xs = true → tyE X xs ts
  | [], [], _ => trivial
  | t :: ts, .Name m _ :: xs, h => by
    have h : (decide (m = Str.ofString (tyN t)) && glB sc m && tysB sc ts xs) = true := h
    simp only [Bool.and_eq_true, decide_eq_true_eq] at h
    obtain ⟨⟨h1, h2⟩, h3⟩ := h
    exact ⟨h1, g.gl h2, by rw [h1]; exact g.bn _ (tyN_in t), g.tys h3⟩
  | [], _ :: _, h => by cases h
  | t :: ts, [], h => by cases h
mutual
theorem Good.tg (g : Good X T W dis cf n c sc fok) : ∀ {t : Tg} {x : Expr}, mtT c sc fok t x = true → STg X x t
  | .nm i, x, h => by
    unfold mtT at h
    split at h
    · next j m p e1 =>
      cases e1
      simp only [Bool.and_eq_true, decide_eq_true_eq] at h
      obtain ⟨⟨h1, h2⟩, h3⟩ := h
      exact .nm (by rw [g.N]; exact h1) (by rw [g.sc]; exact locB_ok h2) (g.fn _ h3)
    · next e1 => cases e1
    · cases h
  | .tp ts, x, h => by
    unfold mtT at h
    split at h
    · next e1 => cases e1
    · next e1 =>
      cases e1
      exact .tp (g.tgs h)
    · cases h
  | .nil, x, h => by
    unfold mtT at h
    cases h
  | .cons _ _, x, h => by
    unfold mtT at h
    cases h
theorem Good.tgs (g : Good X T W dis cf n c sc fok) : ∀ {t : Tg} {xs : List Expr}, mtTs c sc fok t xs = true → STgs X xs t
  | .nil, xs, h => by
    cases xs with
    | nil => exact .nil
    | cons _ _ => cases h
  | .cons t ts, xs, h => by
    cases xs with
    | nil => cases h
    | cons x xs =>
      have h : (starless x && mtT c sc fok t x && mtTs c sc fok ts xs) = true := h
      simp only [Bool.and_eq_true] at h
      exact .cons h.1.1 (g.tg h.1.2) (g.tgs h.2)
  | .nm _, xs, h => by cases xs <;> cases h
  | .tp _, xs, h => by cases xs <;> cases h
end
/-- within a comprehension -/
theorem Good.blk (g : Good X T W dis cf n c sc fok) (s : Shared) (H : Hp) (scope : Scope) (C : Addr) (cl : List (Str × Addr)) (fp : List Addr) : Good (X.blk s H scope (compEnvC scope cl C X.env) fp) T (fun _ => E0) dis cf n c (relS scope sc) (blkOkT scope sc) where
  kf := g.kf
  ok := ⟨g.ok.fn, g.ok.mg, g.ok.kp, g.ok.bd, g.ok.ln, g.ok.hr, fun _ pins => passL pins _⟩
  N := g.N
  sc := by
    show relS scope X.env.scope = relS scope sc
    rw [g.sc]
  nd := g.nd
  hc := g.hc
  hu := g.hu
  bn := g.bn
  fs := g.fs
  kw := g.kw
  tf := g.tf
  ca := g.ca
  mks := g.mks
  xi := g.xi
  fn := fun x h => by
    unfold blkOkT at h
    rw [Bool.or_eq_true, decide_eq_true_eq, decide_eq_true_eq] at h
    rcases h with h | h
    · left
      show (scope.names.lookup x == some NameKind.cell) = true
      rw [h]
      rfl
    · right
      show (relS scope X.env.scope).names.lookup x = some .local
      rw [g.sc]
      exact h
end
end Ev
end
section
namespace Ev
open PySem PySem.Spec L2
open PyProof.Rows hiding St
variable [KF]
section
variable (T : XT) (dis : List DI) (cf : CF) (n : Nat) (c : Ct)
structure Snd (a : E) : Prop where
  e : ∀ (X : Cx) (W : St → XK) (sc : Scope) (fok : Str → Bool) (x : Expr), Good X T W dis cf n c sc fok → mtE c a sc x = true → PE X x (tEv T W cf (isF c.frs a) a) ∧ PT X x (tT T W cf a)
  es : ∀ (X : Cx) (W : St → XK) (sc : Scope) (fok : Str → Bool) (xs : List Expr), Good X T W dis cf n c sc fok → mtEs c a sc xs = true → SEs X T W cf xs a
  k : ∀ (X : Cx) (W : St → XK) (sc : Scope) (fok : Str → Bool) (kws : List Keyword) (ks : List Str), Good X T W dis cf n c sc fok → mtK c a sc kws ks = true → SKs X T W cf kws ks a
  i : ∀ (X : Cx) (W : St → XK) (sc : Scope) (fok : Str → Bool) (tg x : Expr), Good X T W dis cf n c sc fok → mtI c a sc tg x = true → PI X tg x (tI T W cf a)
end
section
variable {T : XT} {dis : List DI} {cf : CF} {n : Nat} {c : Ct}
theorem both {X : Cx} {W : St → XK} {x : Expr} {fr : Bool} {a : E} (hp : plainE x = true) (h : PE X x (tEv T W cf fr a)) : PE X x (tEv T W cf fr a) ∧ PT X x (tT T W cf a) := ⟨h, st_plain hp (v_of h)⟩
theorem Snd.v {a : E} (s : Snd T dis cf n c a) {X : Cx} {W : St → XK} {sc : Scope} {fok : Str → Bool} {x : Expr} (g : Good X T W dis cf n c sc fok) (h : mtE c a sc x = true) : PE X x (tV T W cf a) := v_of (s.e X W sc fok x g h).1
/-- an expression alone -/
theorem Snd.of {a : E} (h : ∀ (X : Cx) (W : St → XK) (sc : Scope) (fok : Str → Bool) (x : Expr), Good X T W dis cf n c sc fok → mtE c a sc x = true → PE X x (tEv T W cf (isF c.frs a) a) ∧ PT X x (tT T W cf a))
    (h1 : ∀ sc xs, mtEs c a sc xs = false) (h2 : ∀ sc kws ks, mtK c a sc kws ks = false) (h3 : ∀ sc tg x, mtI c a sc tg x = false) : Snd T dis cf n c a :=
  ⟨h, fun X W sc fok xs _ q => (by rw [h1] at q; cases q), fun X W sc fok kws ks _ q => (by rw [h2] at q; cases q), fun X W sc fok tg x _ q => (by rw [h3] at q; cases q)⟩
theorem snd_ci (i : Int) : Snd T dis cf n c (.ci i) := .of (fun X W sc fok x g h => by
  unfold mtE at h
  split at h
  · rw [of_decide_eq_true h]
    exact both rfl se_ci
  · cases h) (fun _ _ => rfl) (fun _ _ _ => rfl) fun _ _ _ => rfl
theorem snd_cs (z : Str) : Snd T dis cf n c (.cs z) := .of (fun X W sc fok x g h => by
  unfold mtE at h
  split at h
  · rw [of_decide_eq_true h]
    exact both rfl se_cs
  · cases h) (fun _ _ => rfl) (fun _ _ _ => rfl) fun _ _ _ => rfl
theorem snd_cb (z : Bool) : Snd T dis cf n c (.cb z) := .of (fun X W sc fok x g h => by
  unfold mtE at h
  split at h
  · rw [eq_of_beq h]
    exact both rfl se_cb
  · cases h) (fun _ _ => rfl) (fun _ _ _ => rfl) fun _ _ _ => rfl
theorem snd_cn : Snd T dis cf n c .cn := .of (fun X W sc fok x g h => by
  unfold mtE at h
  split at h
  · exact both rfl se_cn
  · cases h) (fun _ _ => rfl) (fun _ _ _ => rfl) fun _ _ _ => rfl
theorem snd_neg {a : E} (sa : Snd T dis cf n c a) : Snd T dis cf n c (.neg a) := .of (fun X W sc fok x g h => by
  unfold mtE at h
  split at h
  · exact both rfl (of_v (sv_neg (sa.v g h)))
  · cases h) (fun _ _ => rfl) (fun _ _ _ => rfl) fun _ _ _ => rfl
theorem snd_v (i : Nat) : Snd T dis cf n c (.v i) := .of (fun X W sc fok x g h => by
  unfold mtE at h
  split at h
  · obtain ⟨h1, h2, h3, h4⟩ := g.nm h
    exact both rfl (se_v h1 h2 h3 h4)
  · cases h) (fun _ _ => rfl) (fun _ _ _ => rfl) fun _ _ _ => rfl
theorem snd_bin (op : B2) {a b : E} (sa : Snd T dis cf n c a) (sb : Snd T dis cf n c b) : Snd T dis cf n c (.bin op a b) := .of (fun X W sc fok x g h => by
  unfold mtE at h
  split at h
  · simp only [Bool.and_eq_true, decide_eq_true_eq] at h
    obtain ⟨⟨h1, h2⟩, h3⟩ := h
    subst h1
    exact both rfl (of_v (sv_bin (sa.v g h2) (sb.v g h3)))
  · cases h) (fun _ _ => rfl) (fun _ _ _ => rfl) fun _ _ _ => rfl
theorem snd_cmp (op : C2) {a b : E} (sa : Snd T dis cf n c a) (sb : Snd T dis cf n c b) : Snd T dis cf n c (.cmp op a b) := .of (fun X W sc fok x g h => by
  unfold mtE at h
  split at h
  · simp only [Bool.and_eq_true, decide_eq_true_eq, Bool.not_eq_true'] at h
    obtain ⟨⟨⟨h1, h2⟩, h3⟩, h4⟩ := h
    subst h1
    exact ⟨of_v (sv_cmp g.hu h2 (sa.v g h3) (sb.v g h4)), st_cmp g.hu h2 (sa.v g h3) (sb.v g h4)⟩
  · cases h) (fun _ _ => rfl) (fun _ _ _ => rfl) fun _ _ _ => rfl
theorem snd_cmp2 (op op' : C2) {a b d : E} (sa : Snd T dis cf n c a) (sb : Snd T dis cf n c b) (sd : Snd T dis cf n c d) : Snd T dis cf n c (.cmp2 op op' a b d) := .of (fun X W sc fok x g h => by
  unfold mtE at h
  split at h
  · simp only [Bool.and_eq_true, decide_eq_true_eq, Bool.not_eq_true'] at h
    obtain ⟨⟨⟨⟨⟨h1, h2⟩, h3⟩, h4⟩, h5⟩, h6⟩ := h
    subst h1 h2
    exact ⟨of_v (sv_cmp2 g.hu h3 (sa.v g h4) (sb.v g h5) (sd.v g h6)), st_cmp2 g.hu h3 (sa.v g h4) (sb.v g h5) (sd.v g h6)⟩
  · cases h) (fun _ _ => rfl) (fun _ _ _ => rfl) fun _ _ _ => rfl
theorem snd_cmp3 (o1 o2 o3 : C2) {a b d f : E} (sa : Snd T dis cf n c a) (sb : Snd T dis cf n c b) (sd : Snd T dis cf n c d) (sf : Snd T dis cf n c f) : Snd T dis cf n c (.cmp3 o1 o2 o3 a b d f) := .of (fun X W sc fok x g h => by
  unfold mtE at h
  split at h
  · simp only [Bool.and_eq_true, decide_eq_true_eq, Bool.not_eq_true'] at h
    obtain ⟨⟨⟨⟨⟨⟨⟨h1, h2⟩, h3⟩, h4⟩, h5⟩, h6⟩, h7⟩, h8⟩ := h
    subst h1 h2 h3
    exact ⟨of_v (sv_cmp3 g.hu h4 (sa.v g h5) (sb.v g h6) (sd.v g h7) (sf.v g h8)), st_cmp3 g.hu h4 (sa.v g h5) (sb.v g h6) (sd.v g h7) (sf.v g h8)⟩
  · cases h) (fun _ _ => rfl) (fun _ _ _ => rfl) fun _ _ _ => rfl
theorem ne_nil {xs : List Expr} (h : (!xs.isEmpty) = true) : xs ≠ [] := by
  cases xs with
  | nil => cases h
  | cons _ _ => exact fun z => nomatch z
theorem snd_bool (k : Bool) {es : E} (sa : Snd T dis cf n c es) : Snd T dis cf n c (if k = true then .band es else .bor es) := by
  have go : ∀ (X : Cx) (W : St → XK) (sc : Scope) (fok : Str → Bool) (xs : List Expr) (pos : Pos), Good X T W dis cf n c sc fok → (!xs.isEmpty && mtEs c es sc xs) = true → PE X (.BoolOp (opL k) xs pos) (tVB T W cf k es) ∧ PT X (.BoolOp (opL k) xs pos) (tTB T W cf k es) := by
    intro X W sc fok xs pos g h
    rw [Bool.and_eq_true] at h
    have hs := sa.es X W sc fok xs g h.2
    exact ⟨sv_bool hs (ne_nil h.1), (st_bool hs (ne_nil h.1)).pt⟩
  cases k with
  | true =>
    refine .of (fun X W sc fok x g h => ?_) (fun _ _ => rfl) (fun _ _ _ => rfl) fun _ _ _ => rfl
    have h : mtE c (.band es) sc x = true := h
    unfold mtE at h
    split at h
    · obtain ⟨h1, h2⟩ := go X W sc fok _ _ g h
      exact ⟨wkE h1 fun σ H Q ⟨G, e, r, q⟩ => ⟨G, e, r, q.toG⟩, wkT h2 fun σ H Q ⟨G, e, r, q⟩ => ⟨G, e, r, q⟩⟩
    · cases h
  | false =>
    refine .of (fun X W sc fok x g h => ?_) (fun _ _ => rfl) (fun _ _ _ => rfl) fun _ _ _ => rfl
    have h : mtE c (.bor es) sc x = true := h
    unfold mtE at h
    split at h
    · obtain ⟨h1, h2⟩ := go X W sc fok _ _ g h
      exact ⟨wkE h1 fun σ H Q ⟨G, e, r, q⟩ => ⟨G, e, r, q.toG⟩, wkT h2 fun σ H Q ⟨G, e, r, q⟩ => ⟨G, e, r, q⟩⟩
    · cases h
theorem snd_orf {a b : E} (sa : Snd T dis cf n c a) (sb : Snd T dis cf n c b) : Snd T dis cf n c (.orf a b) := .of (fun X W sc fok x g h => by
  unfold mtE at h
  split at h
  · simp only [Bool.and_eq_true] at h
    obtain ⟨⟨⟨⟨⟨h1, h2⟩, h3⟩, h4⟩, h5⟩, h6⟩ := h
    have pa := sa.e X W sc fok _ g h5
    have pb := sb.e X W sc fok _ g h6
    have p2 : PT X _ (tTB T W cf false (.cons a (.cons b .nil))) := (st_bool (k := false) (pos := ‹Pos›) (.cons h3 (v_of pa.1) pa.2 (.cons h4 (v_of pb.1) pb.2 .nil)) (fun z => nomatch z)).pt
    rw [h1] at pa
    rw [h2] at pb
    exact ⟨sr_orf pa.1 pb.1, wkT p2 fun σ H Q ⟨G, e, r, q⟩ => ⟨G, e, r, by rw [← ev_orf]; exact q⟩⟩
  · cases h) (fun _ _ => rfl) (fun _ _ _ => rfl) fun _ _ _ => rfl
theorem snd_not {a : E} (sa : Snd T dis cf n c a) : Snd T dis cf n c (.not a) := .of (fun X W sc fok x g h => by
  unfold mtE at h
  split at h
  · exact ⟨of_v (sv_not (sa.v g h)), st_not (sa.e X W sc fok _ g h).2⟩
  · cases h) (fun _ _ => rfl) (fun _ _ _ => rfl) fun _ _ _ => rfl
theorem pt_ite {X : Cx} {z x y : Expr} {tz tx ty : TT} {pos : Pos} (hz : PT X z tz) (hx : PT X x tx) (hy : PT X y ty) : PT X (.IfExp z x y pos) (fun σ H Q => tz σ H fun k H1 => if k = true then tx σ H1 Q else ty σ H1 Q) := by
  constructor
  intro pins s σ H Q I h
  show wpAny (model X.prog X.w) X.A (do if ← PySem.isTrue z X.env (PySem.eval z X.env) then PySem.isTrue x X.env (PySem.eval x X.env) else PySem.isTrue y X.env (PySem.eval y X.env)) (TP X pins σ Q) X.xe s
  refine wpAny_bind (thn (hz.run pins s σ H _ I h) ?_)
  rintro k s1 ⟨H1, I1, q⟩
  cases k with
  | true => exact hx.run pins s1 σ H1 Q I1 q
  | false => exact hy.run pins s1 σ H1 Q I1 q
theorem st_ite {X : Cx} {W : St → XK} {z x y : Expr} {d a b : E} {pos : Pos} (hz : PT X z (tT T W cf d)) (hx : PT X x (tT T W cf a)) (hy : PT X y (tT T W cf b)) : PT X (.IfExp z x y pos) (tT T W cf (.ite d a b)) :=
  wkT (pt_ite hz hx hy) fun σ H Q ⟨G, e, r, q⟩ => by
    have q : RnG IsK T W σ e G H (((ev cf d e).bind fun x e => (lift (truthy x) e).bind fun k e => if k = true then ev cf a e else ev cf b e).bind fun x e => lift (truthy x) e) Q := q
    have ea : ∀ r1 : R D, ((r1.bind fun x e => (lift (truthy x) e).bind fun k e => if k = true then ev cf a e else ev cf b e).bind fun x e => lift (truthy x) e) =
        (r1.bind fun x e => lift (truthy x) e).bind fun k e => if k = true then (ev cf a e).bind (fun x e => lift (truthy x) e) else (ev cf b e).bind (fun x e => lift (truthy x) e) := by
      intro r1
      cases r1 with
      | ok v e1 =>
        show ((lift (truthy v) e1).bind _).bind _ = (lift (truthy v) e1).bind _
        cases truthy v with
        | none => rfl
        | some k => cases k <;> rfl
      | ex _ _ _ => rfl
      | no => rfl
    rw [ea] at q
    exact ⟨G, e, r, RnG.bind q fun k e1 v H1 G1 _ r1 s1 q1 h1 => by
      cases q1
      cases k with
      | true => exact ⟨G1, e1, r1, h1⟩
      | false => exact ⟨G1, e1, r1, h1⟩⟩
theorem snd_ite {d a b : E} (sd : Snd T dis cf n c d) (sa : Snd T dis cf n c a) (sb : Snd T dis cf n c b) : Snd T dis cf n c (.ite d a b) := .of (fun X W sc fok x g h => by
  unfold mtE at h
  split at h
  · simp only [Bool.and_eq_true] at h
    obtain ⟨⟨h1, h2⟩, h3⟩ := h
    have pe := sv_ite (pos := ‹Pos›) (sd.e X W sc fok _ g h1).2 (sa.v g h2) (sb.v g h3)
    refine ⟨of_v pe, st_ite (sd.e X W sc fok _ g h1).2 (sa.e X W sc fok _ g h2).2 (sb.e X W sc fok _ g h3).2⟩
  · cases h) (fun _ _ => rfl) (fun _ _ _ => rfl) fun _ _ _ => rfl
theorem snd_call (f : Nat) {as : E} (sa : Snd T dis cf n c as) : Snd T dis cf n c (.call f as) := .of (fun X W sc fok x g h => by
  unfold mtE at h
  split at h
  · rw [Bool.and_eq_true] at h
    obtain ⟨d, h1, h2, h3, h4, h5⟩ := g.fnm h.1
    subst h2
    show PE X _ (tEv T W cf (c.frs f) _) ∧ _
    rw [← h3]
    exact both rfl (sr_call g.ok h1 h4 h5 (sa.es X W sc fok _ g h.2))
  · cases h) (fun _ _ => rfl) (fun _ _ _ => rfl) fun _ _ _ => rfl
theorem snd_callb (f i j : Nat) : Snd T dis cf n c (.callb f i j) := .of (fun X W sc fok x g h => by
  unfold mtE at h
  split at h
  · simp only [Bool.and_eq_true, Bool.not_eq_true', bne_iff_ne] at h
    obtain ⟨⟨⟨⟨q1, q2⟩, q3⟩, q4⟩, q5⟩ := h
    obtain ⟨d, h1, h2, h3, h4, h5⟩ := g.fnm q1
    obtain ⟨k1, k2, k3, k4⟩ := g.nm q3
    obtain ⟨m1, m2, m3, m4⟩ := g.nm q4
    subst h2
    exact both rfl (sv_callb g.ok h1 (h3.trans q2) h4 h5 k1 k2 k3 k4 m1 m2 m3 m4 q5)
  · cases h) (fun _ _ => rfl) (fun _ _ _ => rfl) fun _ _ _ => rfl
theorem snd_callo (f i : Nat) {as : E} (sa : Snd T dis cf n c as) : Snd T dis cf n c (.callo f i as) := .of (fun X W sc fok x g h => by
  unfold mtE at h
  split at h
  · simp only [Bool.and_eq_true] at h
    obtain ⟨d, h1, h2, h3, h4, h5⟩ := g.fnm h.1.1
    obtain ⟨k1, k2, k3, k4⟩ := g.nm h.1.2
    subst h2
    show PE X _ (tEv T W cf (c.frs f) _) ∧ _
    rw [← h3]
    exact both rfl (sr_callo g.ok h1 h4 h5 k1 k2 k3 k4 (sa.es X W sc fok _ g h.2))
  · cases h) (fun _ _ => rfl) (fun _ _ _ => rfl) fun _ _ _ => rfl
theorem snd_callf (f : Nat) {a as : E} (sa : Snd T dis cf n c a) (sas : Snd T dis cf n c as) : Snd T dis cf n c (.callf f a as) := .of (fun X W sc fok x g h => by
  unfold mtE at h
  split at h
  · simp only [Bool.and_eq_true] at h
    obtain ⟨⟨⟨⟨g1, g2⟩, g3⟩, g4⟩, g5⟩ := h
    obtain ⟨d, h1, h2, h3, h4, h5⟩ := g.fnm g1
    subst h2
    have pa := (sa.e X W sc fok _ g g4).1
    rw [g2] at pa
    show PE X _ (tEv T W cf (c.frs f) _) ∧ _
    rw [← h3]
    exact both rfl (sr_callf g.ok h1 h4 h5 g3 pa (sas.es X W sc fok _ g g5))
  · cases h) (fun _ _ => rfl) (fun _ _ _ => rfl) fun _ _ _ => rfl
theorem snd_callk (f : Nat) (pl : List Nat) {as bs : E} (sa : Snd T dis cf n c as) (sb : Snd T dis cf n c bs) : Snd T dis cf n c (.callk f as bs pl) := .of (fun X W sc fok x g h => by
  unfold mtE at h
  split at h
  · simp only [Bool.and_eq_true, List.any_eq_true, decide_eq_true_eq] at h
    obtain ⟨⟨g1, q, q1, ⟨⟨q2, q3⟩, q4⟩, q5⟩, g2⟩ := h
    obtain ⟨d, h1, h2, h3, h4, h5⟩ := g.fnm g1
    subst h2
    have kw := g.kw q q1 d (by rw [q2]; exact h1)
    rw [q3, q4] at kw
    show PE X _ (tEv T W cf (c.frs f) _) ∧ _
    rw [← h3]
    exact both rfl (sr_callk g.ok h1 h4 h5 kw (sa.es X W sc fok _ g g2) (sb.k X W sc fok _ _ g q5))
  · cases h) (fun _ _ => rfl) (fun _ _ _ => rfl) fun _ _ _ => rfl
theorem snd_bi (b : Bi) {a : E} (sa : Snd T dis cf n c a) : Snd T dis cf n c (.bi b a) := .of (fun X W sc fok x g h => by
  unfold mtE at h
  split at h
  · simp only [Bool.and_eq_true] at h
    obtain ⟨⟨g1, g2⟩, g3⟩ := h
    obtain ⟨e1, h1, h2⟩ := g.bi g1 (biN_in b)
    subst e1
    have v := sa.v g g3
    cases b with
    | list => exact both rfl (sr_list h1 h2 g2 v)
    | len => exact both rfl (of_v (sv_bi g.hc g.hu .len h1 h2 g2 v))
    | abs => exact both rfl (of_v (sv_bi g.hc g.hu .abs h1 h2 g2 v))
    | int => exact both rfl (of_v (sv_bi g.hc g.hu .int h1 h2 g2 v))
    | tuple => exact both rfl (of_v (sv_bi g.hc g.hu .tuple h1 h2 g2 v))
    | all => exact both rfl (of_v (sv_bi g.hc g.hu .all h1 h2 g2 v))
    | sum => exact both rfl (of_v (sv_bi g.hc g.hu .sum h1 h2 g2 v))
    | min => exact both rfl (of_v (sv_bi g.hc g.hu .min h1 h2 g2 v))
    | max => exact both rfl (of_v (sv_bi g.hc g.hu .max h1 h2 g2 v))
    | any => exact both rfl (of_v (sv_bi g.hc g.hu .any h1 h2 g2 v))
  · cases h) (fun _ _ => rfl) (fun _ _ _ => rfl) fun _ _ _ => rfl
theorem snd_leno (i : Nat) : Snd T dis cf n c (.leno i) := .of (fun X W sc fok x g h => by
  unfold mtE at h
  split at h
  · rw [Bool.and_eq_true] at h
    obtain ⟨e1, h1, h2⟩ := g.bi h.1 (biN_in .len)
    obtain ⟨k1, k2, k3, k4⟩ := g.nm h.2
    subst e1
    exact both rfl (of_v (sv_leno k1 k2 k3 k4 h1 h2))
  · cases h) (fun _ _ => rfl) (fun _ _ _ => rfl) fun _ _ _ => rfl
theorem isi_in : ("isinstance" : Str) ∈ bnames := by decide
theorem snd_isi (t : Ty) {a : E} (sa : Snd T dis cf n c a) : Snd T dis cf n c (.isi a t) := .of (fun X W sc fok x g h => by
  unfold mtE at h
  split at h
  · simp only [Bool.and_eq_true] at h
    obtain ⟨⟨⟨g1, g2⟩, g3⟩, g4⟩ := h
    obtain ⟨e1, h1, h2⟩ := g.bi g1 isi_in
    obtain ⟨e2, h3, h4⟩ := g.bi g2 (tyN_in t)
    subst e1 e2
    exact both rfl (of_v (sv_isi h1 h2 h3 h4 g3 (sa.v g g4)))
  · cases h) (fun _ _ => rfl) (fun _ _ _ => rfl) fun _ _ _ => rfl
theorem snd_isis (ts : List Ty) {a : E} (sa : Snd T dis cf n c a) : Snd T dis cf n c (.isis a ts) := .of (fun X W sc fok x g h => by
  unfold mtE at h
  split at h
  · simp only [Bool.and_eq_true, decide_eq_true_eq] at h
    obtain ⟨⟨⟨⟨g1, g2⟩, g3⟩, g4⟩, g5⟩ := h
    obtain ⟨e1, h1, h2⟩ := g.bi g1 isi_in
    subst e1
    exact both rfl (of_v (sv_isis h1 h2 (g.tys g2) g3 g4 (sa.v g g5)))
  · cases h) (fun _ _ => rfl) (fun _ _ _ => rfl) fun _ _ _ => rfl
theorem snd_ix {a k : E} (sa : Snd T dis cf n c a) (sk : Snd T dis cf n c k) : Snd T dis cf n c (.ix a k) := .of (fun X W sc fok x g h => by
  unfold mtE at h
  split at h
  · simp only [Bool.and_eq_true, Bool.not_eq_true'] at h
    exact both rfl (of_v (sv_ix g.hu (slice_ix h.1.1) (sa.v g h.1.2) (sk.v g h.2)))
  · cases h) (fun _ _ => rfl) (fun _ _ _ => rfl) fun _ _ _ => rfl
theorem snd_ixo (i : Nat) {k : E} (sk : Snd T dis cf n c k) : Snd T dis cf n c (.ixo i k) := .of (fun X W sc fok x g h => by
  unfold mtE at h
  split at h
  · simp only [Bool.and_eq_true, Bool.not_eq_true'] at h
    obtain ⟨k1, k2, k3, k4⟩ := g.nm h.1.2
    exact both rfl (of_v (sv_ixo g.hu k1 k2 k3 k4 (slice_ix h.1.1) (sk.v g h.2)))
  · cases h) (fun _ _ => rfl) (fun _ _ _ => rfl) fun _ _ _ => rfl
theorem Snd.o {a : E} (s : Snd T dis cf n c a) {X : Cx} {W : St → XK} {sc : Scope} {fok : Str → Bool} {l : Option Expr} (g : Good X T W dis cf n c sc fok) (h : (match l with | none => isAbs a | some y => !isAbs a && mtE c a sc y) = true) : PO X l (tO T W cf a) := by
  cases l with
  | none =>
    have h : isAbs a = true := h
    cases a <;> first | exact so_none | cases h
  | some y =>
    rw [Bool.and_eq_true, Bool.not_eq_true'] at h
    exact so_some h.1 (s.v g h.2)
theorem snd_sl {a lo hi : E} (sa : Snd T dis cf n c a) (sl : Snd T dis cf n c lo) (sh : Snd T dis cf n c hi) : Snd T dis cf n c (.sl a lo hi) := .of (fun X W sc fok x g h => by
  unfold mtE at h
  split at h
  · rw [Bool.and_eq_true, Bool.and_eq_true] at h
    exact both rfl (of_v (sv_sl g.kf (sa.v g h.1.1) (sl.o g h.1.2) (sh.o g h.2)))
  · cases h) (fun _ _ => rfl) (fun _ _ _ => rfl) fun _ _ _ => rfl
theorem att_base {x : Expr} (h : isCl x = false) (f : Str) (env : PySem.Env) : attributeBase x f env (eval x env) = eval x env := by
  cases x <;> first | rfl | cases h
theorem snd_fld {a : E} (f : Str) (sa : Snd T dis cf n c a) : Snd T dis cf n c (.fld a f) := .of (fun X W sc fok x g h => by
  unfold mtE at h
  split at h
  · simp only [Bool.and_eq_true, decide_eq_true_eq, Bool.not_eq_true'] at h
    obtain ⟨⟨h1, h2⟩, h3⟩ := h
    subst h1
    exact both rfl (of_v (sv_fld g.ca (att_base h2 _ _) (sa.v g h3)))
  · cases h) (fun _ _ => rfl) (fun _ _ _ => rfl) fun _ _ _ => rfl
theorem sv_isx {X : Cx} {W : St → XK} {a : E} {yes : List Nat} {x : Expr} {m : Str} {p p2 pos : Pos} (hA : ∀ k, k < KF.nc → ∃ C, ClA X.K k C) (hq : XiOk X.K X.mg (m, yes)) (hg : Gl X "isinstance") (hm : X.mg "isinstance" = none) (hg2 : Gl X m) (db : (m == ("__debug__" : Str)) = false) (hs : starless x = true)
    (ha : PE X x (tV T W cf a)) : PE X (.Call (.Name "isinstance" p) [x, .Name m p2] [] pos) (tV T W cf (.isx a yes)) := by
  obtain ⟨cv, hy, hv⟩ := hq
  have rd : ∀ (v : V) (σ : St) (H : Hp) (Q : VK) (d : D) (e1 : Env) (G1 : Hp), Rel H G1 σ e1 → Rep G1 v d → RnG Rep T W σ e1 G1 H (match d with
      | .err c _ _ => .ok (.bl (yes.contains c)) e1
      | _ => .no) Q → ∃ (c : Nat) (ns : List Str) (fs : List D), d = .err c ns fs ∧ Q (.bl (yes.contains c)) H := by
    intro v σ H Q d e1 G1 r q h
    cases d with
    | err c ns fs => exact ⟨c, ns, fs, rfl, h.here r (.bl _)⟩
    | _ => exact h.elim
  have key : ∀ (cvv : V) {ec : Expr} (he : PE X ec (L2.tC cvv)), (∀ u, RelV cvv u → u = cv) → starless ec = true → PE X (.Call (.Name "isinstance" p) [x, ec] [] pos) (tV T W cf (.isx a yes)) := by
    intro cvv ec he hu hse
    refine wkE (pe_callB (call_isx hA hy) hg hm PyProof.Rows.boot_isinstance (pa_cons ha (pa_cons he pa_nil (star_cons hse _ _)) (star_cons hs _ _)) isi_ne.1 isi_ne.2 (star_cons hs _ _) (by rw [star_cons hse]; rfl)) fun σ H Q ⟨G, e, r, q⟩ => ⟨G, e, r, RnG.bind q fun d e1 v H1 G1 _ r1 s1 q1 h1 => ?_⟩
    obtain ⟨k, ns, fs, rfl, h2⟩ := rd v σ H1 Q d e1 G1 r1 q1 h1
    exact ⟨v, cvv, G1, k, ns, fs, rfl, hu, r1.sub, q1, h2⟩
  rcases hv with ⟨C, rfl, hC⟩ | ⟨bn, rfl, h1, h2, h3⟩
  · exact key (.ref C) (pe_glob hg2 hC rfl db) (fun u h => h) rfl
  · exact key (.ty bn) (pe_bltn hg2 h1 h2 rfl h3 db) (fun u h => h) rfl
theorem snd_isx {a : E} (yes : List Nat) (sa : Snd T dis cf n c a) : Snd T dis cf n c (.isx a yes) := .of (fun X W sc fok x g h => by
  unfold mtE at h
  split at h
  · simp only [Bool.and_eq_true, List.any_eq_true, decide_eq_true_eq] at h
    obtain ⟨⟨⟨⟨⟨h1, h2⟩, h3⟩, ⟨m, ys⟩, hq, h4, h5⟩, h6⟩, h7⟩ := h
    have h4 : m = _ := h4
    have h5 : ys = yes := h5
    subst h4 h5
    obtain ⟨e1, b1, b2⟩ := g.bi h1 (by decide)
    subst e1
    unfold notDbg at h3
    rw [Bool.not_eq_true'] at h3
    exact both rfl (of_v (sv_isx g.ca (g.xi _ hq) b1 b2 (g.gl h2) h3 h6 (sa.v g h7)))
  · cases h) (fun _ _ => rfl) (fun _ _ _ => rfl) fun _ _ _ => rfl
theorem snd_rev {a : E} (sa : Snd T dis cf n c a) : Snd T dis cf n c (.rev a) := .of (fun X W sc fok x g h => by
  unfold mtE at h
  split at h
  · exact both rfl (of_v (sv_rev (sa.v g h)))
  · cases h) (fun _ _ => rfl) (fun _ _ _ => rfl) fun _ _ _ => rfl
theorem snd_lst {as : E} (sa : Snd T dis cf n c as) : Snd T dis cf n c (.lst as) := .of (fun X W sc fok x g h => by
  unfold mtE at h
  split at h
  · exact both rfl (sr_lst (sa.es X W sc fok _ g h))
  · cases h) (fun _ _ => rfl) (fun _ _ _ => rfl) fun _ _ _ => rfl
theorem snd_tup {as : E} (sa : Snd T dis cf n c as) : Snd T dis cf n c (.tup as) := .of (fun X W sc fok x g h => by
  unfold mtE at h
  split at h
  · exact both rfl (of_v (sv_tup (sa.es X W sc fok _ g h)))
  · cases h) (fun _ _ => rfl) (fun _ _ _ => rfl) fun _ _ _ => rfl
theorem own_map (own : List Nat) : (ownS c own).map (·.2) = own := by
  unfold ownS
  rw [List.map_map]
  exact List.map_id own
/-- what a comprehension's text gives -/
structure LcOk (X : Cx) (T : XT) (W : St → XK) (cf : CF) (c : Ct) (sc : Scope) (el : E) (t : Tg) (it d : E) (own : List Nat) (elt tg iter : Expr) (ifs : List Expr) (scope : Scope) : Prop where
  hi : PI X tg iter (tI T W cf it)
  ok : BlkOk X.N X.env.scope scope (ownS c own)
  hsub : ∀ j ∈ tnames t, j ∈ (ownS c own).map (·.2)
  hg : ∀ (s : Shared) (H : Hp) (C : Addr) (cl : List (Str × Addr)) (fp : List Addr), STg (X.blk s H scope (compEnvC scope cl C X.env) fp) tg t
  ht : ∀ (s : Shared) (H : Hp) (C : Addr) (cl : List (Str × Addr)) (fp : List Addr), PTs (X.blk s H scope (compEnvC scope cl C X.env) fp) ifs (tC T (fun _ => E0) cf d)
  he : ∀ (s : Shared) (H : Hp) (C : Addr) (cl : List (Str × Addr)) (fp : List Addr), PE (X.blk s H scope (compEnvC scope cl C X.env) fp) elt (tV T (fun _ => E0) cf el)
  hs : ∀ x, foldedSetIterable iter X.env x = pure x
theorem lc_ok {el it d : E} {t : Tg} {own : List Nat} (sel : Snd T dis cf n c el) (sit : Snd T dis cf n c it) (sd : Snd T dis cf n c d) {X : Cx} {W : St → XK} {sc : Scope} {fok : Str → Bool} {elt tg iter : Expr} {ifs : List Expr} {ia : Int} {scope : Scope} {p : Pos} (g : Good X T W dis cf n c sc fok)
    (h : mtE c (.lc el t it d own) sc (.ListComp elt [⟨tg, iter, ifs, ia⟩] scope p) = true) : ia = 0 ∧ LcOk X T W cf c sc el t it d own elt tg iter ifs scope := by
  unfold mtE at h
  simp only [Bool.and_eq_true, decide_eq_true_eq, Bool.not_eq_true'] at h
  obtain ⟨⟨⟨⟨⟨⟨⟨h1, h2⟩, h3⟩, h4⟩, h5⟩, h6⟩, h7⟩, h8⟩ := h
  refine ⟨h1, sit.i X W sc fok tg iter g h6, by rw [g.N, g.sc]; exact blkOk_by h2, fun j hj => ?_, fun s H C cl fp => (g.blk s H scope C cl fp).tg h4, fun s H C cl fp => ?_, fun s H C cl fp => sel.v (g.blk s H scope C cl fp) h7, set_it h5 _⟩
  · rw [own_map]
    have := List.all_eq_true.mp h3 j hj
    exact List.contains_iff_mem.mp this
  · split at h8
    · cases d <;> first | exact sc_nil | cases h8
    · rw [Bool.and_eq_true, Bool.not_eq_true'] at h8
      exact sc_one h8.1 (sd.e _ (fun _ => E0) _ _ _ (g.blk s H scope C cl fp) h8.2).2
    · cases h8
theorem snd_lc {el it d : E} (t : Tg) (own : List Nat) (sel : Snd T dis cf n c el) (sit : Snd T dis cf n c it) (sd : Snd T dis cf n c d) : Snd T dis cf n c (.lc el t it d own) := .of (fun X W sc fok x g h => by
  have h' := h
  unfold mtE at h
  split at h
  · obtain ⟨e0, q⟩ := lc_ok sel sit sd g h'
    subst e0
    have pe := sr_lc (pos := ‹Pos›) g.hc g.nd q.hi q.ok q.hsub q.hg q.ht q.he q.hs
    rw [own_map] at pe
    exact both rfl pe
  · cases h) (fun _ _ => rfl) (fun _ _ _ => rfl) fun _ _ _ => rfl
structure Lc2Ok (X : Cx) (T : XT) (W : St → XK) (cf : CF) (c : Ct) (sc : Scope) (el : E) (t : Tg) (it : E) (t1 : Tg) (it1 d : E) (own own1 : List Nat) (elt tg iter tg1 iter1 : Expr) (ifs : List Expr) (scope : Scope) : Prop where
  hi : PI X tg iter (tI T W cf it)
  ok : BlkOk X.N X.env.scope scope (ownS c own)
  hsub : ∀ j ∈ tnames t, j ∈ (ownS c own).map (·.2)
  hsub1 : ∀ j ∈ tnames t1, j ∈ own1
  ho : ∀ j ∈ own1, j ∈ (ownS c own).map (·.2)
  hb : ∀ (s : Shared) (H : Hp) (C : Addr) (cl : List (Str × Addr)) (fp : List Addr), STg (X.blk s H scope (compEnvC scope cl C X.env) fp) tg t ∧ PI (X.blk s H scope (compEnvC scope cl C X.env) fp) tg1 iter1 (tI T (fun _ => E0) cf it1) ∧ STg (X.blk s H scope (compEnvC scope cl C X.env) fp) tg1 t1 ∧
      PTs (X.blk s H scope (compEnvC scope cl C X.env) fp) ifs (tC T (fun _ => E0) cf d) ∧ PE (X.blk s H scope (compEnvC scope cl C X.env) fp) elt (tV T (fun _ => E0) cf el)
  hs : ∀ x, foldedSetIterable iter X.env x = pure x
  hs1 : ∀ env x, foldedSetIterable iter1 env x = pure x
theorem lc2_ok {el it it1 d : E} {t t1 : Tg} {own own1 : List Nat} (sel : Snd T dis cf n c el) (sit : Snd T dis cf n c it) (sit1 : Snd T dis cf n c it1) (sd : Snd T dis cf n c d) {X : Cx} {W : St → XK} {sc : Scope} {fok : Str → Bool} {elt tg iter tg1 iter1 : Expr} {ifs : List Expr} {ia ib : Int} {scope : Scope} {p : Pos} (g : Good X T W dis cf n c sc fok)
    (h : mtE c (.lc2 el t it t1 it1 d own own1) sc (.ListComp elt [⟨tg, iter, [], ia⟩, ⟨tg1, iter1, ifs, ib⟩] scope p) = true) : ia = 0 ∧ ib = 0 ∧ Lc2Ok X T W cf c sc el t it t1 it1 d own own1 elt tg iter tg1 iter1 ifs scope := by
  unfold mtE at h
  simp only [Bool.and_eq_true, decide_eq_true_eq, Bool.not_eq_true'] at h
  obtain ⟨⟨⟨⟨⟨⟨⟨⟨⟨⟨⟨⟨⟨h1, h2⟩, h3⟩, h4⟩, h5⟩, h6⟩, h7⟩, h8⟩, h9⟩, h10⟩, h11⟩, h12⟩, h13⟩, h14⟩ := h
  refine ⟨h1, h2, sit.i X W sc fok tg iter g h11, by rw [g.N, g.sc]; exact blkOk_by h3, fun j hj => ?_, fun j hj => List.contains_iff_mem.mp (List.all_eq_true.mp h5 j hj), fun j hj => ?_, fun s H C cl fp => ⟨(g.blk s H scope C cl fp).tg h7, sit1.i _ (fun _ => E0) _ _ tg1 iter1 (g.blk s H scope C cl fp) h12, (g.blk s H scope C cl fp).tg h8, ?_, sel.v (g.blk s H scope C cl fp) h13⟩, set_it h9 _, fun env => set_it h10 env⟩
  · rw [own_map]
    exact List.contains_iff_mem.mp (List.all_eq_true.mp h4 j hj)
  · rw [own_map]
    exact List.contains_iff_mem.mp (List.all_eq_true.mp h6 j hj)
  · split at h14
    · cases d <;> first | exact sc_nil | cases h14
    · rw [Bool.and_eq_true, Bool.not_eq_true'] at h14
      exact sc_one h14.1 (sd.e _ (fun _ => E0) _ _ _ (g.blk s H scope C cl fp) h14.2).2
    · cases h14
theorem snd_lc2 {el it it1 d : E} (t t1 : Tg) (own own1 : List Nat) (sel : Snd T dis cf n c el) (sit : Snd T dis cf n c it) (sit1 : Snd T dis cf n c it1) (sd : Snd T dis cf n c d) : Snd T dis cf n c (.lc2 el t it t1 it1 d own own1) := .of (fun X W sc fok x g h => by
  have h' := h
  unfold mtE at h
  split at h
  · obtain ⟨e0, e1, q⟩ := lc2_ok sel sit sit1 sd g h'
    subst e0 e1
    have pe := sr_lc2 (pos := ‹Pos›) g.hc g.nd q.hi q.ok q.hsub q.hsub1 q.ho q.hb q.hs q.hs1
    rw [own_map] at pe
    exact both rfl pe
  · cases h) (fun _ _ => rfl) (fun _ _ _ => rfl) fun _ _ _ => rfl
theorem rng_in : ("range" : Str) ∈ bnames := by decide
theorem mm_in (mx : Bool) : mmN mx ∈ bnames := by cases mx <;> decide
theorem snd_inr1 {a d : E} (neg : Bool) (sa : Snd T dis cf n c a) (sd : Snd T dis cf n c d) : Snd T dis cf n c (.inr1 neg a d) := .of (fun X W sc fok x g h => by
  unfold mtE at h
  split at h
  · simp only [Bool.and_eq_true, decide_eq_true_eq] at h
    obtain ⟨⟨⟨⟨h1, h2⟩, h3⟩, h4⟩, h5⟩ := h
    obtain ⟨e1, b1, b2⟩ := g.bi h2 rng_in
    subst h1 e1
    exact ⟨of_v (sv_inr1 b1 b2 h3 (sa.v g h4) (sd.v g h5)), st_inr1 b1 b2 h3 (sa.v g h4) (sd.v g h5)⟩
  · cases h) (fun _ _ => rfl) (fun _ _ _ => rfl) fun _ _ _ => rfl
theorem snd_inr2 {a b d : E} (neg : Bool) (sa : Snd T dis cf n c a) (sb : Snd T dis cf n c b) (sd : Snd T dis cf n c d) : Snd T dis cf n c (.inr2 neg a b d) := .of (fun X W sc fok x g h => by
  unfold mtE at h
  split at h
  · simp only [Bool.and_eq_true, decide_eq_true_eq] at h
    obtain ⟨⟨⟨⟨⟨⟨h1, h2⟩, h3⟩, h4⟩, h5⟩, h6⟩, h7⟩ := h
    obtain ⟨e1, b1, b2⟩ := g.bi h2 rng_in
    subst h1 e1
    exact ⟨of_v (sv_inr2 b1 b2 h3 h4 (sa.v g h5) (sb.v g h6) (sd.v g h7)), st_inr2 b1 b2 h3 h4 (sa.v g h5) (sb.v g h6) (sd.v g h7)⟩
  · cases h) (fun _ _ => rfl) (fun _ _ _ => rfl) fun _ _ _ => rfl
theorem snd_mm {a b : E} (mx : Bool) (sa : Snd T dis cf n c a) (sb : Snd T dis cf n c b) : Snd T dis cf n c (.mm mx a b) := .of (fun X W sc fok x g h => by
  unfold mtE at h
  split at h
  · simp only [Bool.and_eq_true] at h
    obtain ⟨⟨⟨⟨h1, h2⟩, h3⟩, h4⟩, h5⟩ := h
    obtain ⟨e1, b1, b2⟩ := g.bi h1 (mm_in mx)
    subst e1
    exact both rfl (of_v (sv_mm g.hc b1 b2 h2 h3 (sa.v g h4) (sb.v g h5)))
  · cases h) (fun _ _ => rfl) (fun _ _ _ => rfl) fun _ _ _ => rfl
/-- what is no expression alone -/
theorem Snd.it {a : E} (h : ∀ (X : Cx) (W : St → XK) (sc : Scope) (fok : Str → Bool) (tg x : Expr), Good X T W dis cf n c sc fok → mtI c a sc tg x = true → PI X tg x (tI T W cf a)) (h0 : ∀ sc x, mtE c a sc x = false)
    (h1 : ∀ sc xs, mtEs c a sc xs = false) (h2 : ∀ sc kws ks, mtK c a sc kws ks = false) : Snd T dis cf n c a :=
  ⟨fun X W sc fok x _ q => (by rw [h0] at q; cases q), fun X W sc fok xs _ q => (by rw [h1] at q; cases q), fun X W sc fok kws ks _ q => (by rw [h2] at q; cases q), h⟩
theorem enu_in : ("enumerate" : Str) ∈ bnames := by decide
theorem zip_in : ("zip" : Str) ∈ bnames := by decide
theorem snd_seq {a : E} (sa : Snd T dis cf n c a) : Snd T dis cf n c (.seq a) := .it (fun X W sc fok tg x g h => si_seq (sa.v g h)) (fun _ _ => rfl) (fun _ _ => rfl) fun _ _ _ => rfl
theorem snd_range1 {a : E} (sa : Snd T dis cf n c a) : Snd T dis cf n c (.range1 a) := .it (fun X W sc fok tg x g h => by
  unfold mtI at h
  split at h
  · simp only [Bool.and_eq_true] at h
    obtain ⟨e1, h1, h2⟩ := g.bi h.1.1 rng_in
    subst e1
    exact si_range1 h1 h2 h.1.2 (sa.v g h.2)
  · cases h) (fun _ _ => rfl) (fun _ _ => rfl) fun _ _ _ => rfl
theorem snd_range2 {a b : E} (sa : Snd T dis cf n c a) (sb : Snd T dis cf n c b) : Snd T dis cf n c (.range2 a b) := .it (fun X W sc fok tg x g h => by
  unfold mtI at h
  split at h
  · simp only [Bool.and_eq_true] at h
    obtain ⟨⟨⟨⟨g1, g2⟩, g3⟩, g4⟩, g5⟩ := h
    obtain ⟨e1, h1, h2⟩ := g.bi g1 rng_in
    subst e1
    exact si_range2 h1 h2 g2 g3 (sa.v g g4) (sb.v g g5)
  · cases h) (fun _ _ => rfl) (fun _ _ => rfl) fun _ _ _ => rfl
theorem snd_enum {a : E} (sa : Snd T dis cf n c a) : Snd T dis cf n c (.enum a) := .it (fun X W sc fok tg x g h => by
  unfold mtI at h
  split at h
  · simp only [Bool.and_eq_true] at h
    obtain ⟨⟨⟨g0, g1⟩, g2⟩, g3⟩ := h
    obtain ⟨e1, h1, h2⟩ := g.bi g1 enu_in
    subst e1
    cases tg <;> first | exact si_enum h1 h2 g2 (sa.v g g3) | cases g0
  · cases h) (fun _ _ => rfl) (fun _ _ => rfl) fun _ _ _ => rfl
theorem snd_zip {a b : E} (sa : Snd T dis cf n c a) (sb : Snd T dis cf n c b) : Snd T dis cf n c (.zip a b) := .it (fun X W sc fok tg x g h => by
  unfold mtI at h
  split at h
  · simp only [Bool.and_eq_true] at h
    obtain ⟨⟨⟨⟨⟨g0, g1⟩, g2⟩, g3⟩, g4⟩, g5⟩ := h
    obtain ⟨e1, h1, h2⟩ := g.bi g1 zip_in
    subst e1
    cases tg <;> first | exact si_zip h1 h2 g2 g3 (sa.v g g4) (sb.v g g5) | cases g0
  · cases h) (fun _ _ => rfl) (fun _ _ => rfl) fun _ _ _ => rfl
theorem snd_nil : Snd T dis cf n c .nil := by
  refine ⟨fun X W sc fok x _ q => ?_, fun X W sc fok xs _ q => ?_, fun X W sc fok kws ks _ q => ?_, fun X W sc fok tg x _ q => ?_⟩
  · cases q
  · cases xs with
    | nil => exact .nil
    | cons _ _ => cases q
  · cases kws with
    | nil =>
      cases ks with
      | nil => exact .nil
      | cons _ _ => cases q
    | cons _ _ => cases q
  · cases q
theorem snd_cons {a as : E} (sa : Snd T dis cf n c a) (sas : Snd T dis cf n c as) : Snd T dis cf n c (.cons a as) := by
  refine ⟨fun X W sc fok x _ q => ?_, fun X W sc fok xs g q => ?_, fun X W sc fok kws ks g q => ?_, fun X W sc fok tg x _ q => ?_⟩
  · cases q
  · cases xs with
    | nil => cases q
    | cons x xs =>
      have q : (starless x && mtE c a sc x && mtEs c as sc xs) = true := q
      simp only [Bool.and_eq_true] at q
      exact .cons q.1.1 (sa.v g q.1.2) (sa.e X W sc fok x g q.1.2).2 (sas.es X W sc fok xs g q.2)
  · cases kws with
    | nil => cases q
    | cons kw kws =>
      obtain ⟨k, x, p⟩ := kw
      cases k with
      | none => cases q
      | some k =>
        cases ks with
        | nil => cases q
        | cons k' ks =>
          have q : (decide (k = k') && mtE c a sc x && mtK c as sc kws ks) = true := q
          simp only [Bool.and_eq_true, decide_eq_true_eq] at q
          obtain ⟨⟨q1, q2⟩, q3⟩ := q
          subst q1
          exact .cons (sa.v g q2) (sas.k X W sc fok kws ks g q3)
  · cases q
theorem snd_dct {a : E} (sa : Snd T dis cf n c a) : Snd T dis cf n c (.dct a) := .of (fun X W sc fok x g h => by
  unfold mtE at h
  split at h
  · simp only [Bool.and_eq_true] at h
    obtain ⟨⟨g1, g2⟩, g3⟩ := h
    obtain ⟨e1, h1, h2⟩ := g.bi g1 (by decide +kernel)
    subst e1
    exact both rfl (sr_dct g.hc g.hu h1 h2 g2 (sa.v g g3))
  · cases h) (fun _ _ => rfl) (fun _ _ _ => rfl) fun _ _ _ => rfl
theorem snd_ladd {a b : E} (sa : Snd T dis cf n c a) (sb : Snd T dis cf n c b) : Snd T dis cf n c (.ladd a b) := .of (fun X W sc fok x g h => by
  unfold mtE at h
  split at h
  · simp only [Bool.and_eq_true, decide_eq_true_eq] at h
    obtain ⟨⟨h1, h2⟩, h3⟩ := h
    subst h1
    exact both rfl (sr_ladd (sa.v g h2) (sb.v g h3))
  · cases h) (fun _ _ => rfl) (fun _ _ _ => rfl) fun _ _ _ => rfl
theorem srt_in : ("sorted" : Str) ∈ bnames := by decide
theorem snd_srt {a : E} (sa : Snd T dis cf n c a) : Snd T dis cf n c (.srt a) := .of (fun X W sc fok x g h => by
  unfold mtE at h
  split at h
  · simp only [Bool.and_eq_true] at h
    obtain ⟨⟨g1, g2⟩, g3⟩ := h
    obtain ⟨e1, h1, h2⟩ := g.bi g1 srt_in
    subst e1
    exact both rfl (sr_srt g.hc h1 h2 g2 (sa.v g g3))
  · cases h) (fun _ _ => rfl) (fun _ _ _ => rfl) fun _ _ _ => rfl
theorem snd_lz3 {as : E} (sa : Snd T dis cf n c as) : Snd T dis cf n c (.lz3 as) := .of (fun X W sc fok x g h => by
  unfold mtE at h
  split at h
  · simp only [Bool.and_eq_true] at h
    obtain ⟨⟨g1, g2⟩, g3⟩ := h
    obtain ⟨e1, h1, h2⟩ := g.bi g1 (by decide : ("list" : Str) ∈ bnames)
    obtain ⟨e2, h3, h4⟩ := g.bi g2 zip_in
    subst e1
    subst e2
    exact both rfl (sr_lz3 g.hc h1 h2 h3 h4 (sa.es X W sc fok _ g g3))
  · cases h) (fun _ _ => rfl) (fun _ _ _ => rfl) fun _ _ _ => rfl
theorem snd_srto (i : Nat) : Snd T dis cf n c (.srto i) := .of (fun X W sc fok x g h => by
  unfold mtE at h
  split at h
  · rw [Bool.and_eq_true] at h
    obtain ⟨e1, h1, h2⟩ := g.bi h.1 srt_in
    obtain ⟨k1, k2, k3, k4⟩ := g.nm h.2
    subst e1
    exact both rfl (sr_srto g.hc h1 h2 k1 k2 k3 k4)
  · cases h) (fun _ _ => rfl) (fun _ _ _ => rfl) fun _ _ _ => rfl
theorem snd_dget (i : Nat) {k d : E} (sk : Snd T dis cf n c k) (sd : Snd T dis cf n c d) : Snd T dis cf n c (.dget i k d) := .of (fun X W sc fok x g h => by
  unfold mtE at h
  split at h
  · simp only [Bool.and_eq_true, decide_eq_true_eq] at h
    obtain ⟨⟨⟨⟨⟨⟨q1, q2⟩, q3⟩, q4⟩, q5⟩, q6⟩, q7⟩ := h
    obtain ⟨k1, k2, k3, k4⟩ := g.nm q1
    subst q2
    exact both rfl (of_v (sv_dget g.hu k1 k2 k3 k4 q3 q4 q5 (sk.v g q6) (sd.v g q7)))
  · cases h) (fun _ _ => rfl) (fun _ _ _ => rfl) fun _ _ _ => rfl
theorem snd_dino (neg : Bool) (i : Nat) {k : E} (sk : Snd T dis cf n c k) : Snd T dis cf n c (.dino neg k i) := .of (fun X W sc fok x g h => by
  unfold mtE at h
  split at h
  · simp only [Bool.and_eq_true, decide_eq_true_eq] at h
    obtain ⟨⟨q1, q2⟩, q3⟩ := h
    obtain ⟨k1, k2, k3, k4⟩ := g.nm q2
    subst q1
    exact ⟨of_v (sv_dino g.hu k1 k2 k3 k4 (sk.v g q3)), st_dino g.hu k1 k2 k3 k4 (sk.v g q3)⟩
  · cases h) (fun _ _ => rfl) (fun _ _ _ => rfl) fun _ _ _ => rfl
theorem snd_demp : Snd T dis cf n c .demp := .of (fun X W sc fok x g h => by
  unfold mtE at h
  split at h
  · exact both rfl sr_demp
  · cases h) (fun _ _ => rfl) (fun _ _ _ => rfl) fun _ _ _ => rfl
theorem snd_cat {a b : E} (sa : Snd T dis cf n c a) (sb : Snd T dis cf n c b) : Snd T dis cf n c (.cat a b) := .of (fun X W sc fok x g h => by
  unfold mtE at h
  split at h
  · rw [Bool.and_eq_true] at h
    exact both rfl (sr_cat (sa.v g h.1) (sb.v g h.2))
  · cases h) (fun _ _ => rfl) (fun _ _ _ => rfl) fun _ _ _ => rfl
theorem snd_lcnt {a b : E} (sa : Snd T dis cf n c a) (sb : Snd T dis cf n c b) : Snd T dis cf n c (.lcnt a b) := .of (fun X W sc fok x g h => by
  unfold mtE at h
  split at h
  · simp only [Bool.and_eq_true, decide_eq_true_eq, Bool.not_eq_true'] at h
    obtain ⟨⟨⟨⟨⟨q1, q2⟩, q3⟩, q4⟩, q5⟩, q6⟩ := h
    subst q1
    exact both rfl (of_v (sv_lcnt q4 q3 (fun f => att_base q2 f _) (sa.v g q5) (sb.v g q6)))
  · cases h) (fun _ _ => rfl) (fun _ _ _ => rfl) fun _ _ _ => rfl
theorem snd_absent : Snd T dis cf n c .absent := by
  refine ⟨fun X W sc fok x _ q => ?_, fun X W sc fok xs _ q => ?_, fun X W sc fok kws ks _ q => ?_, fun X W sc fok tg x _ q => ?_⟩ <;> cases q
/-- each text is what its term says -/
theorem snd : ∀ a : E, Snd T dis cf n c a
  | .ci i => snd_ci i
  | .cs z => snd_cs z
  | .cb z => snd_cb z
  | .cn => snd_cn
  | .neg a => snd_neg (snd a)
  | .v i => snd_v i
  | .bin op a b => snd_bin op (snd a) (snd b)
  | .cmp op a b => snd_cmp op (snd a) (snd b)
  | .cmp2 op op' a b d => snd_cmp2 op op' (snd a) (snd b) (snd d)
  | .cmp3 o1 o2 o3 a b d f => snd_cmp3 o1 o2 o3 (snd a) (snd b) (snd d) (snd f)
  | .band es => snd_bool true (snd es)
  | .bor es => snd_bool false (snd es)
  | .not a => snd_not (snd a)
  | .orf a b => snd_orf (snd a) (snd b)
  | .ite d a b => snd_ite (snd d) (snd a) (snd b)
  | .call f as => snd_call f (snd as)
  | .callo f i as => snd_callo f i (snd as)
  | .callb f i j => snd_callb f i j
  | .callf f a as => snd_callf f (snd a) (snd as)
  | .callk f as kws pl => snd_callk f pl (snd as) (snd kws)
  | .bi b a => snd_bi b (snd a)
  | .leno i => snd_leno i
  | .isi a t => snd_isi t (snd a)
  | .isis a ts => snd_isis ts (snd a)
  | .ix a i => snd_ix (snd a) (snd i)
  | .ixo i k => snd_ixo i (snd k)
  | .sl a lo hi => snd_sl (snd a) (snd lo) (snd hi)
  | .rev a => snd_rev (snd a)
  | .fld a f => snd_fld f (snd a)
  | .isx a yes => snd_isx yes (snd a)
  | .lst as => snd_lst (snd as)
  | .tup as => snd_tup (snd as)
  | .lc elt t it d own => snd_lc t own (snd elt) (snd it) (snd d)
  | .lc2 elt t it t1 it1 d own own1 => snd_lc2 t t1 own own1 (snd elt) (snd it) (snd it1) (snd d)
  | .inr1 neg a d => snd_inr1 neg (snd a) (snd d)
  | .inr2 neg a b d => snd_inr2 neg (snd a) (snd b) (snd d)
  | .mm mx a b => snd_mm mx (snd a) (snd b)
  | .dct a => snd_dct (snd a)
  | .ladd a b => snd_ladd (snd a) (snd b)
  | .srt a => snd_srt (snd a)
  | .lz3 as => snd_lz3 (snd as)
  | .srto i => snd_srto i
  | .dget i k d => snd_dget i (snd k) (snd d)
  | .dino neg k i => snd_dino neg i (snd k)
  | .demp => snd_demp
  | .cat a b => snd_cat (snd a) (snd b)
  | .lcnt a b => snd_lcnt (snd a) (snd b)
  | .range1 a => snd_range1 (snd a)
  | .range2 a b => snd_range2 (snd a) (snd b)
  | .enum a => snd_enum (snd a)
  | .zip a b => snd_zip (snd a) (snd b)
  | .seq a => snd_seq (snd a)
  | .nil => snd_nil
  | .cons a as => snd_cons (snd a) (snd as)
  | .absent => snd_absent
end
end Ev
end
section
namespace Ev
open PySem PySem.Spec L2
open PyProof.Rows hiding St
variable [KF]
/-! ### statements and their terms -/
def swNm (sc : Scope) (ts : List Expr) : List Str := ts.filterMap fun
  | .Name id pos => if sc.names.lookup id == some .local && pos.line == (ts.head?.map (·.pos.line)).getD 0 then some id else none
  | _ => none
def swOdd (ts vs : List Expr) : Bool := !(ts.length == 2 || ts.length == 3) || vs.length != ts.length
def swStar (vs : List Expr) : Bool := vs.any fun | .Starred .. => true | _ => false
def swFew (sc : Scope) (ts : List Expr) : Bool := (swNm sc ts).length != ts.length || (swNm sc ts).eraseDups.length != (swNm sc ts).length
/-- what a tuple's store does; none: not told -/
def swP (sc : Scope) (ts vs : List Expr) : Option (Option (List Str)) :=
  if swOdd ts vs = true then some none else if swStar vs = true then some none else if swFew sc ts = true then some none
  else if vs.all (foldedForSure 8) = true then some none else if vs.all (constantsAlone 8) = true then none else some (some (swNm sc ts))
theorem swP_ok {sc : Scope} {ts vs : List Expr} {k k2 : Nat} {tp p2 : Pos} {env : PySem.Env} {r : Option (List Str)} (hs : env.scope = sc) (hk : env.blockKind = .function) (h : swP sc ts vs = some r) : swappedStores [.Tuple ts k tp] (.Tuple vs k2 p2) env = pure r := by
  have e1 : ∀ x, env.kindOf x = sc.names.lookup x := fun x => by rw [← hs]; rfl
  unfold swP at h
  unfold swappedStores
  simp only [hk, e1]
  by_cases h1 : swOdd ts vs = true
  · rw [if_pos h1] at h
    cases h
    refine (if_pos (by unfold swOdd at h1; simpa using h1)).trans ?_
    rfl
  rw [if_neg h1] at h
  refine (if_neg (by unfold swOdd at h1; simpa using h1)).trans ?_
  by_cases h2 : swStar vs = true
  · rw [if_pos h2] at h
    cases h
    exact (if_pos (by exact h2)).trans rfl
  rw [if_neg h2] at h
  refine (if_neg (by exact h2)).trans ?_
  by_cases h3 : swFew sc ts = true
  · rw [if_pos h3] at h
    cases h
    exact (if_pos (by exact h3)).trans rfl
  rw [if_neg h3] at h
  refine (if_neg (by exact h3)).trans ?_
  by_cases h4 : vs.all (foldedForSure 8) = true
  · rw [if_pos h4] at h
    cases h
    exact (if_pos (by exact h4)).trans rfl
  rw [if_neg h4] at h
  refine (if_neg (by exact h4)).trans ?_
  by_cases h5 : vs.all (constantsAlone 8) = true
  · rw [if_pos h5] at h
    cases h
  rw [if_neg h5] at h
  cases h
  exact (if_neg (by exact h5)).trans rfl
theorem sw_lc {sc : Scope} {elt : Expr} {gs : List Comprehension} {scope : Scope} {p np : Pos} {n : Str} {l : Nat} {env : PySem.Env} (hs : env.scope = sc) (hk : env.blockKind = .function) :
    swapsWith (.ListComp elt gs scope p) (some (.Name n np)) l env = pure (sc.names.lookup n == some .local && np.line == p.line && !(scope.names.any fun (m, k) => m == n && (k == .local || k == .cell))) := by
  have e1 : ∀ x, env.kindOf x = sc.names.lookup x := fun x => by rw [← hs]; rfl
  unfold swapsWith
  simp only [hk, e1, Expr.pos]
  rfl
theorem sw_tup {xs : List Expr} {k : Nat} {tp : Pos} {v : Expr} {l : Nat} {env : PySem.Env} : swapsWithSole [.Tuple xs k tp] v l env = pure false := by
  unfold swapsWithSole
  cases v <;> rfl
def valB : Expr → Bool
  | .SetComp _ _ _ _ => false
  | .DictComp _ _ _ _ _ => false
  | _ => true
def nzB (c : Ct) (i : Nat) : Bool := !c.io || i != 0
def nameB (c : Ct) (sc : Scope) (i : Nat) (n : Str) : Bool := decide (c.N[i]? = some n) && locB sc n
def swTup (sc : Scope) (xs : List Expr) (v : Expr) : Bool := match v with
  | .Tuple vs _ _ => decide (swP sc xs vs = some none)
  | _ => true
def lclB (sc : Scope) (n : Str) : Bool := decide (sc.names.lookup n = some .local)
/-- an except suite: one plain store -/
def hdB (c : Ct) (sc : Scope) : S → List Stmt → Bool
  | .cons (.asg (.nm j) (.v i)) .nil, [.Assign [.Name m _] (.Name n _) _] => nameB c sc j m && nzB c j && nmB c sc i n
  | _, _ => false
/-- what a suite may tell: no call, no loop -/
def hotB : E → Bool
  | .v _ => true | .ci _ => true | .cs _ => true | .cb _ => true | .cn => true
  | .fld a _ => hotB a | .isx a _ => hotB a | .lst as => hotB as | .nil => true | .cons a as => hotB a && hotB as
  | _ => false
def hsB (c : Ct) (sc : Scope) : S → List Stmt → Bool
  | .cons (.asg (.nm j) x) .nil, [.Assign [.Name m _] v _] => nameB c sc j m && nzB c j && noComp v && hotB x && mtE c x sc v
  | _, _ => false
def mtH (c : Ct) (sc : Scope) : S → List ExceptHandler → Bool
  | .nil, [] => true
  | .hnd k ns i h r, .ExceptHandler (some (.Name xn _)) (some n) ss _ :: hs => hsB c sc h ss && (c.cls.any fun q => decide (q.1 = xn) && decide (q.2.1 = k) && decide (q.2.2.2 = ns)) && glB sc xn && notDbg xn && decide (c.N[i]? = some n) && lclB sc n && nzB c i && mtH c sc r hs
  | _, _ => false
termination_by structural x => x
mutual
def mtS (c : Ct) (sc : Scope) : S → Stmt → Bool
  | .asg t x, st => match st with
    | .Assign [tg] v _ => (match t, tg with
      | .nm i, .Name n _ => nameB c sc i n && nzB c i && valB v
      | .tp ts, .Tuple xs _ _ => mtT c sc (locB sc) (.tp ts) tg && (tnames ts).all (nzB c) && swTup sc xs v
      | _, _ => false) && mtE c x sc v
    | _ => false
  | .asgo i x, st => match st with
    | .Assign [.Name n _] v _ => nameB c sc i n && nzB c i && valB v && isF c.frs x && mtE c x sc v
    | _ => false
  | .par i j oi oj a b, st => match st with
    | .Assign [.Tuple [.Name n pn, .Name m pm] _ _] (.Tuple [x, y] _ _) _ => (decide (swP sc [.Name n pn, .Name m pm] [x, y] = some (some [n, m])) && lclB sc n && lclB sc m && i != j || decide (swP sc [.Name n pn, .Name m pm] [x, y] = some none)) && (!oi || isF c.frs a) && (!oj || isF c.frs b) && nameB c sc i n && nameB c sc j m && nzB c i && nzB c j && starless x && starless y && mtE c a sc x && mtE c b sc y
    | _ => false
  | .par3 i j l oi oj ol a b d, st => match st with
    | .Assign [.Tuple [.Name n pn, .Name m pm, .Name k pk] _ _] (.Tuple [x, y, z] _ _) _ => decide (swP sc [.Name n pn, .Name m pm, .Name k pk] [x, y, z] = some (some [n, m, k])) && (!oi || isF c.frs a) && (!oj || isF c.frs b) && (!ol || isF c.frs d) && nameB c sc i n && nameB c sc j m && nameB c sc l k && lclB sc n && lclB sc m && lclB sc k && nzB c i && nzB c j && nzB c l && i != j && i != l && j != l && starless x && starless y && starless z && mtE c a sc x && mtE c b sc y && mtE c d sc z
    | _ => false
  | .seti i k x, st => match st with
    | .Assign [.Subscript (.Name n _) y _] v _ => nmB c sc i n && !sliceB y && noComp v && mtE c x sc v && mtE c k sc y
    | _ => false
  | .app i x, st => match st with
    | .Expr (.Call (.Attribute (.Name n _) m ap) [v] [] cp) _ => nmB c sc i n && decide (m = ("append" : Str)) && (ap.endLine == cp.line) && starless v && mtE c x sc v
    | _ => false
  | .exp x, st => match st with
    | .Expr v _ => noComp v && mtE c x sc v
    | _ => false
  | .ite d a b, st => match st with
    | .If z xs ys _ => mtE c d sc z && mtSs c sc a xs && mtSs c sc b ys
    | _ => false
  | .for_ t it b, st => match st with
    | .For tg iter xs [] _ => mtT c sc (locB sc) t tg && (tnames t).all (nzB c) && !setB iter && mtI c it sc tg iter && mtSs c sc b xs
    | _ => false
  | .ret x, st => match st with
    | .Return (some v) _ => (!c.fr || isF c.frs x) && mtE c x sc v
    | _ => false
  | .rais k g as, st => match st with
    | .Raise (some (.Call (.Name m _) xs [] _)) none _ => (c.cls.any fun q => decide (q.1 = m) && decide (q.2.1 = k) && decide (q.2.2.1 = g) && (!q.2.2.2.isEmpty || xs.isEmpty)) && glB sc m && notDbg m && mtEs c as sc xs
    | _ => false
  | .try_ b k ns i h, st => match st with
    | .Try body [.ExceptHandler (some (.Name xn _)) (some n) (s0 :: rest) _] [] [] _ => (c.cls.any fun q => decide (q.1 = xn) && decide (q.2.1 = k) && decide (q.2.2.2 = ns)) && glB sc xn && notDbg xn && decide (c.N[i]? = some n) && lclB sc n && nzB c i && mtSs c sc b body && hdB c sc h (s0 :: rest)
    | _ => false
  | .tryn b hs, st => match st with
    | .Try body hds [] [] _ => !hds.isEmpty && mtSs c sc b body && mtH c sc hs hds
    | _ => false
  | .reto i, st => match st with
    | .Return (some (.Name n _)) _ => c.fr && !c.io && nmB c sc i n && nzB c i
    | _ => false
  | .retn, st => match st with
    | .Return none _ => !c.fr
    | _ => false
  | .brk, st => match st with
    | .Break _ => true
    | _ => false
  | .cnt, st => match st with
    | .Continue _ => true
    | _ => false
  | .pass, st => match st with
    | .Pass _ => true
    | _ => false
  | .doc, st => match st with
    | .Expr (.Constant (.str _) _ _) _ => true
    | _ => false
  | _, _ => false
termination_by structural x => x
def mtSs (c : Ct) (sc : Scope) : S → List Stmt → Bool
  | .nil, xs => xs.isEmpty
  | .cons s ss, xs => match xs with
    | x :: xs => mtS c sc s x && mtSs c sc ss xs
    | [] => false
  | _, _ => false
termination_by structural x => x
end
end Ev
end
section
namespace Ev
open PySem PySem.Spec L2
open PyProof.Rows hiding St
variable [KF]
section
variable {X : Cx} {T : XT} {W : St → XK} {dis : List DI} {cf : CF} {n : Nat} {c : Ct} {sc : Scope} {B : Bs}
/-- a def's body -/
structure GoodS (X : Cx) (T : XT) (W : St → XK) (dis : List DI) (cf : CF) (n : Nat) (c : Ct) (sc : Scope) (B : Bs) : Prop where
  g : Good X T W dis cf n c sc (locB sc)
  bk : X.env.blockKind = .function
  po : PassesOwn (model X.prog X.w) X.A X.env X.xe
  io : B.io = c.io
  stk : X.stack = X.env :: X.outer
  frm : X.env.frame = some X.env.locals
  exn : X.ex = []
  tks : Takes X (fun cls d σ H => W σ cls d H)
  nob : B.io = false → ∀ a, ¬ OA B.sl B.en a
  xm : ∀ q ∈ c.cls, ∀ k, k < KF.nc → PySem.W.exmOne X.K (KF.T.cls k) (KF.T.cls q.2.1) = some (decide (k = q.2.1))
theorem GoodS.kindL (g : GoodS X T W dis cf n c sc B) {x : Str} (h : lclB sc x = true) : X.env.kindOf x = some .local := by
  show X.env.scope.names.lookup x = some .local
  rw [g.g.sc]
  exact of_decide_eq_true h
theorem GoodS.V (g : GoodS X T W dis cf n c sc B) {a : E} {x : Expr} (h : mtE c a sc x = true) : PE X x (tV T W cf a) := (snd a).v g.g h
theorem GoodS.Vt (g : GoodS X T W dis cf n c sc B) {a : E} {x : Expr} (h : mtE c a sc x = true) : PT X x (tT T W cf a) := ((snd a).e X W sc _ x g.g h).2
theorem GoodS.tr (g : GoodS X T W dis cf n c sc B) {Wb : WX} {pn : List (Addr × Obj)} {xe : Value → Shared → Prop} (tk : Takes (X.tr pn xe) Wb) (po : PassesOwn (model X.prog X.w) X.A X.env xe) : GoodS (X.tr pn xe) T (fun σ cls d H => Wb cls d σ H) dis cf n c sc B :=
  ⟨⟨g.g.kf, ⟨g.g.ok.fn, g.g.ok.mg, g.g.ok.kp, g.g.ok.bd, g.g.ok.ln, g.g.ok.hr, passAt tk⟩, g.g.N, g.g.sc, g.g.nd, g.g.hc, g.g.hu, g.g.bn, g.g.fs, g.g.kw, g.g.fn, g.g.tf, g.g.ca, g.g.mks, g.g.xi⟩, g.bk, po, g.io, g.stk, g.frm, g.exn, tk, g.nob, g.xm⟩
theorem nzB_ok {B : Bs} {i : Nat} (hb : B.io = c.io) (h : nzB c i = true) : B.io = true → 0 ≠ i := fun hio z => by
  unfold nzB at h
  rw [← hb, hio, ← z] at h
  cases h
theorem nzA_ok {B : Bs} {is : List Nat} (hb : B.io = c.io) (h : is.all (nzB c) = true) : B.io = true → 0 ∉ is := fun hio z => nzB_ok hb (List.all_eq_true.mp h 0 z) hio rfl
theorem GoodS.nmS (g : GoodS X T W dis cf n c sc B) {i : Nat} {x : Str} (h : nameB c sc i x = true) : X.N[i]? = some x ∧ Loc X.env.scope x ∧ (X.fn x = true ∨ X.env.scope.names.lookup x = some .local) := by
  unfold nameB at h
  rw [Bool.and_eq_true, decide_eq_true_eq] at h
  exact ⟨by rw [g.g.N]; exact h.1, by rw [g.g.sc]; exact locB_ok h.2, g.g.fn x h.2⟩
theorem wkAsg {x : Stmt} {fr : Bool} {a : E} {i : Nat} (h : PS X x (tAsg (tEv T W cf fr a) (gName i))) : PS X x (tAsg (tEv T W cf false a) (gName i)) := wkS h fun D σ H ⟨G, e, r, q⟩ => ⟨G, e, r, q.weak⟩
/-- name = value -/
theorem GoodS.asg (g : GoodS X T W dis cf n c sc B) {a : E} {v : Expr} {i : Nat} {nm : Str} {np pos : Pos} (h1 : nameB c sc i nm = true) (h2 : valB v = true) (h3 : mtE c a sc v = true) :
    PS X (.Assign [.Name nm np] v pos) (tAsg (tEv T W cf (isF c.frs a) a) (gName i)) := by
  obtain ⟨k1, k2, k3⟩ := g.nmS h1
  have pe := ((snd (T := T) (dis := dis) (cf := cf) (n := n) (c := c) a).e X W sc (locB sc) v g.g h3).1
  cases hv : noComp v with
  | true => exact as_plain g.g.nd k1 k2 k3 hv pe
  | false =>
    cases v with
    | SetComp _ _ _ _ => cases h2
    | DictComp _ _ _ _ _ => cases h2
    | ListComp elt gs scope p =>
      have sw := sw_lc (elt := elt) (gs := gs) (scope := scope) (p := p) (np := np) (n := nm) (l := pos.line) g.g.sc g.bk
      cases hb : (sc.names.lookup nm == some .local && np.line == p.line && !(scope.names.any fun (m, k) => m == nm && (k == .local || k == .cell))) with
      | false =>
        rw [hb] at sw
        exact ps_asg pe (pg_name g.g.nd k1 k2 k3) (by unfold swapsWithSole; exact sw) no_stores_nm rfl
      | true =>
        rw [hb] at sw
        have hl : X.env.scope.names.lookup nm = some .local := by
          rw [Bool.and_eq_true, Bool.and_eq_true] at hb
          rw [g.g.sc]
          exact eq_of_beq hb.1.1
        cases a with
        | lc el t it d own =>
          have h3' := h3
          unfold mtE at h3'
          split at h3'
          · next e1 =>
            cases e1
            obtain ⟨e0, q⟩ := lc_ok (snd el) (snd it) (snd d) g.g h3
            subst e0
            have r := as_lc (pos := pos) g.g.hc g.g.nd k1 hl sw q.hi q.ok q.hsub q.hg q.ht q.he q.hs
            rw [own_map] at r
            exact r
          · cases h3'
        | lc2 el t it t1 it1 d own own1 =>
          have h3' := h3
          unfold mtE at h3'
          split at h3'
          · next e1 =>
            cases e1
            obtain ⟨e0, e2, q⟩ := lc2_ok (snd el) (snd it) (snd it1) (snd d) g.g h3
            subst e0 e2
            have r := as_lc2 (pos := pos) g.g.hc g.g.nd k1 hl sw q.hi q.ok q.hsub q.hsub1 q.ho q.hb q.hs q.hs1
            rw [own_map] at r
            exact r
          · cases h3'
        | _ => unfold mtE at h3; cases h3
    | _ => cases hv
theorem sw_none {xs : List Expr} {k : Nat} {tp : Pos} {v : Expr} {env : PySem.Env} (hs : env.scope = sc) (hk : env.blockKind = .function) (h : swTup sc xs v = true) : swappedStores [.Tuple xs k tp] v env = pure none := by
  cases v with
  | Tuple vs k2 p2 => exact swP_ok hs hk (of_decide_eq_true h)
  | _ => rfl
theorem tEv_or {o f : Bool} {b : E} {y : Expr} (h : (!o || f) = true) (p : PE X y (tEv T W cf f b)) : PE X y (tEv T W cf o b) := by
  cases o with
  | true =>
    have e1 : f = true := h
    rw [e1] at p
    exact p
  | false => exact tEv_val p
theorem bool_or {a b : Bool} (h : (!a || b) = true) (ha : a = true) : b = true := by
  rw [ha] at h
  exact h
theorem hd_ok {h : S} {xs : List Stmt} (q : hdB c sc h xs = true) : ∃ j i m n p1 p2 p3, h = .cons (.asg (.nm j) (.v i)) .nil ∧ xs = [.Assign [.Name m p1] (.Name n p2) p3] ∧ nameB c sc j m = true ∧ nzB c j = true ∧ nmB c sc i n = true := by
  unfold hdB at q
  split at q
  · simp only [Bool.and_eq_true] at q
    exact ⟨_, _, _, _, _, _, _, rfl, rfl, q.1.1, q.1.2, q.2⟩
  · cases q
theorem hot_plain {t : E} {x : Expr} (hb : hotB t = true) (h : mtE c t sc x = true) : plainE x = true := by
  cases t <;> first | (cases hb; done) | (unfold mtE at h; cases h; done) | (unfold mtE at h; split at h <;> first | rfl | cases h)
theorem hot_e (g : GoodS X T W dis cf n c sc B) (a : Addr) (Wh : St → XK) (t : E) : hotB t = true → (∀ x, mtE c t sc x = true → PE (hotX X a) x (tEv T Wh cf (isF c.frs t) t)) ∧ (∀ xs, mtEs c t sc xs = true → SEs (hotX X a) T Wh cf xs t) := by
  induction t with
  | v i =>
    intro _
    refine ⟨fun x h => ?_, fun xs h => by cases xs <;> cases h⟩
    unfold mtE at h
    split at h
    · obtain ⟨h1, h2, h3, h4⟩ := g.g.nm h
      exact se_v (X := hotX X a) h1 h2 h3 h4
    · cases h
  | ci i =>
    intro _
    refine ⟨fun x h => ?_, fun xs h => by cases xs <;> cases h⟩
    unfold mtE at h
    split at h
    · rw [of_decide_eq_true h]
      exact se_ci
    · cases h
  | cs z =>
    intro _
    refine ⟨fun x h => ?_, fun xs h => by cases xs <;> cases h⟩
    unfold mtE at h
    split at h
    · rw [of_decide_eq_true h]
      exact se_cs
    · cases h
  | cb z =>
    intro _
    refine ⟨fun x h => ?_, fun xs h => by cases xs <;> cases h⟩
    unfold mtE at h
    split at h
    · rw [eq_of_beq h]
      exact se_cb
    · cases h
  | cn =>
    intro _
    refine ⟨fun x h => ?_, fun xs h => by cases xs <;> cases h⟩
    unfold mtE at h
    split at h
    · exact se_cn
    · cases h
  | fld b f ih =>
    intro hb
    have ih := ih hb
    refine ⟨fun x h => ?_, fun xs h => by cases xs <;> cases h⟩
    unfold mtE at h
    split at h
    · simp only [Bool.and_eq_true, decide_eq_true_eq, Bool.not_eq_true'] at h
      obtain ⟨⟨h1, h2⟩, h3⟩ := h
      subst h1
      exact of_v (sv_fld (X := hotX X a) g.g.ca (att_base h2 _ _) (v_of (ih.1 _ h3)))
    · cases h
  | isx b yes ih =>
    intro hb
    have ih := ih hb
    refine ⟨fun x h => ?_, fun xs h => by cases xs <;> cases h⟩
    unfold mtE at h
    split at h
    · simp only [Bool.and_eq_true, List.any_eq_true, decide_eq_true_eq] at h
      obtain ⟨⟨⟨⟨⟨h1, h2⟩, h3⟩, ⟨m, ys⟩, hq, h4, h5⟩, h6⟩, h7⟩ := h
      have h4 : m = _ := h4
      have h5 : ys = yes := h5
      subst h4 h5
      obtain ⟨e1, b1, b2⟩ := g.g.bi h1 (by decide)
      subst e1
      unfold notDbg at h3
      rw [Bool.not_eq_true'] at h3
      exact of_v (sv_isx (X := hotX X a) g.g.ca (g.g.xi _ hq) b1 b2 (g.g.gl h2) h3 h6 (v_of (ih.1 _ h7)))
    · cases h
  | lst as ih =>
    intro hb
    have ih := ih hb
    refine ⟨fun x h => ?_, fun xs h => by cases xs <;> cases h⟩
    unfold mtE at h
    split at h
    · exact sr_lst (ih.2 _ h)
    · cases h
  | nil =>
    intro _
    refine ⟨fun x h => (by cases h), fun xs h => ?_⟩
    cases xs with
    | nil => exact .nil
    | cons _ _ => cases h
  | cons b bs ih1 ih2 =>
    intro hb
    have hb : (hotB b && hotB bs) = true := hb
    rw [Bool.and_eq_true] at hb
    refine ⟨fun x h => (by cases h), fun xs h => ?_⟩
    cases xs with
    | nil => cases h
    | cons x xs =>
      have h : (starless x && mtE c b sc x && mtEs c bs sc xs) = true := h
      simp only [Bool.and_eq_true] at h
      have p := (ih1 hb.1).1 _ h.1.2
      exact .cons h.1.1 (v_of p) (st_plain (hot_plain hb.1 h.1.2) (v_of p)) ((ih2 hb.2).2 _ h.2)
  | _ => intro h; cases h
theorem hs_ok {h : S} {xs : List Stmt} (q : hsB c sc h xs = true) : ∃ j x m v p1 p3, h = .cons (.asg (.nm j) x) .nil ∧ xs = [.Assign [.Name m p1] v p3] ∧ nameB c sc j m = true ∧ nzB c j = true ∧ noComp v = true ∧ hotB x = true ∧ mtE c x sc v = true := by
  unfold hsB at q
  split at q
  · simp only [Bool.and_eq_true] at q
    exact ⟨_, _, _, _, _, _, rfl, rfl, q.1.1.1.1, q.1.1.1.2, q.1.1.2, q.1.2, q.2⟩
  · cases q
theorem hdT_of (fr : Bool) (g : GoodS X T W dis cf n c sc B) (s : S) : ∀ {hds : List ExceptHandler}, mtH c sc s hds = true → ∃ hs : List Hd, hds = hs.map Hd.x ∧ HdT X T cf fr B hs s := by
  induction s with
  | nil =>
    intro hds q
    cases hds with
    | nil => exact ⟨[], rfl, .nil⟩
    | cons _ _ => unfold mtH at q; cases q
  | hnd k ns i h r _ ih =>
    intro hds q
    unfold mtH at q
    split at q
    · next e0 => cases e0
    · next k0 ns0 i0 h0 r0 xn np nm ss hp hds' e0 =>
      cases e0
      simp only [Bool.and_eq_true, List.any_eq_true, decide_eq_true_eq] at q
      obtain ⟨⟨⟨⟨⟨⟨⟨q1, ⟨m, k', g', fl⟩, hq, ⟨h1, h2⟩, h3⟩, h4⟩, h5⟩, h6⟩, h7⟩, h8⟩, h9⟩ := q
      dsimp only at h1 h2 h3
      subst h1 h2 h3
      obtain ⟨m1, m2⟩ := g.g.mks _ hq
      have lt : k' < KF.nc := by cases m2 <;> assumption
      have mgC : ∃ C, X.mg m = some (.ref C) ∧ KF.T.cls k' = .ref C := by
        cases m2 with
        | ini => exact ⟨_, by assumption, by assumption⟩
        | zer => exact ⟨_, by assumption, by assumption⟩
        | no => exact ⟨_, by assumption, by assumption⟩
      obtain ⟨C, mg1, mg2⟩ := mgC
      have tf := g.g.tf
      unfold notDbg at h5
      rw [Bool.not_eq_true'] at h5
      have hl := g.kindL h7
      obtain ⟨hs, e1, hT⟩ := ih h9
      obtain ⟨j, x, m', v, p1, p2, rfl, rfl, a1, a2, a3, a4, a5⟩ := hs_ok q1
      obtain ⟨k1, k2, k3⟩ := g.nmS a1
      refine ⟨⟨m, np, nm, .Assign [.Name m' p1] v p2, [], hp, KF.T.cls k', i, tX T (fun _ => E0) cf fr B (.cons (.asg (.nm j) x) .nil)⟩ :: hs, by rw [e1]; rfl, ?_⟩
      refine .cons ⟨by rw [g.g.N]; exact h6, hl, ⟨g.g.gl h4, h5, .inl (by rw [mg2]; exact mg1)⟩, fun a => ?_⟩ rfl lt (by rw [tf]; exact m1) (fun j hj => by rw [tf]; exact g.xm _ hq j hj) (nzB_ok g.io h8) hT
      exact ss_of (.cons (sx_set (as_plain (X := hotX X a) g.g.nd k1 k2 k3 a3 (tEv_val ((hot_e g a (fun _ => E0) x a4).1 _ a5))) (nzB_ok g.io a2)) .nil)
    · cases q
  | _ =>
    intro hds q
    cases hds <;> (unfold mtH at q; cases q)
theorem no_ss {X : Cx} {W : St → XK} {fr : Bool} {s : S} (h : ∀ xs, mtSs c sc s xs = false) : ∀ xs, mtSs c sc s xs = true → SSs X T W cf fr B xs s := fun xs q => by rw [h xs] at q; cases q
theorem stm (fr : Bool) (hfr : fr = c.fr) : ∀ (s : S) (X : Cx) (W : St → XK), GoodS X T W dis cf n c sc B → (∀ x, mtS c sc s x = true → PS X x (tX T W cf fr B s)) ∧ ∀ xs, mtSs c sc s xs = true → SSs X T W cf fr B xs s := by
  intro s
  induction s with
  | asg t x =>
    intro X W g
    refine ⟨fun st h => ?_, no_ss fun _ => rfl⟩
    unfold mtS at h
    split at h
    · rw [Bool.and_eq_true] at h
      obtain ⟨h1, h2⟩ := h
      split at h1
      · simp only [Bool.and_eq_true] at h1
        obtain ⟨⟨k1, k2⟩, k3⟩ := h1
        exact sx_set (wkAsg (g.asg k1 k3 h2)) (nzB_ok g.io k2)
      · next ts xs k tp =>
        simp only [Bool.and_eq_true] at h1
        obtain ⟨⟨k1, k2⟩, k3⟩ := h1
        exact sx_tup g.g.hc g.g.nd (sw_none g.g.sc g.bk k3) sw_tup (g.g.tg k1) (g.V h2) (nzA_ok g.io k2)
      · cases h1
    · cases h
  | asgo i x =>
    intro X W g
    refine ⟨fun st h => ?_, no_ss fun _ => rfl⟩
    unfold mtS at h
    split at h
    · simp only [Bool.and_eq_true] at h
      obtain ⟨⟨⟨⟨k1, k2⟩, k3⟩, k4⟩, k5⟩ := h
      refine sx_setO ?_ (nzB_ok g.io k2)
      have p := fun np pos => g.asg (pos := pos) (np := np) k1 k3 k5
      rw [k4] at p
      exact p _ _
    · cases h
  | par i j oi oj a b =>
    intro X W g
    refine ⟨fun st h => ?_, no_ss fun _ => rfl⟩
    unfold mtS at h
    split at h
    · simp only [Bool.and_eq_true, decide_eq_true_eq, bne_iff_ne] at h
      obtain ⟨⟨⟨⟨⟨⟨⟨⟨⟨⟨q0, q1⟩, q2⟩, q3⟩, q4⟩, q7⟩, q8⟩, q10⟩, q11⟩, q12⟩, q13⟩ := h
      obtain ⟨k1, l1, f1⟩ := g.nmS q3
      obtain ⟨k2, l2, f2⟩ := g.nmS q4
      have pa := ((snd (T := T) (dis := dis) (cf := cf) (n := n) (c := c) a).e X W sc (locB sc) _ g.g q12).1
      have pa' := tEv_or q1 pa
      have pb := ((snd (T := T) (dis := dis) (cf := cf) (n := n) (c := c) b).e X W sc (locB sc) _ g.g q13).1
      have pb' := tEv_or q2 pb
      rw [Bool.or_eq_true] at q0
      rcases q0 with q0 | q0
      · simp only [Bool.and_eq_true, decide_eq_true_eq, bne_iff_ne] at q0
        obtain ⟨⟨⟨q0, q5⟩, q6⟩, q9⟩ := q0
        refine sx_par g.g.hc g.g.nd k1 k2 q9 ?_ ?_ q10 q11 pa' pb' (swP_ok g.g.sc g.bk q0) fun hio => ⟨nzB_ok g.io q7 hio, nzB_ok g.io q8 hio⟩
        · rw [g.g.sc]; exact of_decide_eq_true q5
        · rw [g.g.sc]; exact of_decide_eq_true q6
      · exact sx_parT g.g.hc g.g.nd k1 k2 l1 l2 f1 f2 q10 q11 pa' pb' (swP_ok g.g.sc g.bk (of_decide_eq_true q0)) sw_tup fun hio => ⟨nzB_ok g.io q7 hio, nzB_ok g.io q8 hio⟩
    · cases h
  | par3 i j l oi oj ol a b d =>
    intro X W g
    refine ⟨fun st h => ?_, no_ss fun _ => rfl⟩
    unfold mtS at h
    split at h
    · simp only [Bool.and_eq_true, decide_eq_true_eq, bne_iff_ne] at h
      obtain ⟨⟨⟨⟨⟨⟨⟨⟨⟨⟨⟨⟨⟨⟨⟨⟨⟨⟨⟨⟨⟨q0, q1⟩, q2⟩, q3⟩, q4⟩, q5⟩, q6⟩, q7⟩, q8⟩, q9⟩, q10⟩, q11⟩, q12⟩, q13⟩, q14⟩, q15⟩, q16⟩, q17⟩, q18⟩, q19⟩, q20⟩, q21⟩ := h
      obtain ⟨k1, _, _⟩ := g.nmS q4
      obtain ⟨k2, _, _⟩ := g.nmS q5
      obtain ⟨k3, _, _⟩ := g.nmS q6
      have pa' := tEv_or q1 ((snd (T := T) (dis := dis) (cf := cf) (n := n) (c := c) a).e X W sc (locB sc) _ g.g q19).1
      have pb' := tEv_or q2 ((snd (T := T) (dis := dis) (cf := cf) (n := n) (c := c) b).e X W sc (locB sc) _ g.g q20).1
      have pd' := tEv_or q3 ((snd (T := T) (dis := dis) (cf := cf) (n := n) (c := c) d).e X W sc (locB sc) _ g.g q21).1
      refine sx_par3 g.g.hc g.g.nd k1 k2 k3 q13 q14 q15 ?_ ?_ ?_ q16 q17 q18 pa' pb' pd' (swP_ok g.g.sc g.bk q0) fun hio => ⟨nzB_ok g.io q10 hio, nzB_ok g.io q11 hio, nzB_ok g.io q12 hio⟩
      · rw [g.g.sc]; exact of_decide_eq_true q7
      · rw [g.g.sc]; exact of_decide_eq_true q8
      · rw [g.g.sc]; exact of_decide_eq_true q9
    · cases h
  | seti i k x =>
    intro X W g
    refine ⟨fun st h => ?_, no_ss fun _ => rfl⟩
    unfold mtS at h
    split at h
    · simp only [Bool.and_eq_true, Bool.not_eq_true'] at h
      obtain ⟨⟨⟨⟨q1, q2⟩, q3⟩, q4⟩, q5⟩ := h
      obtain ⟨k1, k2, k3, k4⟩ := g.g.nm q1
      refine sx_seti g.g.hu k1 k2 k3 k4 q3 (fun v => ?_) (g.V q4) (g.V q5)
      rename_i y _ _ _
      cases y <;> first | rfl | cases q2
    · cases h
  | app i x =>
    intro X W g
    refine ⟨fun st h => ?_, no_ss fun _ => rfl⟩
    unfold mtS at h
    split at h
    · simp only [Bool.and_eq_true, decide_eq_true_eq] at h
      obtain ⟨⟨⟨⟨q1, q2⟩, q3⟩, q4⟩, q5⟩ := h
      obtain ⟨k1, k2, k3, k4⟩ := g.g.nm q1
      subst q2
      exact sx_app k1 k2 k3 k4 q4 q3 (g.V q5)
    · cases h
  | exp x =>
    intro X W g
    refine ⟨fun st h => ?_, no_ss fun _ => rfl⟩
    unfold mtS at h
    split at h
    · rw [Bool.and_eq_true] at h
      exact sx_exp (g.V h.2) (no_swap h.1 _ _ _)
    · cases h
  | ite d a b iha ihb =>
    intro X W g
    refine ⟨fun st h => ?_, no_ss fun _ => rfl⟩
    unfold mtS at h
    split at h
    · simp only [Bool.and_eq_true] at h
      exact sx_ite (g.Vt h.1.1) ((iha X W g).2 _ h.1.2) ((ihb X W g).2 _ h.2)
    · cases h
  | for_ t it b ih =>
    intro X W g
    refine ⟨fun st h => ?_, no_ss fun _ => rfl⟩
    unfold mtS at h
    split at h
    · simp only [Bool.and_eq_true, Bool.not_eq_true'] at h
      obtain ⟨⟨⟨⟨q1, q2⟩, q3⟩, q4⟩, q5⟩ := h
      exact sx_for g.po g.g.hc g.g.nd ((snd it).i X W sc _ _ _ g.g q4) (g.g.tg q1) (nzA_ok g.io q2) ((ih X W g).2 _ q5) (set_it q3 _)
    · cases h
  | rais k gg as =>
    intro X W g
    refine ⟨fun st h => ?_, no_ss fun _ => rfl⟩
    unfold mtS at h
    split at h
    · simp only [Bool.and_eq_true, List.any_eq_true, decide_eq_true_eq, Bool.or_eq_true, Bool.not_eq_true'] at h
      obtain ⟨⟨⟨⟨⟨m, k', g', fl⟩, hq, ⟨⟨h1, h2⟩, h3⟩, h4⟩, h5⟩, h6⟩, h7⟩ := h
      dsimp only at h1 h2 h3 h4
      subst h1 h2 h3
      obtain ⟨m1, m2⟩ := g.g.mks _ hq
      unfold notDbg at h6
      rw [Bool.not_eq_true'] at h6
      refine sx_rais g.g.hc g.g.tf g.tks m2 (g.g.gl h5) h6 ((snd as).es X W sc _ _ g.g h7) fun hz => ?_
      dsimp only at m1
      rw [hz] at m1
      rcases h4 with h4 | h4
      · rw [← m1] at h4
        cases h4
      · exact List.isEmpty_iff.mp h4
    · cases h
  | try_ b k ns i hs ihb _ =>
    intro X W g
    refine ⟨fun st h => ?_, no_ss fun _ => rfl⟩
    unfold mtS at h
    split at h
    · simp only [Bool.and_eq_true, List.any_eq_true, decide_eq_true_eq] at h
      obtain ⟨⟨⟨⟨⟨⟨⟨⟨⟨m, k', g', fl⟩, hq, ⟨h1, h2⟩, h3⟩, h4⟩, h5⟩, h6⟩, h7⟩, h8⟩, h9⟩, h10⟩ := h
      dsimp only at h1 h2 h3
      subst h1 h2 h3
      obtain ⟨m1, m2⟩ := g.g.mks _ hq
      have lt : k' < KF.nc := by cases m2 <;> assumption
      have mgC : ∃ C, X.mg m = some (.ref C) ∧ KF.T.cls k' = .ref C := by
        cases m2 with
        | ini => exact ⟨_, by assumption, by assumption⟩
        | zer => exact ⟨_, by assumption, by assumption⟩
        | no => exact ⟨_, by assumption, by assumption⟩
      obtain ⟨C, mg1, mg2⟩ := mgC
      have tf := g.g.tf
      unfold notDbg at h5
      rw [Bool.not_eq_true'] at h5
      have hl := g.kindL h7
      refine sx_try (cv := KF.T.cls k') (Wh := fun _ => E0) g.stk g.frm g.exn g.g.nd (by rw [g.g.N]; exact h6) hl ⟨g.g.gl h4, h5, .inl (by rw [mg2]; exact mg1)⟩ g.tks tf lt (by rw [tf]; exact m1) (fun j hj => by rw [tf]; exact g.xm _ hq j hj) (nzB_ok g.io h8)
        (fun Wb pn xe tk po => ss_of ((ihb _ _ (g.tr tk po)).2 _ h9)) fun a => ?_
      -- the suite
      obtain ⟨j, i2, m2, n2, p1, p2, p3, rfl, e2, q1, q2, q3⟩ := hd_ok h10
      obtain ⟨k1, k2, k3⟩ := g.nmS q1
      obtain ⟨r1, r2, r3, r4⟩ := g.g.nm q3
      rw [e2]
      exact ss_of (.cons (sx_set (as_plain (X := hotX X a) g.g.nd k1 k2 k3 rfl (of_v (sv_v (X := hotX X a) r1 r2 r3 r4))) (nzB_ok g.io q2)) .nil)
    · cases h
  | tryn b hs ihb _ =>
    intro X W g
    refine ⟨fun st h => ?_, no_ss fun _ => rfl⟩
    unfold mtS at h
    split at h
    · simp only [Bool.and_eq_true, Bool.not_eq_true'] at h
      obtain ⟨⟨h1, h2⟩, h3⟩ := h
      obtain ⟨hs', e1, hT⟩ := hdT_of fr g _ h3
      subst e1
      refine sx_tryn g.stk g.frm g.exn g.g.nd g.tks g.g.tf hT (fun z => ?_) fun Wb pn xe tk po => ss_of ((ihb _ _ (g.tr tk po)).2 _ h2)
      rw [z] at h1
      cases h1
    · cases h
  | hnd _ _ _ _ _ _ _ =>
    intro X W g
    exact ⟨fun st h => (by cases h), no_ss fun _ => rfl⟩
  | ret x =>
    intro X W g
    refine ⟨fun st h => ?_, no_ss fun _ => rfl⟩
    unfold mtS at h
    split at h
    · rw [Bool.and_eq_true] at h
      have p := ((snd (T := T) (dis := dis) (cf := cf) (n := n) (c := c) x).e X W sc (locB sc) _ g.g h.2).1
      refine sx_ret ?_
      cases hf : fr with
      | false => exact tEv_val p
      | true =>
        rw [bool_or h.1 (by rw [← hfr, hf])] at p
        exact p
    · cases h
  | reto i =>
    intro X W g
    refine ⟨fun st h => ?_, no_ss fun _ => rfl⟩
    unfold mtS at h
    split at h
    · simp only [Bool.and_eq_true, Bool.not_eq_true'] at h
      obtain ⟨⟨⟨q1, q2⟩, q3⟩, q4⟩ := h
      obtain ⟨h1, h2, h3, h4⟩ := g.g.nm q3
      exact sx_reto (hfr.trans q1) (g.nob (g.io.trans q2)) h1 h2 h3 h4 (nzB_ok g.io q4)
    · cases h
  | retn =>
    intro X W g
    refine ⟨fun st h => ?_, no_ss fun _ => rfl⟩
    unfold mtS at h
    split at h
    · refine sx_retn ?_
      rw [hfr]
      simpa using h
    · cases h
  | brk =>
    intro X W g
    refine ⟨fun st h => ?_, no_ss fun _ => rfl⟩
    unfold mtS at h
    split at h
    · exact sx_brk
    · cases h
  | cnt =>
    intro X W g
    refine ⟨fun st h => ?_, no_ss fun _ => rfl⟩
    unfold mtS at h
    split at h
    · exact sx_cnt
    · cases h
  | pass =>
    intro X W g
    refine ⟨fun st h => ?_, no_ss fun _ => rfl⟩
    unfold mtS at h
    split at h
    · exact sx_pass
    · cases h
  | doc =>
    intro X W g
    refine ⟨fun st h => ?_, no_ss fun _ => rfl⟩
    unfold mtS at h
    split at h
    · exact wkS ps_doc fun D σ H ⟨G, e, r, q⟩ => by
        have q : RnS T W fr B G (.nx e) D := q
        exact q σ H G r (Same.refl _)
    · cases h
  | nil =>
    intro X W g
    refine ⟨fun st h => (by cases h), fun xs h => ?_⟩
    cases xs with
    | nil => exact .nil
    | cons _ _ => cases h
  | cons s ss ih1 ih2 =>
    intro X W g
    refine ⟨fun st h => (by cases h), fun xs h => ?_⟩
    cases xs with
    | nil => cases h
    | cons x xs =>
      have h : (mtS c sc s x && mtSs c sc ss xs) = true := h
      rw [Bool.and_eq_true] at h
      exact .cons ((ih1 X W g).1 x h.1) ((ih2 X W g).2 xs h.2)
end
end Ev
end
section
namespace Ev
open PySem PySem.Spec L2
open PyProof.Rows hiding St
variable [KF]
/-! ### a text of defs -/
/-- the stores of an __init__ -/
def mtIni (c : Ct) (sc : Scope) (sn : Str) : E → List Stmt → List Str → Bool
  | .nil, [], [] => true
  | .cons a as, .Assign [.Attribute (.Name s _) f _] x _ :: ss, f' :: fs => decide (s = sn) && decide (f = f') && noComp x && mtE c a sc x && mtIni c sc sn as ss fs
  | _, _, _ => false
termination_by structural x => x
/-- a text's tables -/
structure Tab where
  fns : List (Str × Bool)
  cls : List (Str × Nat × Nat × List Str)
  xis : List (Str × List Nat)
/-- one class of errors -/
inductive ClsOk (K : PySem.W.Frag) (mg : Str → Option Value) (tb : Tab) (defs : List Def) (dis : List DI) (q : Str × Nat × Nat × List Str) : Prop where
  | ini {B newId initId : String} {bm : List Value} {C fI : Addr} {fd : FuncData} {st : Stmt} {x qual sn : Str} {ps : List Str} {as : E} {gi : Nat} {s1 : Nat} {kws : List (Nat × Nat × List Str × List Nat)} (b : Base B newId initId bm) (K1 : ClI K C bm newId) (iC : PySem.W.findIn K (.ref C) "__init__" = some (some (.ref fI)))
      (tI : PySem.W.typeIn K (.ref fI) = some (.type "function")) (F : L2.Fun K x qual st fI fd) (S : FnScope (sn :: ps) (sn :: ps) (defScope st)) (hv : visB (defScope st) sn = true) (hd : notDbg sn = true) (hcd : (sn == ("__classdict__" : Str)) = false)
      (kw : ∀ q ∈ kws, ∀ d', dis[q.1]? = some d' → KwOk K d'.fd d'.ps q.2.2.1 q.2.1 q.2.2.2) (mt : mtIni ⟨sn :: ps, tb.fns, kws, tb.cls, tb.xis, false, false⟩ (defScope st) sn as (defBody st) q.2.2.2 = true) (hb : Binds K fd (sn :: ps) []) (hm : mg q.1 = some (.ref C)) (lt : q.2.1 < KF.nc) (hc : KF.T.cls q.2.1 = .ref C) (hf : KF.T.flds q.2.1 = q.2.2.2) (nd : q.2.2.2.Nodup) (ne : q.2.2.2 ≠ [])
      (no : ∀ f ∈ q.2.2.2, PySem.W.findIn K (.ref C) f = some none) (h2 : 1 ≤ ps.length) (h9 : ps.length ≤ 800) (hl : q.2.2.2.length ≤ 800) (dg : defs[q.2.2.1]? = some ⟨gi, 0, false, false, .nil, 2⟩) (di : defs[gi]? = some ⟨ps.length + 1, s1, false, false, .cons (.ret (.tup as)) .nil, 1⟩) : ClsOk K mg tb defs dis q
  | zer {B newId initId : String} {bm : List Value} {C : Addr} {gi s1 : Nat} (F : ExcBaseFacts B newId initId bm) (e : PySem.W.excIn K C bm newId = true) (kC : PySem.W.keepIn K (.ref C) = true) (exC : PySem.W.subIn K (.ref C) (.type "BaseException") = some true) (tyC : PySem.W.typeIn K (.ref C) = some (.type "type"))
      (hm : mg q.1 = some (.ref C)) (lt : q.2.1 < KF.nc) (hc : KF.T.cls q.2.1 = .ref C) (hf : KF.T.flds q.2.1 = q.2.2.2) (nl : q.2.2.2 = []) (dg : defs[q.2.2.1]? = some ⟨gi, 0, false, false, .nil, 2⟩) (di : defs[gi]? = some ⟨1, s1, false, false, .cons (.ret (.tup .nil)) .nil, 1⟩) : ClsOk K mg tb defs dis q
structure BodyOk (K : PySem.W.Frag) (tb : Tab) (dis : List DI) (d : DI) : Prop where
  ex : ∃ (qual : Str) (st : Stmt) (c : Ct), L2.Fun K d.name qual st d.f d.fd ∧ FnScope c.N d.ps (defScope st) ∧ d.ps.length = d.df.np ∧ c.N.length = d.df.ns ∧ c.io = d.df.io ∧ c.fr = d.df.fr ∧ c.fns = tb.fns ∧ c.cls = tb.cls ∧ c.xis = tb.xis ∧ d.df.md = 0 ∧
    (∀ q ∈ c.kws, ∀ d', dis[q.1]? = some d' → KwOk K d'.fd d'.ps q.2.2.1 q.2.1 q.2.2.2) ∧ mtSs c (defScope st) d.df.body (defBody st) = true
structure TextOk (K : PySem.W.Frag) (mg : Str → Option Value) (tb : Tab) (defs : List Def) (dis : List DI) : Prop where
  df : ∀ (i : Nat) (d : DI), dis[i]? = some d → defs[i]? = some d.df
  bn : ∀ x ∈ bnames, mg x = none
  ca : ∀ k, k < KF.nc → ∃ C, ClA K k C
  cl : ∀ q ∈ tb.cls, ClsOk K mg tb defs dis q
  xi : ∀ q ∈ tb.xis, XiOk K mg q
  xm : ∀ q ∈ tb.cls, ∀ k, k < KF.nc → PySem.W.exmOne K (KF.T.cls k) (KF.T.cls q.2.1) = some (decide (k = q.2.1))
  mg : ∀ (i : Nat) (d : DI), dis[i]? = some d → mg d.name = some (.ref d.f)
  kp : ∀ (i : Nat) (d : DI), dis[i]? = some d → PySem.W.keepIn K (.ref d.f) = true
  bd : ∀ (i : Nat) (d : DI), dis[i]? = some d → Binds K d.fd d.ps []
  fs : ∀ (f : Nat) (p : Str × Bool), tb.fns[f]? = some p → ∃ d, dis[f]? = some d ∧ d.name = p.1 ∧ d.df.fr = p.2
  bo : ∀ (i : Nat) (d : DI), dis[i]? = some d → BodyOk K tb dis d
section
variable {P : Program} {w : World} {K : PySem.W.Frag} {mg : Str → Option Value} {base : Heap} {tb : Tab} {defs : List Def} {dis : List DI}
theorem callF_ln {n i : Nat} {d : DI} {o : Option (List D)} {ds : List D} (hd : defs[i]? = some d.df) (h0 : d.df.md = 0) (h : callF defs n i o ds ≠ .no) : (asl o ds).length = d.df.np ∧ o.isSome = d.df.io := by
  cases n with
  | zero => exact (h rfl).elim
  | succ n =>
    unfold callF at h
    rw [hd] at h
    dsimp only at h
    rw [if_neg (by rw [h0]; decide), if_neg (by rw [h0]; decide)] at h
    split at h
    · next q => exact ⟨q.1, q.2.1⟩
    · exact (h rfl).elim
theorem spD_len {d : DI} {F : Option (List D) → List D → CR} (hp : d.ps.length = d.df.np) : ∀ vs H Q E, spD KF.T d.df F vs H Q E → vs.length = d.ps.length := fun vs H Q E h => h.1.trans hp.symm
theorem TextOk.md (t : TextOk K mg tb defs dis) {i : Nat} {d : DI} (h : dis[i]? = some d) : d.df.md = 0 := by
  obtain ⟨_, _, _, _, _, _, _, _, _, _, _, _, h0, _⟩ := (t.bo i d h).ex
  exact h0
abbrev Fns (P : Program) (w : World) (K : PySem.W.Frag) (mg : Str → Option Value) (base : Heap) (defs : List Def) (dis : List DI) (n : Nat) : Prop := ∀ (i : Nat) (d : DI), dis[i]? = some d → FnOk P w K mg base (L2.CX P w) n d.f d.fd d.ps (spD KF.T d.df (callF defs n i))
theorem nob_of {o : Option (List D)} {ds : List D} {σ : St} {k : Nat} (h : o = none) : ∀ a, ¬ OA σ (asl o ds ++ List.replicate k .em) a := by
  subst h
  rintro a ⟨i, xs, h1, _⟩
  have m := List.mem_of_getElem? h1
  rcases List.mem_append.mp m with z | z
  · obtain ⟨d, _, e⟩ := List.mem_map.mp z
    cases e
  · cases List.eq_of_mem_replicate z
theorem good_of (hk : K = KF.K) (t : TextOk K mg tb defs dis) {n : Nat} (ih : Fns P w K mg base defs dis n) {N : List Str} {kws : List (Nat × Nat × List Str × List Nat)} {io fr : Bool} {qual : Str} {st : Stmt} {f : Addr} {ps : List Str} (S : FnScope N ps (defScope st)) {cdv : Value} {A : Around} {outer : List PySem.Env} {s : Shared} {H : Hp} {E : XK}
    (hr : Room n (A.deeper (envOfC qual (defScope st) s.heap.objs.size f cdv))) (hkw : ∀ q ∈ kws, ∀ d', dis[q.1]? = some d' → KwOk K d'.fd d'.ps q.2.2.1 q.2.1 q.2.2.2)
    (hm : ∀ q ∈ tb.cls, KF.T.flds q.2.1 = q.2.2.2 ∧ MkF P w K mg base (A.deeper (envOfC qual (defScope st) s.heap.objs.size f cdv)) (callF defs n) q.1 q.2.1 q.2.2.1) :
    Good (cxOf (L2.CX P w) P w K mg base N qual (defScope st) f cdv A outer s H E) KF.T (fun _ => E) dis (callF defs n) n ⟨N, tb.fns, kws, tb.cls, tb.xis, io, fr⟩ (defScope st) (locB (defScope st)) :=
  ⟨hk, ⟨ih, t.mg, t.kp, t.bd, fun j d' o ds hj hno => callF_ln (t.df j d' hj) (t.md hj) hno, hr, fun σ pins => passes_call (takes_of rfl rfl rfl rfl) (fun _ _ _ _ h => h) pins σ⟩,
    rfl, rfl, S.nd, rfl, Nat.lt_of_le_of_lt (Nat.add_le_add (Nat.le_add_right _ (16 * n)) (by decide : 66 ≤ 200)) hr.un, t.bn, t.fs, hkw, fun _ _ => .inl rfl, rfl, t.ca, hm, t.xi⟩
theorem ini_of {X : Cx} {T : XT} {W : St → XK} {n : Nat} {cf : CF} {c : Ct} {sc : Scope} {fok : Str → Bool} {sn : Str} (g : Good X T W dis cf n c sc fok) : ∀ (as : E) (ss : List Stmt) (fs : List Str), mtIni c sc sn as ss fs = true → Ini X T W cf sn ss fs as := by
  intro as
  induction as with
  | nil =>
    intro ss fs h
    unfold mtIni at h
    split at h
    · exact .nil
    · next e => cases e
    · cases h
  | cons a as _ ih =>
    intro ss fs h
    unfold mtIni at h
    split at h
    · next e => cases e
    · next e =>
      cases e
      simp only [Bool.and_eq_true, decide_eq_true_eq] at h
      obtain ⟨⟨⟨⟨h1, h2⟩, h3⟩, h4⟩, h5⟩ := h
      subst h1 h2
      exact .cons ((snd a).v g h4) h3 (ih _ _ h5)
    · cases h
  | _ =>
    intro ss fs h
    unfold mtIni at h
    first
      | cases h
      | (split at h
         · next e => cases e
         · next e => cases e
         · cases h)
/-- the makers -/
theorem mk_none {g gi : Nat} (dg : defs[g]? = some ⟨gi, 0, false, false, .nil, 2⟩) {d1 : Def} (di : defs[gi]? = some d1) (hd : d1.md = 1) : ∀ n, n < 2 → ∀ ds d o, callF defs n g none ds ≠ .ok d o := by
  intro n hn ds d o h
  match n, hn with
  | 0, _ => cases h
  | 1, _ =>
    unfold callF at h
    rw [dg] at h
    dsimp only at h
    rw [if_pos rfl] at h
    cases h
theorem mk_ev {g gi np s1 n : Nat} {as : E} (dg : defs[g]? = some ⟨gi, 0, false, false, .nil, 2⟩) (di : defs[gi]? = some ⟨np, s1, false, false, .cons (.ret (.tup as)) .nil, 1⟩) {ds : List D} {d : D} {o : List D} (h : callF defs (n + 2) g none ds = .ok d o) :
    ∃ fs e2, d = .tup fs ∧ evs (callF defs n) as (initE ds) = .ok fs e2 ∧ ds.length + 1 = np := by
  unfold callF at h
  rw [dg] at h
  dsimp only at h
  rw [if_pos rfl] at h
  unfold callF at h
  rw [di] at h
  dsimp only at h
  rw [if_neg (by decide), if_pos rfl] at h
  split at h
  · next hl =>
    have e1 : ex (callF defs n) (.cons (.ret (.tup as)) .nil) (.em :: ds.map .va) = (match ((evs (callF defs n) as (initE ds)).bind fun xs e => if xs.length ≤ sizeLine then .ok (.tup xs) e else .no).thn fun d e => .rt d e with
      | .nx e' => ex (callF defs n) .nil e'
      | r => r) := rfl
    rw [e1] at h
    cases hv : evs (callF defs n) as (initE ds) with
    | no => rw [hv] at h; cases h
    | ex c fs e => rw [hv] at h; cases h
    | ok fs e2 =>
      rw [hv] at h
      by_cases hz : fs.length ≤ sizeLine
      · have h : (match ((if fs.length ≤ sizeLine then R.ok (D.tup fs) e2 else .no).thn fun d e => .rt d e : RS) with
          | .nx e' => (match (RS.nx e') with | .rt (.tup fs) _ => CR.ok (.tup fs) [] | _ => .no)
          | .rt (.tup fs) _ => CR.ok (.tup fs) []
          | _ => .no) = .ok d o := by
          rw [if_pos hz]
          rw [show ((R.ok fs e2).bind fun xs e => if xs.length ≤ sizeLine then R.ok (D.tup xs) e else .no) = (if fs.length ≤ sizeLine then R.ok (D.tup fs) e2 else .no) from rfl, if_pos hz] at h
          exact h
        rw [if_pos hz] at h
        cases h
        exact ⟨fs, e2, rfl, rfl, hl⟩
      · rw [show ((R.ok fs e2).bind fun xs e => if xs.length ≤ sizeLine then R.ok (D.tup xs) e else .no) = (if fs.length ≤ sizeLine then R.ok (D.tup fs) e2 else .no) from rfl, if_neg hz] at h
        cases h
  · cases h
theorem mks_of (hk : K = KF.K) (t : TextOk K mg tb defs dis) : ∀ n : Nat, (∀ m, m ≤ n → Fns P w K mg base defs dis m) → ∀ (A : Around), Room n A → ∀ q ∈ tb.cls, KF.T.flds q.2.1 = q.2.2.2 ∧ MkF P w K mg base A (callF defs n) q.1 q.2.1 q.2.2.1 := by
  intro n
  induction n using Nat.strongRecOn with
  | ind n IH =>
    intro ih A hr q hq
    cases t.cl q hq with
    | @ini B newId initId bm C fI fd st x qual sn ps as gi s1 kws b K1 iC tI F S hv hd hcd kw mt hb hm lt hc hf nd ne no h2 h9 hl dg di =>
      refine ⟨hf, ?_⟩
      by_cases hn : n < 2
      · exact .no hm K1.kC lt hc (mk_none dg di rfl n hn)
      · obtain ⟨m, rfl⟩ : ∃ m, n = m + 2 := ⟨n - 2, by omega⟩
        have hd' : (sn == ("__debug__" : Str)) = false := by
          unfold notDbg at hd
          simpa using hd
        refine .ini b K1 iC tI (init_fn (cf := callF defs m) (k := m) (T := KF.T) F S b K1 (by omega) no (visB_ok hv) hd' hcd fun cdv A2 outer s H E hr2 => ?_) hr hb hm lt hc hf nd ne (by omega) (by omega) (fun ds d o h => mk_ev dg di h)
        exact ini_of (good_of hk t (ih m (by omega)) S hr2 kw (IH m (by omega) (fun j hj => ih j (by omega)) _ hr2)) _ _ _ mt
    | @zer B newId initId bm C gi s1 F e kC exC tyC hm lt hc hf nl dg di =>
      refine ⟨hf, ?_⟩
      by_cases hn : n < 2
      · exact .no hm kC lt hc (mk_none dg di rfl n hn)
      · obtain ⟨m, rfl⟩ : ∃ m, n = m + 2 := ⟨n - 2, by omega⟩
        refine .zer F e kC exC tyC hm lt hc (hf.trans nl) fun ds d o h => ?_
        obtain ⟨fs, e2, h1, h2, h3⟩ := mk_ev dg di h
        cases h2
        exact ⟨h1, List.length_eq_zero_iff.mp (by omega)⟩
theorem all_fn (hk : K = KF.K) (t : TextOk K mg tb defs dis) : ∀ n : Nat, Fns P w K mg base defs dis n := by
  intro n
  induction n using Nat.strongRecOn with
  | ind n IH =>
    intro i d h
    obtain ⟨qual, st, c, F, S, h1, h2, h3, h4, h5, h5a, h5b, h0, h6, h7⟩ := (t.bo i d h).ex
    cases n with
    | zero =>
      exact ⟨spD_len h1, fun A outer s H args us vs Q E hr he hb hv hs => by
        obtain ⟨_, G, o, ds, r, ho, q⟩ := hs
        exact q.elim⟩
    | succ n =>
      have ih := fun m (hm : m ≤ n) => IH m (Nat.lt_succ_of_le hm)
      refine F.okX S (spD_len h1) fun cdv A outer s H vs Q E hr hs => ?_
      obtain ⟨hl, G, o, ds, r, ho, q⟩ := hs
      have q : Post KF.T d.df.fr vs o ds G H Q E (callF defs (n + 1) i o ds) := q
      have ne : callF defs (n + 1) i o ds ≠ .no := fun z => by rw [z] at q; exact q
      obtain ⟨k1, k2⟩ := callF_ln (t.df i d h) h0 ne
      unfold callF at q
      rw [t.df i d h] at q
      dsimp only at q
      rw [if_neg (by rw [h0]; decide), if_neg (by rw [h0]; decide)] at q
      split at q
      · next hq =>
        have hn : (asl o ds).length ≤ c.N.length := by rw [h2, hq.1]; exact hq.2.2
        obtain ⟨N, fns, kws, cls, xis, io, fr⟩ := c
        dsimp only at h5 h5a h5b h3 h4
        subst h5 h5a h5b
        have g := good_of hk t (ih n (Nat.le_refl _)) (io := io) (fr := fr) (outer := outer) (H := H) (E := E) S hr h6 (mks_of hk t n ih _ hr)
        have gs : GoodS (cxOf (L2.CX P w) P w K mg base N qual (defScope st) d.f cdv A outer s H E) KF.T (fun _ => E) dis (callF defs n) n ⟨N, tb.fns, kws, tb.cls, tb.xis, io, fr⟩ (defScope st) ⟨start N vs, asl o ds ++ List.replicate (N.length - (asl o ds).length) .em, G, H, d.df.io⟩ :=
          ⟨g, (by show (if (defScope st).kind.isAnnotationScope = true then ScopeKind.function else (defScope st).kind) = _; rw [S.kind]; rfl), passes_of rfl, h3.symm, rfl, rfl, rfl, takes_of rfl rfl rfl rfl, (fun hio => nob_of (by have := hq.2.1; rw [show d.df.io = false from hio] at this; cases o with | none => rfl | some _ => cases this)), t.xm⟩
        refine ⟨_, ss_of ((stm d.df.fr h4.symm d.df.body _ _ gs).2 _ h7), G, asl o ds ++ List.replicate (N.length - (asl o ds).length) .em, ?_, ?_⟩
        · obtain ⟨r1, _⟩ := rel_start r hn
          exact ⟨r1, Same.refl _, fun b o hb _ => hb, fun b o hb => .inl hb, fun b hb => hb, fun a ha => .inl ha, fun _ => rfl⟩
        · have e1 : d.df.ns - d.df.np = N.length - (asl o ds).length := by rw [← h2, hq.1]
          rw [e1] at q
          exact post_rs rfl r hn ho q
      · exact (q : False).elim
/-! ### the law's def, the script in its hand -/
def spLaw (K : PySem.W.Frag) : Sp := fun vs H Q _ => ∃ (a : Addr) (ns : List Int), vs = [.ref a] ∧ SqL K H a (ns.map V.int) ∧ ns.length ≤ 63 ∧ ∀ H', Q (.bl true) H'
theorem rep_ints {G : Hp} : ∀ ns : List Int, RepA G (ns.map V.int) (ns.map D.int)
  | [] => .nil
  | n :: ns => .cons (.int n) (rep_ints ns)
theorem law_fn (hk : K = KF.K) (t : TextOk K mg tb defs dis) {n i : Nat} {d : DI} (h : dis[i]? = some d) (h1 : d.df.np = 1) (h2 : d.df.io = false) (h3 : d.df.fr = false)
    (hl : ∀ ns : List Int, ns.length ≤ 63 → ∃ o, callF defs n i none [.scr (ns.map D.int)] = .ok (.bl true) o) : FnOk P w K mg base (L2.CX P w) n d.f d.fd d.ps (spLaw K) := by
  refine (all_fn hk t n i d h).imp fun vs H Q E ⟨a, ns, e, hs, hl1, k⟩ => ?_
  subst e
  obtain ⟨o, ho⟩ := hl ns hl1
  rw [hk] at hs
  refine ⟨h1.symm, H, none, [.scr (ns.map D.int)], ⟨Same.refl _, rfl, fun i d hi => ?_, fun i ds hi => ?_, fun i j xs ys hi _ _ => ?_⟩, h2.symm, ?_⟩
  · cases i with
    | zero =>
      cases hi
      exact ⟨_, rfl, .scr hs (rep_ints ns)⟩
    | succ i => cases hi
  · cases i <;> cases hi
  · cases i <;> cases hi
  · rw [ho, h3]
    intro v H' G' r s q
    have q : Rep G' v (.bl true) := q
    cases q
    exact k H'
end
end Ev
end
section
namespace Ev
open PySem PySem.Spec L2
open PyProof.Rows hiding St
variable [KF]
section
variable {P : Program} {w : World} {K : PySem.W.Frag} {mg : Str → Option Value} {base : Heap} {tb : Tab} {defs : List Def} {dis : List DI}
/-! ### the text's defs as they stand behind the top -/
structure FnAt (K : PySem.W.Frag) (mg : Str → Option Value) (d : DI) (st : Stmt) : Prop where
  m : mg d.name = some (.ref d.f)
  fn : L2.Fun K d.name d.name st d.f d.fd
  bd : Binds K d.fd d.ps []
def AllP {α : Type} (p : α → Prop) : List α → Prop
  | [] => True
  | d :: ds => p d ∧ AllP p ds
theorem allP_get {α : Type} {p : α → Prop} {d : α} {l : List α} : ∀ {i : Nat}, AllP p l → l[i]? = some d → p d := by
  induction l with
  | nil =>
    intro i _ e
    cases i <;> exact nomatch e
  | cons x xs ih =>
    intro i h e
    cases i with
    | zero =>
      rw [List.getElem?_cons_zero] at e
      cases Option.some.inj e
      exact h.1
    | succ i =>
      rw [List.getElem?_cons_succ] at e
      exact ih h.2 e
theorem allP_mem {α : Type} {p : α → Prop} {d : α} {l : List α} (h : AllP p l) (m : d ∈ l) : p d := by
  obtain ⟨i, hi⟩ := List.mem_iff_getElem?.mp m
  exact allP_get h hi
theorem text_of {kws : List (Nat × Nat × List Str × List Nat)} {ext : List Def} (hf : dis.map (fun d => (d.name, d.df.fr)) = tb.fns) (hd : defs = dis.map DI.df ++ ext) (hb : AllP (fun x => mg x = none) bnames) (hk : AllP (fun (q : Nat × Nat × List Str × List Nat) => ∀ d', dis[q.1]? = some d' → KwOk K d'.fd d'.ps q.2.2.1 q.2.1 q.2.2.2) kws)
    (h : AllP (fun d => ∃ (st : Stmt) (N : List Str), FnAt K mg d st ∧ FnScope N d.ps (defScope st) ∧ d.ps.length = d.df.np ∧ N.length = d.df.ns ∧ d.df.md = 0 ∧ mtSs ⟨N, tb.fns, kws, tb.cls, tb.xis, d.df.io, d.df.fr⟩ (defScope st) d.df.body (defBody st) = true) dis)
    (ca : ∀ k, k < KF.nc → ∃ C, ClA K k C) (cl : AllP (ClsOk K mg tb defs dis) tb.cls) (xi : AllP (XiOk K mg) tb.xis) (xm : AllP (fun (q : Str × Nat × Nat × List Str) => ∀ k, k < KF.nc → PySem.W.exmOne K (KF.T.cls k) (KF.T.cls q.2.1) = some (decide (k = q.2.1))) tb.cls) : TextOk K mg tb defs dis where
  df i d e := by
    have hl := (List.getElem?_eq_some_iff.mp e).1
    rw [hd, List.getElem?_append_left (by rw [List.length_map]; exact hl), List.getElem?_map, e]
    rfl
  bn x hx := allP_mem (p := fun x => mg x = none) hb hx
  ca := ca
  cl q hq := allP_mem cl hq
  xi q hq := allP_mem xi hq
  xm q hq := allP_mem xm hq
  mg i d e := by obtain ⟨st, N, h1, _⟩ := allP_get h e; exact h1.m
  kp i d e := by obtain ⟨st, N, h1, _⟩ := allP_get h e; exact h1.fn.kp
  bd i d e := by obtain ⟨st, N, h1, _⟩ := allP_get h e; exact h1.bd
  fs f p e := by
    rw [← hf, List.getElem?_map, Option.map_eq_some_iff] at e
    obtain ⟨d, e1, e2⟩ := e
    exact ⟨d, e1, by rw [← e2], by rw [← e2]⟩
  bo i d e := by
    obtain ⟨st, N, h1, h2, h3, h4, h0, h5⟩ := allP_get h e
    exact ⟨d.name, st, ⟨N, tb.fns, kws, tb.cls, tb.xis, d.df.io, d.df.fr⟩, h1.fn, h2, h3, h4, rfl, rfl, rfl, rfl, rfl, h0, fun q hq => allP_mem hk hq, h5⟩
theorem fnat {K : PySem.W.Frag} {mg : Str → Option Value} {h : Heap} {st : Stmt} {nm : Str} {ps : List Str} {df : Def} {f : Addr} {oc : Value} {od an : Option Addr} {osl : Array (Option Value)} {kV doc pm cdv ct : Value} (X : K.In h) (G : h.Ns mainGlobals mg) (a : PySem.W.nsIn K mainGlobals nm = some (some (.ref f)))
    (l : K.lookup f = some ⟨oc, od, .func (PySem.W.fnOf nm nm (defArgs st) (defBody st) (defScope st) .none kV doc pm an cdv ct), osl⟩) (c : PySem.W.codeIn K cdv nm = true) (k : PySem.W.keepIn K (.ref f) = true)
    (hb : ∀ us : List Value, us.length = ps.length → bindArgs (PySem.W.fnOf nm nm (defArgs st) (defBody st) (defScope st) .none kV doc pm an cdv ct) ⟨us, []⟩ = pure (ps.zip us)) :
    FnAt K mg ⟨nm, f, PySem.W.fnOf nm nm (defArgs st) (defBody st) (defScope st) .none kV doc pm an cdv ct, ps, df⟩ st := ⟨PySem.W.mg_of X G a, fun_mk (st := st) l c k, .all hb⟩
/-- a class of errors for reading -/
theorem cla_of {K : PySem.W.Frag} {k : Nat} {C : Addr} (hc : KF.T.cls k = .ref C) (ga : PySem.W.findIn K (.ref C) "__getattribute__" = some (some (.builtin "BaseException.__getattribute__"))) (gg : PySem.W.findIn K (.ref C) "__getattr__" = some none) (exC : PySem.W.subIn K (.ref C) (.type "BaseException") = some true) (hd : PySem.W.hasDictIn K C = true)
    (ha : PySem.W.findIn K (.ref C) "__class__" = some (some (.builtin "object.__class__"))) (hn : PySem.W.specialIn K (.builtin "object.__class__") "__get__" = some (some (.builtin "getset_descriptor.__get__"))) (ht : PySem.W.takesIn K (.builtin "object.__class__") = some true) (hm : PySem.W.mroIn K C (.type "object") = some true)
    (no : AllP (fun f => PySem.W.findIn K (.ref C) f = some none) (KF.T.flds k)) : ∃ C, ClA K k C := ⟨C, hc, ⟨ga, gg, exC, hd⟩, ⟨ga, gg, exC, hd, ha, hn, ht, hm⟩, fun f hf => allP_mem (p := fun f => PySem.W.findIn K (.ref C) f = some none) no hf⟩
end
/-- the j-th statement of a class -/
def classAt (st : Stmt) (j : Nat) : Stmt := match st with
  | .ClassDef _ _ _ b _ _ _ _ _ _ _ => b.getD j (.Pass ⟨0, 0, 0, 0⟩)
  | _ => .Pass ⟨0, 0, 0, 0⟩
end Ev
end
section
namespace Ev
open L2
/-! ### running a term -/
@[simp] theorem bind_ok {α β : Type} {a : α} {e : Env} {k : α → Env → R β} : (R.ok a e).bind k = k a e := rfl
@[simp] theorem thn_ok {α : Type} {a : α} {e : Env} {k : α → Env → RS} : (R.ok a e).thn k = k a e := rfl
@[simp] theorem lift_some {α : Type} {a : α} {e : Env} : lift (some a) e = .ok a e := rfl
@[simp] theorem outC_ok {d : D} {o : List D} {e : Env} {k : List D → Env} : outC (.ok d o) e k = .ok d (k o) := rfl
@[simp] theorem b_add {i j : Int} : binop .add (.int i) (.int j) = some (.int (i + j)) := rfl
@[simp] theorem b_sub {i j : Int} : binop .sub (.int i) (.int j) = some (.int (i - j)) := rfl
theorem b_mul {i j : Int} (h : (-18446744073709551616 < i ∧ i < 18446744073709551616) ∨ (-18446744073709551616 < j ∧ j < 18446744073709551616)) : binop .mul (.int i) (.int j) = some (.int (i * j)) := if_pos (.inl h)
theorem b_div {i j : Int} (h : 0 < j ∧ j < 10 ^ 60) : binop .fdiv (.int i) (.int j) = some (.int (i / j)) := if_pos h
theorem b_mod {i j : Int} (h : 0 < j) : binop .mod (.int i) (.int j) = some (.int (i % j)) := if_pos h
@[simp] theorem c_lt {i j : Int} : cmpop .lt (.int i) (.int j) = some (decide (i < j)) := rfl
@[simp] theorem c_le {i j : Int} : cmpop .le (.int i) (.int j) = some (decide (i ≤ j)) := rfl
@[simp] theorem c_gt {i j : Int} : cmpop .gt (.int i) (.int j) = some (decide (j < i)) := rfl
@[simp] theorem c_ge {i j : Int} : cmpop .ge (.int i) (.int j) = some (decide (j ≤ i)) := rfl
@[simp] theorem c_eq {i j : Int} : cmpop .eq (.int i) (.int j) = some (decide (i = j)) := rfl
@[simp] theorem c_ne {i j : Int} : cmpop .ne (.int i) (.int j) = some (!decide (i = j)) := rfl
@[simp] theorem t_bl {b : Bool} : truthy (.bl b) = some b := rfl
@[simp] theorem t_int {i : Int} : truthy (.int i) = some (i != 0) := rfl
@[simp] theorem u_int {i : Int} : builtin .int (.int i) = some (.int i) := rfl
@[simp] theorem u_abs {i : Int} : builtin .abs (.int i) = some (.int (if i < 0 then -i else i)) := rfl
@[simp] theorem u_intb {b : Bool} : builtin .int (.bl b) = some (.int (if b then 1 else 0)) := rfl
@[simp] theorem u_lenl {xs : List D} : builtin .len (.lst xs) = some (.int xs.length) := rfl
@[simp] theorem u_lent {xs : List D} : builtin .len (.tup xs) = some (.int xs.length) := rfl
@[simp] theorem i_lst {xs : List D} {i : Int} : item (.lst xs) (.int i) = atI xs i := rfl
@[simp] theorem i_tup {xs : List D} {i : Int} : item (.tup xs) (.int i) = atI xs i := rfl
@[simp] theorem getS_z {s : Sl} {e : Env} : getS (s :: e) 0 = s := rfl
@[simp] theorem getS_s {s : Sl} {e : Env} {n : Nat} : getS (s :: e) (n + 1) = getS e n := rfl
@[simp] theorem isL_ow {xs : List D} : isL (.ow xs) = true := rfl
@[simp] theorem isL_va {xs : List D} : isL (.va (.lst xs)) = true := rfl
@[simp] theorem lstS_ow {xs : List D} : lstS (.ow xs) = some xs := rfl
@[simp] theorem lstS_va {xs : List D} : lstS (.va (.lst xs)) = some xs := rfl
@[simp] theorem isOw_ow {xs : List D} : isOw (.ow xs) = true := rfl
@[simp] theorem isOw_va {d : D} : isOw (.va d) = false := rfl
@[simp] theorem isOw_em : isOw .em = false := rfl
@[simp] theorem owS_ow {xs : List D} : owS (.ow xs) = some xs := rfl
@[simp] theorem isOd_l {xs : List D} : isOd (.ow (.l xs)) = false := rfl
@[simp] theorem isOd_d {ks : List (List Int)} {xs : List D} : isOd (.ow (.d ks xs)) = true := rfl
@[simp] theorem odS_d {ks : List (List Int)} {xs : List D} : odS (.ow (.d ks xs)) = some (ks, xs) := rfl
@[simp] theorem isL_d {ks : List (List Int)} {xs : List D} : isL (.ow (.d ks xs)) = false := rfl
@[simp] theorem isDc_d {ks : List (List Int)} {xs : List D} : isDc (.ow (.d ks xs)) = true := rfl
@[simp] theorem dicS_d {ks : List (List Int)} {xs : List D} : dicS (.ow (.d ks xs)) = some (ks, xs) := rfl
@[simp] theorem isDc_v {ks : List (List Int)} {xs : List D} : isDc (.va (.dic ks xs)) = true := rfl
@[simp] theorem dicS_v {ks : List (List Int)} {xs : List D} : dicS (.va (.dic ks xs)) = some (ks, xs) := rfl
@[simp] theorem isOwn_ow {w : Ow} : isOwn (.ow w) = true := rfl
@[simp] theorem isOwn_va {d : D} : isOwn (.va d) = false := rfl
@[simp] theorem isOwn_em : isOwn .em = false := rfl
@[simp] theorem toD_l {xs : List D} : Ow.toD (.l xs) = .lst xs := rfl
@[simp] theorem toD_d {ks : List (List Int)} {xs : List D} : Ow.toD (.d ks xs) = .dic ks xs := rfl
@[simp] theorem atI_0 {α : Type} {x : α} {xs : List α} : atI (x :: xs) 0 = some x := by
  unfold atI ixN
  rw [if_pos (by decide), if_pos (by simp)]
  rfl
@[simp] theorem atI_1 {α : Type} {x y : α} {xs : List α} : atI (x :: y :: xs) 1 = some y := by
  unfold atI ixN
  rw [if_pos (by decide), if_pos (by simp; omega)]
  rfl
@[simp] theorem atI_2 {α : Type} {x y z : α} {xs : List α} : atI (x :: y :: z :: xs) 2 = some z := by
  unfold atI ixN
  rw [if_pos (by decide), if_pos (by simp; omega)]
  rfl
theorem ixN_in {n : Nat} {i : Int} (h : 0 ≤ i ∧ i < n) : ixN n i = some i.toNat := by
  unfold ixN
  rw [if_pos h.1, if_pos h.2]
theorem atI_in {α : Type} {xs : List α} {i : Int} (h : 0 ≤ i ∧ i < xs.length) : atI xs i = xs[i.toNat]? := by
  unfold atI
  rw [ixN_in h]
  rfl
@[simp] theorem ixN_l0 {x : D} {xs : List D} : ixN (x :: xs).length 0 = some 0 := by rw [ixN_in (by simp)]; rfl
@[simp] theorem ixN_l2 {x y z : D} {xs : List D} : ixN (x :: y :: z :: xs).length 2 = some 2 := by rw [ixN_in (by simp; omega)]; rfl
@[simp] theorem set_z {α : Type} {x y : α} {xs : List α} : (x :: xs).set 0 y = y :: xs := rfl
@[simp] theorem set_s {α : Type} {x y : α} {xs : List α} {n : Nat} : (x :: xs).set (n + 1) y = x :: xs.set n y := rfl
@[simp] theorem outO_t {xs : List D} {e : Env} : outO true (.ow xs :: e) = some xs := rfl
@[simp] theorem outO_f {e : Env} : outO false e = some [] := rfl
@[simp] theorem ex_cons {cf : CF} {s ss : S} {e : Env} : ex cf (.cons s ss) e = (match ex cf s e with | .nx e' => ex cf ss e' | r => r) := rfl
theorem ex_nx {cf : CF} {s ss : S} {e e' : Env} (h : ex cf s e = .nx e') : ex cf (.cons s ss) e = ex cf ss e' := by
  rw [ex_cons, h]
theorem ex_rt {cf : CF} {s ss : S} {e e' : Env} {d : D} (h : ex cf s e = .rt d e') : ex cf (.cons s ss) e = .rt d e' := by
  rw [ex_cons, h]
theorem ex_for {cf : CF} {t : Tg} {it : E} {b : S} {e e1 : Env} {ds : List D} (h : evI cf it e = .ok ds e1) : ex cf (.for_ t it b) e = loopS (fun e => ex cf b e) t ds e1 := by
  show ((evI cf it e).thn fun ds e => loopS (fun e => ex cf b e) t ds e) = _
  rw [h]
  rfl
theorem loop_nil {f : Env → RS} {t : Tg} {e : Env} : loopS f t [] e = .nx e := rfl
theorem loop_nx {f : Env → RS} {t : Tg} {x : D} {xs : List D} {e e1 e2 : Env} (h1 : tset t x e = some e1) (h2 : f e1 = .nx e2) : loopS f t (x :: xs) e = loopS f t xs e2 := by
  show (match tset t x e with | none => _ | some e' => _) = _
  rw [h1]
  show (match f e1 with | .nx e2 => _ | .ct e2 => _ | .bk e2 => _ | .rt d e2 => _ | .exn c fs e2 => _ | .no => _) = _
  rw [h2]
theorem loop_rt {f : Env → RS} {t : Tg} {x d : D} {xs : List D} {e e1 e2 : Env} (h1 : tset t x e = some e1) (h2 : f e1 = .rt d e2) : loopS f t (x :: xs) e = .rt d e2 := by
  show (match tset t x e with | none => _ | some e' => _) = _
  rw [h1]
  show (match f e1 with | .nx e2 => _ | .ct e2 => _ | .bk e2 => _ | .rt d e2 => _ | .exn c fs e2 => _ | .no => _) = _
  rw [h2]
theorem lc_nx {own : List Nat} {f : Env → R (Option D)} {t : Tg} {x y : D} {xs acc : List D} {e e1 e2 : Env} (h1 : tset t x e = some e1) (h2 : f e1 = .ok (some y) e2) (h3 : acc.length < PySem.sizeLine) : loopC own f t (x :: xs) acc e = loopC own f t xs (acc ++ [y]) (wipeE e2 own) := by
  show (match tset t x e with | none => _ | some e' => _) = _
  rw [h1]
  show (match f e1 with | .ok (some y) e2 => _ | .ok none e2 => _ | _ => _) = _
  rw [h2]
  exact if_pos h3
theorem lc_skip {own : List Nat} {f : Env → R (Option D)} {t : Tg} {x : D} {xs acc : List D} {e e1 e2 : Env} (h1 : tset t x e = some e1) (h2 : f e1 = .ok none e2) : loopC own f t (x :: xs) acc e = loopC own f t xs acc (wipeE e2 own) := by
  show (match tset t x e with | none => _ | some e' => _) = _
  rw [h1]
  show (match f e1 with | .ok (some y) e2 => _ | .ok none e2 => _ | _ => _) = _
  rw [h2]
/-- a comprehension that keeps the slots as they are, item by item -/
theorem lc_map {own : List Nat} {f : Env → R (Option D)} {t : Tg} {e : Env} {g : D → D} {p : D → Prop} (hs : ∀ x, p x → ∃ e1 e2, tset t x e = some e1 ∧ f e1 = .ok (some (g x)) e2 ∧ wipeE e2 own = e) :
    ∀ (xs acc : List D), (∀ x ∈ xs, p x) → acc.length + xs.length ≤ PySem.sizeLine → loopC own f t xs acc e = .ok (acc ++ xs.map g) e := by
  intro xs
  induction xs with
  | nil =>
    intro acc _ _
    rw [List.map_nil, List.append_nil]
    rfl
  | cons x xs ih =>
    intro acc hp hl
    rw [List.length_cons] at hl
    obtain ⟨e1, e2, h1, h2, h3⟩ := hs x (hp x List.mem_cons_self)
    rw [lc_nx h1 h2 (by omega), h3, ih (acc ++ [g x]) (fun y hy => hp y (List.mem_cons_of_mem _ hy)) (by rw [List.length_append, List.length_singleton]; omega), List.map_cons, List.append_assoc]
    rfl
theorem ev_lc {cf : CF} {el it : E} {t : Tg} {own : List Nat} {e : Env} {ds : List D} {g : D → D} (hi : evI cf it e = .ok ds e) (ho : (own.all fun j => !isOwn (getS e j)) = true) (hr : restE (wipeE e own) e own = e) (hl : ds.length ≤ PySem.sizeLine)
    (hs : ∀ x ∈ ds, ∃ e1 e2, tset t x (wipeE e own) = some e1 ∧ ev cf el e1 = .ok (g x) e2 ∧ wipeE e2 own = wipeE e own) : ev cf (.lc el t it .absent own) e = .ok (.lst (ds.map g)) e := by
  show ((evI cf it e).bind fun ds e => if (own.all fun j => !isOwn (getS e j)) = true then (loopC own (fun e => (R.ok true e).bind fun k e => if k = true then (ev cf el e).bind fun y e => .ok (some y) e else .ok none e) t ds [] (wipeE e own)).bind fun ys e' => R.ok (D.lst ys) (restE e' e own) else .no) = _
  rw [hi]
  show (if (own.all fun j => !isOwn (getS e j)) = true then _ else _) = _
  rw [if_pos ho, lc_map (g := g) (p := fun x => x ∈ ds) ?_ ds [] (fun x hx => hx) (by rw [List.length_nil]; omega)]
  · show R.ok (D.lst ([] ++ ds.map g)) (restE (wipeE e own) e own) = _
    rw [hr, List.nil_append]
  · intro x hx
    obtain ⟨e1, e2, h1, h2, h3⟩ := hs x hx
    refine ⟨e1, e2, h1, ?_, h3⟩
    show ((ev cf el e1).bind fun y e => .ok (some y) e) = _
    rw [h2]
    rfl
theorem bools_map {α : Type} (g : α → Bool) : ∀ l : List α, bools? (l.map fun x => D.bl (g x)) = some (l.map g)
  | [] => rfl
  | x :: l => by
    show (bools? (l.map fun x => D.bl (g x))).map _ = _
    rw [bools_map g l]
    rfl
theorem all_map {α : Type} (g : α → Bool) (l : List α) : builtin .all (.lst (l.map fun x => D.bl (g x))) = some (.bl (l.all g)) := by
  show (bools? (l.map fun x => D.bl (g x))).map (fun bs => D.bl (bs.all id)) = _
  rw [bools_map]
  show some (D.bl ((l.map g).all id)) = _
  rw [List.all_map]
  rfl
theorem in62_of {i : Int} (h : 0 ≤ i ∧ i < 4611686018427387904) : in62 i = true := by
  unfold in62
  exact decide_eq_true ⟨by omega, h.2⟩
theorem range2_of {cf : CF} {a b : E} {e e1 e2 : Env} {i j : Int} (h1 : ev cf a e = .ok (.int i) e1) (h2 : ev cf b e1 = .ok (.int j) e2) (h3 : 0 ≤ i ∧ i < 4611686018427387904) (h4 : 0 ≤ j ∧ j < 4611686018427387904) : evI cf (.range2 a b) e = .ok (rangeD i (j - i).toNat) e2 := by
  show ((ev cf a e).bind fun x e => (ev cf b e).bind fun y e => match x, y with
    | .int i, .int j => if in62 i = true ∧ in62 j = true then R.ok (rangeD i (j - i).toNat) e else .no
    | _, _ => .no) = _
  rw [h1]
  show ((ev cf b e1).bind fun y e => match D.int i, y with
    | .int i, .int j => if in62 i = true ∧ in62 j = true then R.ok (rangeD i (j - i).toNat) e else .no
    | _, _ => .no) = _
  rw [h2]
  exact if_pos ⟨in62_of h3, in62_of h4⟩
theorem range1_of {cf : CF} {a : E} {e e1 : Env} {i : Int} (h1 : ev cf a e = .ok (.int i) e1) (h3 : 0 ≤ i ∧ i < 4611686018427387904) : evI cf (.range1 a) e = .ok (rangeD 0 i.toNat) e1 := by
  show ((ev cf a e).bind fun x e => match x with | .int j => if in62 j = true then R.ok (rangeD 0 j.toNat) e else .no | _ => .no) = _
  rw [h1]
  exact if_pos (in62_of h3)
theorem ex_ite {cf : CF} {c : E} {a b : S} {e e' : Env} {k : Bool} (h : ev cf c e = .ok (.bl k) e') : ex cf (.ite c a b) e = if k = true then ex cf a e' else ex cf b e' := by
  show ((ev cf c e).thn fun x e => (lift (truthy x) e).thn fun k e => if k = true then ex cf a e else ex cf b e) = _
  rw [h]
  rfl
end Ev
end
section
namespace Lib
open Ev L2
theorem thousand : 2000 ≤ PySem.sizeLine := by decide
/-! ### running, by the parts of a term -/
def nthS : S → Nat → S
  | .cons s _, 0 => s
  | .cons _ ss, n + 1 => nthS ss n
  | _, _ => .nil
def forB : S → S
  | .for_ _ _ b => b
  | _ => .nil
theorem evs_nil {cf : CF} {e : Env} : evs cf .nil e = .ok [] e := rfl
theorem evs_cons {cf : CF} {a as : E} {e e1 e2 : Env} {x : D} {xs : List D} (h1 : ev cf a e = .ok x e1) (h2 : evs cf as e1 = .ok xs e2) : evs cf (.cons a as) e = .ok (x :: xs) e2 := by
  show ((ev cf a e).bind fun x e => (evs cf as e).bind fun xs e => .ok (x :: xs) e) = _
  rw [h1, bind_ok, h2, bind_ok]
theorem ev_call {cf : CF} {f : Nat} {as : E} {e e1 : Env} {ds : List D} {d : D} {o : List D} (h1 : evs cf as e = .ok ds e1) (h2 : cf f none ds = .ok d o) : ev cf (.call f as) e = .ok d e1 := by
  show ((evs cf as e).bind fun ds e => outC (cf f none ds) e fun _ => e) = _
  rw [h1, bind_ok, h2, outC_ok]
theorem ev_callo {cf : CF} {f i : Nat} {as : E} {e e1 : Env} {xs ds : List D} {d : D} {o : List D} (h1 : isOw (getS e i) = true) (h2 : evs cf as e = .ok ds e1) (h3 : getS e1 i = .ow xs) (h4 : cf f (some xs) ds = .ok d o) : ev cf (.callo f i as) e = .ok d (e1.set i (.ow o)) := by
  show (if isOw (getS e i) = true then (evs cf as e).bind fun ds e => (lift (owS (getS e i)) e).bind fun xs e => outC (cf f (some xs) ds) e fun o => e.set i (.ow o) else .no) = _
  rw [if_pos h1, h2, bind_ok, h3]
  show outC (cf f (some xs) ds) e1 (fun o => e1.set i (.ow o)) = _
  rw [h4, outC_ok]
theorem ev_callk {cf : CF} {f : Nat} {as bs : E} {pl : List Nat} {e e1 e2 : Env} {xs ys ds : List D} {d : D} {o : List D} (h1 : evs cf as e = .ok xs e1) (h2 : evs cf bs e1 = .ok ys e2) (h3 : perm (xs ++ ys) pl = some ds) (h4 : cf f none ds = .ok d o) : ev cf (.callk f as bs pl) e = .ok d e2 := by
  show ((evs cf as e).bind fun xs e => (evs cf bs e).bind fun ys e => (lift (perm (xs ++ ys) pl) e).bind fun ds e => outC (cf f none ds) e fun _ => e) = _
  rw [h1, bind_ok, h2, bind_ok, h3, lift_some, bind_ok, h4, outC_ok]
theorem ev_tup {cf : CF} {as : E} {e e' : Env} {xs : List D} (h : evs cf as e = .ok xs e') (hl : xs.length ≤ PySem.sizeLine) : ev cf (.tup as) e = .ok (.tup xs) e' := by
  show ((evs cf as e).bind fun xs e => if xs.length ≤ PySem.sizeLine then R.ok (D.tup xs) e else .no) = _
  rw [h, bind_ok, if_pos hl]
theorem ev_lst {cf : CF} {as : E} {e e' : Env} {xs : List D} (h : evs cf as e = .ok xs e') (hl : xs.length ≤ PySem.sizeLine) : ev cf (.lst as) e = .ok (.lst xs) e' := by
  show ((evs cf as e).bind fun xs e => if xs.length ≤ PySem.sizeLine then R.ok (D.lst xs) e else .no) = _
  rw [h, bind_ok, if_pos hl]
theorem ev_bin {cf : CF} {op : B2} {a b : E} {e e1 e2 : Env} {x y z : D} (h1 : ev cf a e = .ok x e1) (h2 : ev cf b e1 = .ok y e2) (h3 : binop op x y = some z) : ev cf (.bin op a b) e = .ok z e2 := by
  show ((ev cf a e).bind fun x e => (ev cf b e).bind fun y e => lift (binop op x y) e) = _
  rw [h1, bind_ok, h2, bind_ok, h3, lift_some]
theorem ev_cmp {cf : CF} {op : C2} {a b : E} {e e1 e2 : Env} {x y : D} {k : Bool} (h1 : ev cf a e = .ok x e1) (h2 : ev cf b e1 = .ok y e2) (h3 : cmpop op x y = some k) : ev cf (.cmp op a b) e = .ok (.bl k) e2 := by
  show ((ev cf a e).bind fun x e => (ev cf b e).bind fun y e => (lift (cmpop op x y) e).bind fun k e => R.ok (D.bl k) e) = _
  rw [h1, bind_ok, h2, bind_ok, h3, lift_some, bind_ok]
theorem ev_bi {cf : CF} {b : Bi} {a : E} {e e1 : Env} {x y : D} (h1 : ev cf a e = .ok x e1) (h2 : builtin b x = some y) : ev cf (.bi b a) e = .ok y e1 := by
  show ((ev cf a e).bind fun x e => lift (builtin b x) e) = _
  rw [h1, bind_ok, h2, lift_some]
theorem ev_ite {cf : CF} {c a b : E} {e e' : Env} {k : Bool} (h : ev cf c e = .ok (.bl k) e') : ev cf (.ite c a b) e = if k = true then ev cf a e' else ev cf b e' := by
  show ((ev cf c e).bind fun x e => (lift (truthy x) e).bind fun k e => if k = true then ev cf a e else ev cf b e) = _
  rw [h]
  rfl
theorem ex_asg {cf : CF} {i : Nat} {a : E} {e e1 : Env} {d : D} (h : ev cf a e = .ok d e1) : ex cf (.asg (.nm i) a) e = .nx (e1.set i (.va d)) := by
  show ((ev cf a e).thn fun d e => match tset (.nm i) d e with | some e' => .nx e' | none => .no) = _
  rw [h]
  rfl
theorem ex_ret {cf : CF} {a : E} {e e1 : Env} {d : D} (h : ev cf a e = .ok d e1) : ex cf (.ret a) e = .rt d e1 := by
  show ((ev cf a e).thn fun d e => .rt d e) = _
  rw [h]
  rfl
theorem ex_ifnot {cf : CF} {X : E} {k : Bool} {e e' : Env} (h : ev cf X e = .ok (.bl k) e') : ex cf (.ite (.not X) (.cons (.ret (.cb false)) .nil) .nil) e = if k = true then .nx e' else .rt (.bl false) e' := by
  show (((ev cf X e).bind fun x e => (lift (truthy x) e).bind fun k e => .ok (.bl (!k)) e).thn fun x e => (lift (truthy x) e).thn fun k e => if k = true then ex cf (.cons (.ret (.cb false)) .nil) e else ex cf .nil e) = _
  rw [h]
  cases k <;> rfl
theorem ex_ifn {cf : CF} {X : E} {e e' : Env} (h : ev cf X e = .ok (.bl true) e') : ex cf (.ite (.not X) (.cons (.ret (.cb false)) .nil) .nil) e = .nx e' := ex_ifnot (k := true) h
theorem add_lst {xs ys : List D} (h : xs.length + ys.length ≤ PySem.sizeLine) : binop .add (.lst xs) (.lst ys) = some (.lst (xs ++ ys)) := if_pos h
theorem add_tup {xs ys : List D} (h : xs.length + ys.length ≤ PySem.sizeLine) : binop .add (.tup xs) (.tup ys) = some (.tup (xs ++ ys)) := if_pos h
theorem mul_lst {xs : List D} {j : Int} (h : -(2 ^ 63) ≤ j ∧ j < 2 ^ 63 ∧ xs.length * j.toNat ≤ PySem.sizeLine) : binop .mul (.lst xs) (.int j) = some (.lst (List.replicate j.toNat xs).flatten) := if_pos h
theorem loop_inv {f : Env → RS} {t : Tg} {P : Nat → Env → Prop} {N : Nat} (step : ∀ (x : D) (e : Env) (j : Nat), j < N → P j e → ∃ e1 e2, tset t x e = some e1 ∧ f e1 = .nx e2 ∧ P (j + 1) e2) : ∀ (ds : List D) (j : Nat) (e : Env), j + ds.length ≤ N → P j e → ∃ e', loopS f t ds e = .nx e' ∧ P (j + ds.length) e'
  | [], j, e, _, h => ⟨e, rfl, h⟩
  | x :: xs, j, e, hl, h => by
    rw [List.length_cons] at hl
    obtain ⟨e1, e2, h1, h2, h3⟩ := step x e j (by omega) h
    obtain ⟨e', q1, q2⟩ := loop_inv step xs (j + 1) e2 (by omega) h3
    refine ⟨e', ?_, ?_⟩
    · rw [loop_nx h1 h2, q1]
    · rw [List.length_cons]
      have e9 : j + 1 + xs.length = j + (xs.length + 1) := by omega
      rw [e9] at q2
      exact q2
theorem mem_range {x : D} : ∀ {n : Nat} {lo : Int}, x ∈ rangeD lo n → ∃ k : Nat, x = .int (lo + k) ∧ k < n
  | 0, lo, h => nomatch h
  | n + 1, lo, h => by
    have h : x ∈ D.int lo :: rangeD (lo + 1) n := h
    rcases List.mem_cons.mp h with rfl | h
    · exact ⟨0, by simp, by omega⟩
    · obtain ⟨k, rfl, hk⟩ := mem_range h
      exact ⟨k + 1, by congr 1; omega, by omega⟩
theorem range_len : ∀ (n : Nat) (lo : Int), (rangeD lo n).length = n
  | 0, _ => rfl
  | n + 1, lo => by
    show (rangeD (lo + 1) n).length + 1 = n + 1
    rw [range_len n]
def isTrue : CR → Bool
  | .ok (.bl true) [] => true
  | _ => false
theorem isTrue_eq {r : CR} (h : isTrue r = true) : r = .ok (.bl true) [] := by
  unfold isTrue at h
  split at h
  · rfl
  · cases h
theorem call_d {defs : List Def} {n i : Nat} {d : Def} {o : Option (List D)} {ds : List D} (hd : defs[i]? = some d) (h : (asl o ds).length = d.np ∧ o.isSome = d.io ∧ d.np ≤ d.ns ∧ d.md = 0) : callF defs (n + 1) i o ds = fin d.io d.fr (ex (callF defs n) d.body (asl o ds ++ List.replicate (d.ns - d.np) .em)) := by
  show (match defs[i]? with | none => _ | some d => _) = _
  rw [hd]
  show (if d.md = 2 then _ else if d.md = 1 then _ else _) = _
  rw [if_neg (by rw [h.2.2.2]; decide), if_neg (by rw [h.2.2.2]; decide)]
  exact if_pos ⟨h.1, h.2.1, h.2.2.1⟩
/-! ### the draws -/
def Box (bs : List D) (c : Int) : Prop := ∃ b0 b1 b2 : Int, bs = [.int b0, .int b1, .int b2] ∧ 0 ≤ b1 ∧ b1 < 2305843009213693951 + 1000000000 ∧ 0 ≤ b2 ∧ b2 ≤ c
theorem Box.mono {bs : List D} {c d : Int} (h : Box bs c) (hd : c ≤ d) : Box bs d := by
  obtain ⟨b0, b1, b2, e, h1, h2, h3, h4⟩ := h
  exact ⟨b0, b1, b2, e, h1, h2, h3, by omega⟩
def bTake : S := (.cons (.ite (.cmp .gt (.ixo 0 (.ci 0)) (.ci 0))
    (.cons (.asg (.nm 2) (.bin .mod (.bi .int (.ixo 0 (.ci 0))) (.v 1)))
    (.cons (.seti 0 (.ci 0) (.bin .fdiv (.ixo 0 (.ci 0)) (.v 1)))
    (.cons (.ret (.v 2)) .nil)))
    .nil)
    (.cons (.seti 0 (.ci 2) (.bin .add (.ixo 0 (.ci 2)) (.ci 1)))
    (.cons (.asg (.nm 3) (.bin .mod (.bi .int (.bin .mul (.bin .add (.ixo 0 (.ci 1)) (.bin .mul (.ci 48271) (.ixo 0 (.ci 2)))) (.bin .add (.ci 39373) (.ixo 0 (.ci 2))))) (.ci 2147483647)))
    (.cons (.asg (.nm 4) (.bin .add (.bin .mod (.bi .int (.v 3)) (.ci 40009)) (.ci 7)))
    (.cons (.asg (.nm 5) (.bin .mod (.bi .int (.bin .mul (.bin .add (.bin .add (.v 3) (.ixo 0 (.ci 2))) (.bin .fdiv (.ixo 0 (.ci 1)) (.ci 1000003))) (.v 4))) (.ci 2147483629)))
    (.cons (.ret (.bin .mod (.bi .int (.bin .fdiv (.bin .mod (.bi .int (.bin .add (.bin .mul (.v 5) (.ci 48271)) (.v 3))) (.ci 2147483587)) (.ci 64))) (.v 1)))
    .nil))))))
def dTake : Def := ⟨2, 6, true, false, bTake, 0⟩
def onceI (b1 b2 : Int) : Int := (b1 + 48271 * b2) * (39373 + b2) % 2147483647
def twiceI (b1 b2 : Int) : Int := (onceI b1 b2 + b2 + b1 / 1000003) * (onceI b1 b2 % 40009 + 7) % 2147483629
theorem take_spec {defs : List Def} {i : Nat} (hd : defs[i]? = some dTake) (n : Nat) {bs : List D} {c w : Int} (hb : Box bs c) (hc : c < 1000000000) (hw : 0 < w) (hw2 : w < 10 ^ 50) : ∃ (r : Int) (bs' : List D), 0 ≤ r ∧ r < w ∧ Box bs' (c + 1) ∧ callF defs (n + 1) i (some bs) [.int w] = .ok (.int r) bs' := by
  obtain ⟨b0, b1, b2, rfl, h1, h2, h3, h4⟩ := hb
  by_cases h0 : 0 < b0
  · refine ⟨b0 % w, [.int (b0 / w), .int b1, .int b2], Int.emod_nonneg _ (by omega), Int.emod_lt_of_pos _ hw, ⟨_, _, _, rfl, h1, h2, h3, by omega⟩, ?_⟩
    rw [call_d hd ⟨rfl, rfl, by decide, rfl⟩]
    have e1 : binop .fdiv (.int b0) (.int w) = some (.int (b0 / w)) := b_div ⟨hw, by omega⟩
    simp (disch := omega) [dTake, asl, bTake, ex, ev, tset, fin, List.replicate, ixN_in, h0, b_mod, e1]
  · refine ⟨(twiceI b1 (b2 + 1) * 48271 + onceI b1 (b2 + 1)) % 2147483587 / 64 % w, [.int b0, .int b1, .int (b2 + 1)], Int.emod_nonneg _ (by omega), Int.emod_lt_of_pos _ hw, ⟨_, _, _, rfl, h1, h2, by omega, by omega⟩, ?_⟩
    rw [call_d hd ⟨rfl, rfl, by decide, rfl⟩]
    simp (disch := omega) [dTake, asl, bTake, ex, ev, tset, fin, List.replicate, ixN_in, h0, b_mod, b_div, b_mul]
    rfl
def bBox (c0 : Int) : S := (.cons (.asg (.nm 2) (.ite (.cmp .lt (.v 1) (.bi .len (.v 0))) (.ix (.v 0) (.v 1)) (.ci 0)))
    (.cons (.ret (.lst (.cons (.bin .mul (.bi .abs (.v 2)) (.bi .int (.cmp .ge (.bi .abs (.v 2)) (.bin .pow (.ci 10) (.ci 18))))) (.cons (.bin .add (.bin .add (.bin .mod (.bi .int (.v 2)) (.ci 2305843009213693951)) (.bin .mul (.ci 39373) (.v 1))) (.ci c0)) (.cons (.ci 0) .nil)))))
    .nil))
def dBox (c0 : Int) : Def := ⟨2, 3, false, true, bBox c0, 0⟩
def box0 (c0 c k : Int) : List D := [.int ((if c < 0 then -c else c) * (if 10 ^ 18 ≤ (if c < 0 then -c else c) then 1 else 0)), .int (c % 2305843009213693951 + 39373 * k + c0), .int 0]
theorem box_spec {defs : List Def} {i : Nat} {c0 : Int} (hd : defs[i]? = some (dBox c0)) (h0 : 0 ≤ c0 ∧ c0 < 1000000) (n : Nat) {cs : List Int} {k : Nat} (hk : k < cs.length) (hk2 : k < 100) : ∃ bs, callF defs (n + 1) i none [.lst (cs.map D.int), .int k] = .ok (.lst bs) [] ∧ Box bs 0 := by
  have t1 : atI (cs.map D.int) (k : Int) = some (.int cs[k]) := by
    rw [atI_in (by rw [List.length_map]; omega), Int.toNat_natCast, List.getElem?_map, List.getElem?_eq_getElem hk]
    rfl
  have t2 : ((k : Int) < ((cs.map D.int).length : Int)) = True := by
    rw [List.length_map]
    exact eq_true (by omega)
  have t3 : binop .pow (.int 10) (.int 18) = some (.int (10 ^ 18)) := by rfl
  refine ⟨box0 c0 cs[k] k, ?_, _, _, _, rfl, ?_, ?_, by omega, by omega⟩
  · rw [call_d hd ⟨rfl, rfl, by show 2 ≤ 3; decide, rfl⟩]
    have h1 : ex (callF defs n) (nthS (bBox c0) 0) [.va (.lst (cs.map D.int)), .va (.int k), .em] = .nx [.va (.lst (cs.map D.int)), .va (.int k), .va (.int cs[k])] := by
      simp only [nthS, bBox, ex, ev, getS_z, getS_s, bind_ok, u_lenl, lift_some, c_lt, t2, decide_true, t_bl, if_true, i_lst, t1, thn_ok, tset]
      rfl
    show fin false true (ex (callF defs n) (bBox c0) [.va (.lst (cs.map D.int)), .va (.int k), .em]) = _
    have h2 : ex (callF defs n) (bBox c0) [.va (.lst (cs.map D.int)), .va (.int k), .em] = ex (callF defs n) (.cons (nthS (bBox c0) 1) .nil) [.va (.lst (cs.map D.int)), .va (.int k), .va (.int cs[k])] := ex_nx h1
    rw [h2]
    generalize cs[k] = c
    have hm : ∀ (a : Int), binop .mul (.int a) (.int (if decide ((10 : Int) ^ 18 ≤ a) = true then 1 else 0)) = some (.int (a * (if (10 : Int) ^ 18 ≤ a then 1 else 0))) := fun a => by
      by_cases h : (10 : Int) ^ 18 ≤ a
      · rw [decide_eq_true h, if_pos rfl, if_pos h]
        exact b_mul (by omega)
      · rw [decide_eq_false h, if_neg (by decide), if_neg h]
        exact b_mul (by omega)
    simp only [nthS, bBox, ex, ev, evs, getS_z, getS_s, bind_ok, u_abs, u_int, lift_some, t3, c_ge, u_intb, hm, b_mod (show (0 : Int) < 2305843009213693951 by decide), b_mul (i := 39373) (j := (k : Int)) (by omega), b_add, thn_ok]
    rfl
  · have := Int.emod_nonneg cs[k] (by decide : (2305843009213693951 : Int) ≠ 0)
    omega
  · have := Int.emod_lt_of_pos cs[k] (by decide : (0 : Int) < 2305843009213693951)
    omega
def bCells : S := (.cons (.asgo 2 (.orf (.bi .list (.sl (.v 0) .absent (.v 1))) (.lst (.cons (.ci 0) .nil))))
    (.cons (.for_ (.tp (.cons (.nm 3) (.cons (.nm 4) .nil))) (.enum (.sl (.v 0) (.v 1) (.ci 63)))
    (.cons (.asg (.nm 5) (.bin .mod (.bi .int (.v 3)) (.v 1)))
    (.cons (.seti 2 (.v 5) (.bin .add (.ixo 2 (.v 5)) (.bin .mul (.v 4) (.bin .add (.v 3) (.ci 2)))))
    .nil)))
    (.cons (.ret (.v 2)) .nil)))
def dCells : Def := ⟨2, 6, false, false, bCells, 0⟩
def BC : S := forB (nthS bCells 1)
theorem bodyC (cf : CF) {M : D} {w : Nat} (hw : 1 ≤ w ∧ w ≤ 10) {cs : List Int} {j : Nat} {x : Int} (hc : cs.length = w) (hj : j < 1000) {s5 : Sl} : ∃ (cs' : List Int) (s5' : Sl), cs'.length = w ∧ ex cf BC [.va M, .va (.int w), .ow (cs.map D.int), .va (.int j), .va (.int x), s5] = .nx [.va M, .va (.int w), .ow (cs'.map D.int), .va (.int j), .va (.int x), s5'] := by
  have hm0 := Int.emod_nonneg (j : Int) (show (w : Int) ≠ 0 by omega)
  have hm1 := Int.emod_lt_of_pos (j : Int) (show (0 : Int) < w by omega)
  have hr : ((j : Int) % w).toNat < cs.length := by omega
  have t1 : atI (cs.map D.int) ((j : Int) % w) = some (.int cs[((j : Int) % w).toNat]) := by
    rw [atI_in (by rw [List.length_map]; omega), List.getElem?_map, List.getElem?_eq_getElem hr]
    rfl
  have t2 : ixN (cs.map D.int).length ((j : Int) % w) = some ((j : Int) % w).toNat := ixN_in (by rw [List.length_map]; omega)
  refine ⟨cs.set ((j : Int) % w).toNat (cs[((j : Int) % w).toNat] + x * ((j : Int) + 2)), .va (.int ((j : Int) % w)), by rw [List.length_set, hc], ?_⟩
  generalize hg : cs[((j : Int) % w).toNat] = g at t1 ⊢
  simp only [BC, forB, nthS, bCells, ex, ev, evs, getS_z, getS_s, bind_ok, u_int, lift_some, b_mod (show (0 : Int) < w by omega), thn_ok, tset, set_z, set_s, isL_ow, if_true, lstS_ow, t1, b_add, b_mul (i := x) (j := (j : Int) + 2) (by omega), isOd_l, isOw_ow, owS_ow, t2, Bool.false_eq_true, if_false]
  rw [List.map_set]
theorem loopC' (cf : CF) {M : D} {w : Nat} (hw : 1 ≤ w ∧ w ≤ 10) : ∀ (xs : List Int) (j : Nat) (cs : List Int) (s3 s4 s5 : Sl), cs.length = w → j + xs.length < 1000 → ∃ (cs' : List Int) (s3' s4' s5' : Sl), cs'.length = w ∧ loopS (fun e => ex cf BC e) (.tp (.cons (.nm 3) (.cons (.nm 4) .nil))) (enumD j (xs.map D.int)) [.va M, .va (.int w), .ow (cs.map D.int), s3, s4, s5] = .nx [.va M, .va (.int w), .ow (cs'.map D.int), s3', s4', s5']
  | [], j, cs, s3, s4, s5, hc, hj => ⟨cs, s3, s4, s5, hc, rfl⟩
  | x :: xs, j, cs, s3, s4, s5, hc, hj => by
    rw [List.length_cons] at hj
    obtain ⟨cs1, s51, h1, q1⟩ := bodyC cf (M := M) hw (cs := cs) (j := j) (x := x) (s5 := s5) hc (by omega)
    obtain ⟨cs2, a, b, c, h2, q2⟩ := loopC' cf (M := M) hw xs (j + 1) cs1 (.va (.int j)) (.va (.int x)) s51 h1 (by omega)
    refine ⟨cs2, a, b, c, h2, ?_⟩
    show loopS _ _ (.tup [.int j, .int x] :: enumD (j + 1) (xs.map D.int)) _ = _
    rw [loop_nx (e1 := [.va M, .va (.int w), .ow (cs.map D.int), .va (.int j), .va (.int x), s5]) rfl q1, q2]
theorem cutLo (xs : List D) (w : Nat) : cutD xs none (some (w : Int)) = xs.take w := by
  unfold cutD HT.sIx
  have e1 : ¬ ((w : Int) < 0) := by omega
  show (xs.drop 0).take ((if (w : Int) < 0 then _ else min (w : Int).toNat xs.length) - 0) = _
  rw [if_neg e1, List.drop_zero, Nat.sub_zero, Int.toNat_natCast]
  by_cases h : xs.length ≤ w
  · rw [Nat.min_eq_right h, List.take_length, List.take_of_length_le h]
  · rw [Nat.min_eq_left (by omega)]
theorem cutHi (xs : List D) (w : Nat) (h : xs.length ≤ 63) : cutD xs (some (w : Int)) (some 63) = xs.drop w := by
  unfold cutD HT.sIx
  have e1 : ¬ ((w : Int) < 0) := by omega
  have e2 : ¬ ((63 : Int) < 0) := by decide
  show (xs.drop (if (w : Int) < 0 then _ else min (w : Int).toNat xs.length)).take ((if (63 : Int) < 0 then _ else min 63 xs.length) - (if (w : Int) < 0 then _ else min (w : Int).toNat xs.length)) = _
  rw [if_neg e1, if_neg e2, Nat.min_eq_right h, Int.toNat_natCast]
  by_cases h3 : xs.length ≤ w
  · rw [Nat.min_eq_right h3, List.drop_length, List.drop_eq_nil_of_le h3]
    exact List.take_nil
  · rw [Nat.min_eq_left (by omega)]
    exact List.take_of_length_le (by rw [List.length_drop]; omega)
theorem cells_spec {defs : List Def} {i : Nat} (hd : defs[i]? = some dCells) (n : Nat) (w : Nat) (hw : 1 ≤ w ∧ w ≤ 10) (ns : List Int) (hl : ns.length ≤ 63) : ∃ cs : List Int, callF defs (n + 1) i none [.scr (ns.map D.int), .int w] = .ok (.lst (cs.map D.int)) [] ∧ 1 ≤ cs.length ∧ cs.length ≤ w := by
  rw [call_d hd ⟨rfl, rfl, by decide, rfl⟩]
  show ∃ cs : List Int, fin false false (ex (callF defs n) bCells [.va (.scr (ns.map D.int)), .va (.int w), .em, .em, .em, .em]) = _ ∧ _
  have h0 : ex (callF defs n) (nthS bCells 0) [.va (.scr (ns.map D.int)), .va (.int w), .em, .em, .em, .em] = .nx [.va (.scr (ns.map D.int)), .va (.int w), .ow ((if ns.take w = [] then [0] else ns.take w).map D.int), .em, .em, .em] := by
    have e1 : slice (.scr (ns.map D.int)) none (some w) = some (.lst ((ns.take w).map D.int)) := by
      show some (D.lst (cutD _ none (some (w : Int)))) = _
      rw [cutLo, List.map_take]
    show ((((((R.ok (D.scr (ns.map D.int)) _).bind fun x e => (R.ok none e).bind fun l e => (R.ok (some (w : Int)) e).bind fun h e => lift (slice x l h) e)).bind fun x e => lift (builtin .list x) e).bind fun x e => (lift (truthy x) e).bind fun k e => if k = true then R.ok x e else ev (callF defs n) (.lst (.cons (.ci 0) .nil)) e).thn fun d e => match d with | .lst xs => .nx (e.set 2 (.ow (.l xs))) | .dic ks xs => .nx (e.set 2 (.ow (.d ks xs))) | _ => .no) = _
    simp only [bind_ok, e1, lift_some]
    show (((lift (truthy (.lst ((ns.take w).map D.int))) _).bind fun k e => if k = true then R.ok (D.lst ((ns.take w).map D.int)) e else _).thn _) = _
    cases hn : ns.take w with
    | nil => rfl
    | cons x xs => rfl
  have h1 : evI (callF defs n) (.enum (.sl (.v 0) (.v 1) (.ci 63))) [.va (.scr (ns.map D.int)), .va (.int w), .ow ((if ns.take w = [] then [0] else ns.take w).map D.int), .em, .em, .em] = .ok (enumD 0 ((ns.drop w).map D.int)) [.va (.scr (ns.map D.int)), .va (.int w), .ow ((if ns.take w = [] then [0] else ns.take w).map D.int), .em, .em, .em] := by
    have e1 : slice (.scr (ns.map D.int)) (some w) (some 63) = some (.lst ((ns.drop w).map D.int)) := by
      show some (D.lst (cutD _ (some (w : Int)) (some 63))) = _
      rw [cutHi _ _ (by rw [List.length_map]; exact hl), List.map_drop]
    show ((lift (slice (.scr (ns.map D.int)) (some w) (some 63)) _).bind fun x e => match x with | .lst xs => R.ok (enumD 0 xs) e | .tup xs => R.ok (enumD 0 xs) e | _ => .no) = _
    rw [e1]
    rfl
  by_cases h3 : ns.length ≤ w
  · have e1 : ns.drop w = [] := List.drop_eq_nil_of_le h3
    rw [e1] at h1
    have h2 : ex (callF defs n) (nthS bCells 1) [.va (.scr (ns.map D.int)), .va (.int w), .ow ((if ns.take w = [] then [0] else ns.take w).map D.int), .em, .em, .em] = .nx [.va (.scr (ns.map D.int)), .va (.int w), .ow ((if ns.take w = [] then [0] else ns.take w).map D.int), .em, .em, .em] := (ex_for h1).trans rfl
    refine ⟨if ns.take w = [] then [0] else ns.take w, ?_, ?_, ?_⟩
    · have go : ex (callF defs n) bCells _ = _ := (ex_nx h0).trans ((ex_nx h2).trans (ex_rt (ss := .nil) (s := .ret (.v 2)) rfl))
      rw [go]
      rfl
    · split
      · decide
      · next z => exact Nat.pos_of_ne_zero fun w => z (List.length_eq_zero_iff.mp w)
    · split
      · exact hw.1
      · rw [List.length_take]; omega
  · have e2 : (if ns.take w = [] then [0] else ns.take w) = ns.take w := by
      rw [if_neg fun z => ?_]
      have := congrArg List.length z
      rw [List.length_take, List.length_nil] at this
      omega
    rw [e2] at h0 h1
    obtain ⟨cs', a, b, c, q1, q2⟩ := loopC' (callF defs n) (M := .scr (ns.map D.int)) hw (ns.drop w) 0 (ns.take w) .em .em .em (by rw [List.length_take]; omega) (by rw [List.length_drop]; omega)
    have h2 : ex (callF defs n) (nthS bCells 1) [.va (.scr (ns.map D.int)), .va (.int w), .ow ((ns.take w).map D.int), .em, .em, .em] = _ := (ex_for h1).trans q2
    refine ⟨cs', ?_, by omega, by omega⟩
    have go : ex (callF defs n) bCells _ = _ := (ex_nx h0).trans ((ex_nx h2).trans (ex_rt (ss := .nil) (s := .ret (.v 2)) rfl))
    rw [go]
    rfl
/-- one of a pool -/
def dOf (it : Nat) : Def := ⟨2, 2, true, false, .cons (.ret (.ix (.v 1) (.callo it 0 (.cons (.bi .len (.v 1)) .nil)))) .nil, 0⟩
theorem of_spec {defs : List Def} {i it : Nat} (hd : defs[i]? = some (dOf it)) (ht : defs[it]? = some dTake) (n : Nat) {bs ps : List D} {c : Int} (hb : Box bs c) (hc : c < 1000000000) (h0 : 0 < ps.length) (h1 : ps.length < 1000000000) : ∃ (d : D) (bs' : List D), d ∈ ps ∧ Box bs' (c + 1) ∧ callF defs (n + 2) i (some bs) [.lst ps] = .ok d bs' := by
  obtain ⟨r, bs', g1, g2, g3, g4⟩ := take_spec ht n hb hc (w := (ps.length : Int)) (by omega) (by omega)
  have hr : r.toNat < ps.length := by omega
  have t1 : atI ps r = some ps[r.toNat] := by
    rw [atI_in (by omega), List.getElem?_eq_getElem hr]
  refine ⟨ps[r.toNat], bs', List.getElem_mem hr, g3, ?_⟩
  rw [call_d hd ⟨rfl, rfl, by show 2 ≤ 2; decide, rfl⟩]
  show fin true false (ex (callF defs (n + 1)) (.cons (.ret (.ix (.v 1) (.callo it 0 (.cons (.bi .len (.v 1)) .nil)))) .nil) [.ow bs, .va (.lst ps)]) = _
  have go : ex (callF defs (n + 1)) (.cons (.ret (.ix (.v 1) (.callo it 0 (.cons (.bi .len (.v 1)) .nil)))) .nil) [.ow bs, .va (.lst ps)] = .rt ps[r.toNat] [.ow bs', .va (.lst ps)] := by
    simp only [ex, ev, evs, getS_z, getS_s, bind_ok, isOw_ow, if_true, u_lenl, lift_some, owS_ow, g4, outC_ok, set_z, i_lst, t1, thn_ok]
  rw [go]
  rfl
/-! ### the whole law, from its parts -/
def bLaw (ih ic ir ib w : Nat) : S := (.cons (.ite (.not (.call ih .nil)) (.cons (.ret (.cb false)) .nil) .nil)
    (.cons (.asg (.nm 1) (.call ic (.cons (.v 0) (.cons (.ci w) .nil))))
    (.cons (.ret (.bi .all (.lc (.callf ir (.call ib (.cons (.v 1) (.cons (.v 2) .nil))) .nil) (.nm 2) (.range1 (.bi .len (.v 1))) .absent [2]))) .nil)))
theorem law_all {ih ic ir ib w : Nat} (cf : CF) (ns : List Int) (hh : cf ih none [] = .ok (.bl true) []) (cs : List Int) (hc : cf ic none [.scr (ns.map D.int), .int w] = .ok (.lst (cs.map D.int)) []) (h1 : cs.length ≤ 10)
    (hr : ∀ k : Nat, k < cs.length → ∃ bs, cf ib none [.lst (cs.map D.int), .int k] = .ok (.lst bs) [] ∧ ∃ o, cf ir (some bs) [] = .ok (.bl true) o) : ex cf (bLaw ih ic ir ib w) [.va (.scr (ns.map D.int)), .em, .em] = .rt (.bl true) [.va (.scr (ns.map D.int)), .va (.lst (cs.map D.int)), .em] := by
  have sz := thousand
  have st0 : ex cf (nthS (bLaw ih ic ir ib w) 0) [.va (.scr (ns.map D.int)), .em, .em] = .nx [.va (.scr (ns.map D.int)), .em, .em] := ex_ifn (ev_call (as := .nil) evs_nil hh)
  have st1 : ex cf (nthS (bLaw ih ic ir ib w) 1) [.va (.scr (ns.map D.int)), .em, .em] = .nx [.va (.scr (ns.map D.int)), .va (.lst (cs.map D.int)), .em] := ex_asg (i := 1) (e1 := [.va (.scr (ns.map D.int)), .em, .em]) (ev_call (f := ic) (as := .cons (.v 0) (.cons (.ci w) .nil)) (e := [.va (.scr (ns.map D.int)), .em, .em]) (e1 := [.va (.scr (ns.map D.int)), .em, .em]) (ds := [.scr (ns.map D.int), .int w]) rfl hc)
  have hv : evI cf (.range1 (.bi .len (.v 1))) [.va (.scr (ns.map D.int)), .va (.lst (cs.map D.int)), .em] = .ok (rangeD 0 cs.length) [.va (.scr (ns.map D.int)), .va (.lst (cs.map D.int)), .em] := by
    have q := range1_of (cf := cf) (a := .bi .len (.v 1)) (e := [.va (.scr (ns.map D.int)), .va (.lst (cs.map D.int)), .em]) (i := ((cs.map D.int).length : Int)) rfl (by rw [List.length_map]; omega)
    rw [List.length_map, Int.toNat_natCast] at q
    exact q
  have q := ev_lc (cf := cf) (el := .callf ir (.call ib (.cons (.v 1) (.cons (.v 2) .nil))) .nil) (t := .nm 2) (own := [2]) (g := fun _ => .bl true) hv rfl rfl (by rw [range_len]; omega) fun x hx => by
    obtain ⟨k, rfl, hk⟩ := mem_range hx
    obtain ⟨bs, z1, o, z2⟩ := hr k hk
    have e0 : (0 : Int) + (k : Int) = k := by omega
    rw [e0]
    refine ⟨[.va (.scr (ns.map D.int)), .va (.lst (cs.map D.int)), .va (.int k)], [.va (.scr (ns.map D.int)), .va (.lst (cs.map D.int)), .va (.int k)], rfl, ?_, rfl⟩
    have a := ev_call (cf := cf) (f := ib) (as := .cons (.v 1) (.cons (.v 2) .nil)) (e := [.va (.scr (ns.map D.int)), .va (.lst (cs.map D.int)), .va (.int k)]) (ds := [.lst (cs.map D.int), .int k]) rfl z1
    show ((ev cf (.call ib (.cons (.v 1) (.cons (.v 2) .nil))) _).bind fun x e => (R.ok ([] : List D) e).bind fun ds e => match x with
      | .lst xs => outC (cf ir (some xs) ds) e fun _ => e
      | _ => .no) = _
    rw [a, bind_ok, bind_ok]
    show outC (cf ir (some bs) []) _ (fun _ => _) = _
    rw [z2, outC_ok]
  refine (ex_nx st0).trans ((ex_nx st1).trans (ex_rt (ex_ret (e1 := [.va (.scr (ns.map D.int)), .va (.lst (cs.map D.int)), .em]) ?_)))
  show ((ev cf _ _).bind fun x e => lift (builtin .all x) e) = _
  rw [q, bind_ok]
  show lift (builtin .all (.lst (List.map (fun z => D.bl ((fun _ => true) z)) _))) _ = _
  rw [all_map]
  have e9 : ((rangeD 0 cs.length).all fun _ => true) = true := List.all_eq_true.mpr fun _ _ => rfl
  rw [e9]
  rfl
end Lib
end
section
namespace Lib
open Ev L2
/-! ### plain data -/
mutual
def pl : D → Bool
  | .lst xs => decide (xs.length ≤ 2000) && pls xs
  | .tup xs => decide (xs.length ≤ 2000) && pls xs
  | .str x => x.cps.toList.all fun c => decide (c < 0x110000)
  | .non => true
  | .bl _ => true
  | .int _ => true
  | _ => false
termination_by structural x => x
def pls : List D → Bool
  | [] => true
  | x :: xs => pl x && pls xs
termination_by structural x => x
end
theorem pls_cons {x : D} {xs : List D} (h : pls (x :: xs) = true) : pl x = true ∧ pls xs = true := by
  have h : (pl x && pls xs) = true := h
  rwa [Bool.and_eq_true] at h
theorem pls_mem {x : D} : ∀ {xs : List D}, pls xs = true → x ∈ xs → pl x = true
  | y :: ys, h, hx => by
    rcases List.mem_cons.mp hx with rfl | hx
    · exact (pls_cons h).1
    · exact pls_mem (pls_cons h).2 hx
theorem pls_of : ∀ {xs : List D}, (∀ x ∈ xs, pl x = true) → pls xs = true
  | [], _ => rfl
  | x :: xs, h => by
    show (pl x && pls xs) = true
    rw [h x List.mem_cons_self, pls_of fun y hy => h y (List.mem_cons_of_mem _ hy)]
    rfl
theorem pl_tup {xs : List D} : pl (.tup xs) = true ↔ xs.length ≤ 2000 ∧ pls xs = true := by
  show (decide (xs.length ≤ 2000) && pls xs) = true ↔ _
  rw [Bool.and_eq_true, decide_eq_true_eq]
theorem pl_lst {xs : List D} : pl (.lst xs) = true ↔ xs.length ≤ 2000 ∧ pls xs = true := pl_tup
theorem pl_seq {xs : List D} (h1 : xs.length ≤ 2000) (h2 : ∀ x ∈ xs, pl x = true) : pl (.tup xs) = true ∧ pl (.lst xs) = true := ⟨pl_tup.mpr ⟨h1, pls_of h2⟩, pl_lst.mpr ⟨h1, pls_of h2⟩⟩
theorem pl_ns {x : D} (h : pl x = true) : noScr x = true := by
  cases x <;> first | rfl | exact nomatch h
theorem dep_mem {x : D} : ∀ {xs : List D}, x ∈ xs → x.dep ≤ D.deps xs
  | y :: ys, h => by
    have e : D.deps (y :: ys) = max y.dep (D.deps ys) := rfl
    rcases List.mem_cons.mp h with rfl | h
    · rw [e]; exact Nat.le_max_left ..
    · rw [e]; exact Nat.le_trans (dep_mem h) (Nat.le_max_right ..)
theorem deps_le {k : Nat} : ∀ {xs : List D}, (∀ x ∈ xs, x.dep ≤ k) → D.deps xs ≤ k
  | [], _ => Nat.zero_le _
  | x :: xs, h => Nat.max_le.mpr ⟨h x List.mem_cons_self, deps_le fun y hy => h y (List.mem_cons_of_mem _ hy)⟩
theorem dep_seq {k : Nat} {xs : List D} (h : ∀ x ∈ xs, x.dep ≤ k) : (D.tup xs).dep ≤ k + 1 ∧ (D.lst xs).dep ≤ k + 1 := ⟨Nat.succ_le_succ (deps_le h), Nat.succ_le_succ (deps_le h)⟩
mutual
theorem pl_lay : ∀ {d : D}, pl d = true → d.lay = true
  | .non, _ => rfl
  | .bl _, _ => rfl
  | .int _, _ => rfl
  | .str x, h => h
  | .lst xs, h => pls_lay (pl_lst.mp h).2
  | .tup xs, h => pls_lay (pl_tup.mp h).2
  | .scr _, h => nomatch h
  | .err _ _ _, h => nomatch h
  | .dic _ _, h => nomatch h
theorem pls_lay : ∀ {xs : List D}, pls xs = true → D.lays xs = true
  | [], _ => rfl
  | x :: xs, h => by
    show (x.lay && D.lays xs) = true
    rw [pl_lay (pls_cons h).1, pls_lay (pls_cons h).2]
    rfl
end
mutual
theorem eqv_refl : ∀ d : D, pl d = true → D.eqv d d = true
  | .non, _ => rfl
  | .bl b, _ => by cases b <;> rfl
  | .int i, _ => beq_self_eq_true i
  | .str x, _ => beq_self_eq_true x
  | .lst xs, h => eqvs_refl xs (pl_lst.mp h).2
  | .tup xs, h => eqvs_refl xs (pl_tup.mp h).2
  | .scr _, h => nomatch h
  | .err _ _ _, h => nomatch h
  | .dic _ _, h => nomatch h
theorem eqvs_refl : ∀ ds : List D, pls ds = true → D.eqvs ds ds = true
  | [], _ => rfl
  | x :: xs, h => by
    show (D.eqv x x && D.eqvs xs xs) = true
    rw [eqv_refl x (pls_cons h).1, eqvs_refl xs (pls_cons h).2]
    rfl
end
/-- == of plain data, alike -/
theorem eqO_true {d e : D} (l1 : d.lay = true) (l2 : e.lay = true) (h : min d.dep e.dep ≤ 64) (hv : D.eqv d e = true) : eqO d e = some true := by
  unfold eqO
  split
  · next i j =>
    have : (i == j) = true := hv
    rw [decide_eq_true (eq_of_beq this)]
  · rw [l1, l2, hv, decide_eq_true h]
    rfl
theorem eq_refl {d : D} (h : pl d = true) (hd : d.dep ≤ 64) : cmpop .eq d d = some true :=
  eqO_true (pl_lay h) (pl_lay h) (by omega) (eqv_refl d h)
/-! ### lists for tuples -/
mutual
def toL : D → D
  | .lst xs => .lst (toLs xs)
  | .tup xs => .lst (toLs xs)
  | x => x
termination_by structural x => x
def toLs : List D → List D
  | [] => []
  | x :: xs => toL x :: toLs xs
termination_by structural x => x
end
theorem toLs_map : ∀ xs : List D, toLs xs = xs.map toL
  | [] => rfl
  | x :: xs => by
    show toL x :: toLs xs = _
    rw [toLs_map xs]
    rfl
def dLists (i : Nat) : Def := ⟨1, 2, false, false, .cons (.ret (.ite (.isis (.v 0) [.list, .tuple]) (.lc (.call i (.cons (.v 1) .nil)) (.nm 1) (.seq (.v 0)) .absent [1]) (.v 0))) .nil, 0⟩
theorem lists_spec {defs : List Def} {i : Nat} (hi : defs[i]? = some (dLists i)) (n : Nat) : ∀ (k : Nat) (d : D), pl d = true → d.dep ≤ k → callF defs (n + k + 1) i none [d] = .ok (toL d) [] ∧ pl (toL d) = true ∧ (toL d).dep = d.dep := by
  have sz := thousand
  have np : (asl none [D.non]).length = (dLists i).np := rfl
  intro k
  induction k with
  | zero =>
    intro d hs hd
    refine ⟨?_, ?_, ?_⟩
    · rw [call_d hi ⟨rfl, rfl, by show 1 ≤ 2; decide, rfl⟩]
      cases d <;> first | rfl | (exact absurd hd (Nat.not_succ_le_zero _)) | exact nomatch hs
    · cases d <;> first | exact hs | (exact absurd hd (Nat.not_succ_le_zero _))
    · cases d <;> first | rfl | (exact absurd hd (Nat.not_succ_le_zero _))
  | succ k ih =>
    intro d hs hd
    have go : ∀ (xs : List D) (d : D), items? d = some xs → xs.length ≤ 2000 → pls xs = true → D.deps xs ≤ k → (isTy .list d || isTy .tuple d) = true → noScr d = true → callF defs (n + (k + 1) + 1) i none [d] = .ok (.lst (toLs xs)) [] ∧ pl (.lst (toLs xs)) = true ∧ D.deps (toLs xs) = D.deps xs := by
      intro xs d hi' h1 h2 h3 h4 h5
      have hdd : D.deps (toLs xs) = D.deps xs := by
        have : ∀ ys : List D, (∀ y ∈ ys, (toL y).dep = y.dep) → D.deps (toLs ys) = D.deps ys := by
          intro ys
          induction ys with
          | nil => intro _; rfl
          | cons y ys ih2 =>
            intro h
            show max (toL y).dep (D.deps (toLs ys)) = max y.dep (D.deps ys)
            rw [h y List.mem_cons_self, ih2 fun z hz => h z (List.mem_cons_of_mem _ hz)]
        exact this xs fun y hy => (ih y (pls_mem h2 hy) (Nat.le_trans (dep_mem hy) h3)).2.2
      refine ⟨?_, ?_, hdd⟩
      · rw [toLs_map, call_d hi ⟨rfl, rfl, by show 1 ≤ 2; decide, rfl⟩]
        show fin false false (ex (callF defs (n + k + 1)) (dLists i).body [.va d, .em]) = _
        have q := ev_lc (cf := callF defs (n + k + 1)) (el := .call i (.cons (.v 1) .nil)) (t := .nm 1) (it := .seq (.v 0)) (own := [1]) (e := [.va d, .em]) (ds := xs) (g := toL) (by
          show (lift (items? d) _) = _
          rw [hi']
          rfl) rfl rfl (by omega) fun y hy => ⟨[.va d, .va y], [.va d, .va y], rfl, by simp [ev, evs, (ih y (pls_mem h2 hy) (Nat.le_trans (dep_mem hy) h3)).1], rfl⟩
        have e1 : ev (callF defs (n + k + 1)) (.isis (.v 0) [.list, .tuple]) [.va d, .em] = .ok (.bl true) [.va d, .em] := by
          show (if noScr d = true then R.ok (D.bl (isTy .list d || (isTy .tuple d || false))) _ else .no) = _
          rw [if_pos h5, Bool.or_false, h4]
        have e2 : ex (callF defs (n + k + 1)) (dLists i).body [.va d, .em] = .rt (.lst (xs.map toL)) [.va d, .em] := by
          refine ex_rt (ex_ret ?_)
          rw [ev_ite e1, if_pos rfl]
          exact q
        rw [e2]
        rfl
      · rw [toLs_map]
        refine (pl_seq (by rw [List.length_map]; exact h1) fun x hx => ?_).2
        obtain ⟨y, hy, rfl⟩ := List.mem_map.mp hx
        exact (ih y (pls_mem h2 hy) (Nat.le_trans (dep_mem hy) h3)).2.1
    cases d with
    | lst xs =>
      have hs' := pl_lst.mp hs
      obtain ⟨g1, g2, g3⟩ := go xs (.lst xs) rfl hs'.1 hs'.2 (Nat.le_of_succ_le_succ hd) rfl rfl
      exact ⟨g1, g2, congrArg (· + 1) g3⟩
    | tup xs =>
      have hs' := pl_tup.mp hs
      obtain ⟨g1, g2, g3⟩ := go xs (.tup xs) rfl hs'.1 hs'.2 (Nat.le_of_succ_le_succ hd) rfl rfl
      exact ⟨g1, g2, congrArg (· + 1) g3⟩
    | scr _ => exact nomatch hs
    | err _ _ _ => exact nomatch hs
    | dic _ _ => exact nomatch hs
    | _ =>
      refine ⟨?_, hs, rfl⟩
      rw [call_d hi ⟨rfl, rfl, by show 1 ≤ 2; decide, rfl⟩]
      rfl
/-! ### the same answers -/
def bSame (i : Nat) : S := (.cons (.ite (.isis (.v 1) [.list, .tuple])
    (.cons (.ite (.bor (.cons (.cmp .ne (.isi (.v 0) .list) (.isi (.v 1) .list)) (.cons (.cmp .ne (.isi (.v 0) .tuple) (.isi (.v 1) .tuple)) .nil)))
    (.cons (.ret (.cb false)) .nil)
    .nil)
    (.cons (.ret (.band (.cons (.cmp .eq (.bi .len (.v 0)) (.bi .len (.v 1))) (.cons (.bi .all (.lc (.call i (.cons (.v 2) (.cons (.v 3) .nil))) (.tp (.cons (.nm 2) (.cons (.nm 3) .nil))) (.zip (.v 0) (.v 1)) .absent [2, 3])) .nil)))) .nil))
    .nil)
    (.cons (.ite (.bor (.cons (.cmp .isn (.v 1) .cn) (.cons (.isis (.v 1) [.bool, .str]) .nil)))
    (.cons (.ret (.band (.cons (.cmp .eq (.v 0) (.v 1)) (.cons (.cmp .eq (.isi (.v 0) .bool) (.isi (.v 1) .bool)) (.cons (.cmp .eq (.cmp .isn (.v 0) .cn) (.cmp .isn (.v 1) .cn)) .nil))))) .nil)
    .nil)
    (.cons (.ret (.band (.cons (.isi (.v 0) .int) (.cons (.not (.isi (.v 0) .bool)) (.cons (.cmp .eq (.v 0) (.v 1)) .nil))))) .nil)))
def dSame (i : Nat) : Def := ⟨2, 4, false, false, bSame i, 0⟩
theorem same_int (cf : CF) (i : Nat) (j : Int) : fin false false (ex cf (bSame i) [.va (.int j), .va (.int j), .em, .em]) = .ok (.bl true) [] := by
  have c1 : cmpop .isn (.int j) .non = some false := rfl
  have c2 : cmpop .eq (.int j) (.int j) = some true := by rw [c_eq, decide_eq_true rfl]
  simp [bSame, ex, ev, evs, evB, isNil, isTy, noScr, fin, c1, c2]
theorem same_str (cf : CF) (i : Nat) {x : PySem.Str} (c : cmpop .eq (.str x) (.str x) = some true) : fin false false (ex cf (bSame i) [.va (.str x), .va (.str x), .em, .em]) = .ok (.bl true) [] := by
  have c1 : cmpop .isn (.str x) .non = some false := rfl
  have c2 : cmpop .eq (.bl false) (.bl false) = some true := rfl
  simp [bSame, ex, ev, evs, evB, isNil, isTy, noScr, fin, c1, c2, c]
theorem zip_self : ∀ xs : List D, zipD xs xs = xs.map fun x => D.tup [x, x]
  | [] => rfl
  | x :: xs => by
    show D.tup [x, x] :: zipD xs xs = _
    rw [zip_self xs]
    rfl
theorem same_refl {defs : List Def} {i : Nat} (hi : defs[i]? = some (dSame i)) (n : Nat) : ∀ (k : Nat) (d : D), pl d = true → d.dep ≤ k → k ≤ 60 → callF defs (n + k + 1) i none [d, d] = .ok (.bl true) [] := by
  have sz := thousand
  intro k
  induction k with
  | zero =>
    intro d hs hd _
    rw [call_d hi ⟨rfl, rfl, by show 2 ≤ 4; decide, rfl⟩]
    have e := eq_refl hs (by omega)
    cases d with
    | bl b => cases b <;> rfl
    | int j =>
      exact same_int (callF defs (n + 0)) i j
    | non => rfl
    | str x =>
      exact same_str (callF defs (n + 0)) i e
    | lst xs => exact absurd hd (Nat.not_succ_le_zero _)
    | tup xs => exact absurd hd (Nat.not_succ_le_zero _)
    | _ => exact nomatch hs
  | succ k ih =>
    intro d hs hd hk
    have go : ∀ (xs : List D) (d : D), evI (callF defs (n + k + 1)) (.zip (.v 0) (.v 1)) [.va d, .va d, .em, .em] = .ok (zipD xs xs) [.va d, .va d, .em, .em] → builtin .len d = some (.int xs.length) → xs.length ≤ 2000 → pls xs = true → D.deps xs ≤ k → (isTy .list d || isTy .tuple d) = true → noScr d = true → callF defs (n + (k + 1) + 1) i none [d, d] = .ok (.bl true) [] := by
      intro xs d hz hlen h1 h2 h3 h4 h5
      rw [call_d hi ⟨rfl, rfl, by show 2 ≤ 4; decide, rfl⟩]
      show fin false false (ex (callF defs (n + k + 1)) (bSame i) [.va d, .va d, .em, .em]) = _
      have q := ev_lc (cf := callF defs (n + k + 1)) (el := .call i (.cons (.v 2) (.cons (.v 3) .nil))) (t := .tp (.cons (.nm 2) (.cons (.nm 3) .nil))) (it := .zip (.v 0) (.v 1)) (own := [2, 3]) (e := [.va d, .va d, .em, .em]) (ds := xs.map fun x => D.tup [x, x]) (g := fun _ => .bl true) (by
        rw [hz, zip_self]) rfl rfl (by rw [List.length_map]; omega) fun y hy => by
          obtain ⟨b, hb, rfl⟩ := List.mem_map.mp hy
          refine ⟨[.va d, .va d, .va b, .va b], [.va d, .va d, .va b, .va b], rfl, ?_, rfl⟩
          simp [ev, evs, ih b (pls_mem h2 hb) (Nat.le_trans (dep_mem hb) h3) (by omega)]
      have e1 : ev (callF defs (n + k + 1)) (.isis (.v 1) [.list, .tuple]) [.va d, .va d, .em, .em] = .ok (.bl true) [.va d, .va d, .em, .em] := by
        show (if noScr d = true then R.ok (D.bl (isTy .list d || (isTy .tuple d || false))) _ else .no) = _
        rw [if_pos h5, Bool.or_false, h4]
      have e2 : ev (callF defs (n + k + 1)) (.bor (.cons (.cmp .ne (.isi (.v 0) .list) (.isi (.v 1) .list)) (.cons (.cmp .ne (.isi (.v 0) .tuple) (.isi (.v 1) .tuple)) .nil))) [.va d, .va d, .em, .em] = .ok (.bl false) [.va d, .va d, .em, .em] := by
        have c : ∀ b : Bool, cmpop .ne (.bl b) (.bl b) = some false := fun b => by cases b <;> rfl
        simp [ev, evB, isNil, h5, c]
      have e3 : ev (callF defs (n + k + 1)) (.band (.cons (.cmp .eq (.bi .len (.v 0)) (.bi .len (.v 1))) (.cons (.bi .all (.lc (.call i (.cons (.v 2) (.cons (.v 3) .nil))) (.tp (.cons (.nm 2) (.cons (.nm 3) .nil))) (.zip (.v 0) (.v 1)) .absent [2, 3])) .nil))) [.va d, .va d, .em, .em] = .ok (.bl true) [.va d, .va d, .em, .em] := by
        have r1 : ev (callF defs (n + k + 1)) (.cmp .eq (.bi .len (.v 0)) (.bi .len (.v 1))) [.va d, .va d, .em, .em] = .ok (.bl true) [.va d, .va d, .em, .em] := ev_cmp (ev_bi rfl hlen) (ev_bi rfl hlen) (by rw [c_eq, decide_eq_true rfl])
        have r2 : ev (callF defs (n + k + 1)) (.bi .all (.lc (.call i (.cons (.v 2) (.cons (.v 3) .nil))) (.tp (.cons (.nm 2) (.cons (.nm 3) .nil))) (.zip (.v 0) (.v 1)) .absent [2, 3])) [.va d, .va d, .em, .em] = .ok (.bl true) [.va d, .va d, .em, .em] := by
          refine ev_bi q ?_
          have am := all_map (fun _ : D => true) (xs.map fun x => D.tup [x, x])
          rw [am]
          have e9 : ((xs.map fun b => D.tup [b, b]).all fun _ => true) = true := List.all_eq_true.mpr fun _ _ => rfl
          rw [e9]
        show ((ev _ (.cmp .eq (.bi .len (.v 0)) (.bi .len (.v 1))) _).bind fun x e => (lift (truthy x) e).bind fun b e => if b = true then ((ev _ (.bi .all _) e).bind fun x e => .ok x e) else .ok x e) = _
        rw [r1, bind_ok, t_bl, lift_some, bind_ok, if_pos rfl, r2, bind_ok]
      have go : ex (callF defs (n + k + 1)) (bSame i) [.va d, .va d, .em, .em] = .rt (.bl true) [.va d, .va d, .em, .em] := by
        refine ex_rt ((ex_ite e1).trans ?_)
        rw [if_pos rfl]
        refine (ex_nx ((ex_ite e2).trans ?_)).trans (ex_rt (ex_ret e3))
        rw [if_neg (by decide)]
        rfl
      rw [go]
      rfl
    cases d with
    | lst xs =>
      have hs' := pl_lst.mp hs
      exact go xs (.lst xs) rfl rfl hs'.1 hs'.2 (Nat.le_of_succ_le_succ hd) rfl rfl
    | tup xs =>
      have hs' := pl_tup.mp hs
      exact go xs (.tup xs) rfl rfl hs'.1 hs'.2 (Nat.le_of_succ_le_succ hd) rfl rfl
    | scr _ => exact nomatch hs
    | err _ _ _ => exact nomatch hs
    | dic _ _ => exact nomatch hs
    | bl b =>
      rw [call_d hi ⟨rfl, rfl, by show 2 ≤ 4; decide, rfl⟩]
      cases b <;> rfl
    | int j =>
      rw [call_d hi ⟨rfl, rfl, by show 2 ≤ 4; decide, rfl⟩]
      exact same_int (callF defs (n + (k + 1))) i j
    | non =>
      rw [call_d hi ⟨rfl, rfl, by show 2 ≤ 4; decide, rfl⟩]
      rfl
    | str x =>
      have e := eq_refl hs (by show 0 ≤ 64; decide)
      rw [call_d hi ⟨rfl, rfl, by show 2 ≤ 4; decide, rfl⟩]
      exact same_str (callF defs (n + (k + 1))) i e
end Lib
end
section
namespace Lib
open Ev L2
/-! ### a lot by draws -/
def spansL (s : Nat) : List (Int × Int) := (List.range s).flatMap fun (a : Nat) => (List.range' a (s - a)).map fun (b : Nat) => ((a : Int), (b : Int))
def encS (p : Int × Int) : D := .tup [.int p.1, .int p.2]
def encE (p : (Int × Int) × Int) : D := .tup [encS p.1, .int p.2]
def lotD (s : Nat) (L : List ((Int × Int) × Int)) : D := .tup [.int s, .tup (L.map encE)]
def bSpans : S := (.cons (.asg (.nm 1) (.lst .nil))
    (.cons (.for_ (.nm 2) (.range1 (.v 0))
    (.cons (.asg (.nm 1) (.bin .add (.v 1) (.lc (.tup (.cons (.v 2) (.cons (.v 3) .nil))) (.nm 3) (.range2 (.v 2) (.v 0)) .absent [3])))
    .nil))
    (.cons (.ret (.v 1))
    .nil)))
def dSpans : Def := ⟨1, 4, false, false, bSpans, 0⟩
theorem spans {defs : List Def} {i : Nat} (hd : defs[i]? = some dSpans) (n s : Nat) (h1 : 1 ≤ s) (h2 : s ≤ 8) : callF defs (n + 1) i none [.int s] = .ok (.lst ((spansL s).map encS)) [] := by
  rw [call_d hd ⟨rfl, rfl, by decide, rfl⟩]
  match s, h1, h2 with
  | 1, _, _ => rfl
  | 2, _, _ => rfl
  | 3, _, _ => rfl
  | 4, _, _ => rfl
  | 5, _, _ => rfl
  | 6, _, _ => rfl
  | 7, _, _ => rfl
  | 8, _, _ => rfl
theorem spans_ok (s : Nat) (h1 : 1 ≤ s) (h2 : s ≤ 8) : (∀ p ∈ spansL s, 0 ≤ p.1 ∧ p.1 ≤ p.2 ∧ p.2 < (s : Int)) ∧ (spansL s).length ≤ 36 := by
  match s, h1, h2 with
  | 1, _, _ => decide +kernel
  | 2, _, _ => decide +kernel
  | 3, _, _ => decide +kernel
  | 4, _, _ => decide +kernel
  | 5, _, _ => decide +kernel
  | 6, _, _ => decide +kernel
  | 7, _, _ => decide +kernel
  | 8, _, _ => decide +kernel
def bLot (it is : Nat) : S := (.cons (.par 3 4 false true (.callo it 0 (.cons (.ci 4) .nil)) (.lst .nil))
    (.cons (.for_ (.nm 5) (.seq (.call is (.cons (.v 1) .nil)))
    (.cons (.asg (.nm 6) (.ite (.bor (.cons (.cmp .lt (.v 3) (.ci 1)) (.cons (.cmp .eq (.callo it 0 (.cons (.bin .add (.ci 1) (.v 3)) .nil)) (.ci 0)) .nil))) (.callo it 0 (.cons (.bin .add (.v 2) (.ci 1)) .nil)) (.ci 0)))
    (.cons (.ite (.cmp .gt (.v 6) (.ci 0))
    (.cons (.app 4 (.tup (.cons (.v 5) (.cons (.v 6) .nil))))
    .nil)
    .nil)
    .nil)))
    (.cons (.ret (.tup (.cons (.v 1) (.cons (.bi .tuple (.v 4)) .nil))))
    .nil)))
def dLot (it is : Nat) : Def := ⟨3, 7, true, false, bLot it is, 0⟩
def BL (it is : Nat) : S := forB (nthS (bLot it is) 1)
/-- how many, by draws -/
theorem manyL {defs : List Def} {it is : Nat} (ht : defs[it]? = some dTake) (n : Nat) {bs : List D} {c srt top : Int} {x1 s4 s5 s6 : Sl} (hb : Box bs c) (hc : c < 100000000) (h0 : 0 ≤ srt) (h4 : srt < 4) (htop : 0 ≤ top ∧ top < 10 ^ 49) : ∃ (r : Int) (bs' : List D), (0 ≤ r ∧ r < 10 ^ 50) ∧ Box bs' (c + 2) ∧
    ex (callF defs (n + 1)) (nthS (BL it is) 0) [.ow bs, x1, .va (.int top), .va (.int srt), s4, s5, s6] = .nx [.ow bs', x1, .va (.int top), .va (.int srt), s4, s5, .va (.int r)] := by
  by_cases h1 : srt < 1
  · obtain ⟨r, bs', g1, g2, g3, g4⟩ := take_spec ht n hb (by omega) (w := top + 1) (by omega) (by omega)
    refine ⟨r, bs', ⟨g1, by omega⟩, g3.mono (by omega), ?_⟩
    simp [nthS, BL, forB, bLot, ex, ev, evs, evB, isNil, tset, h1, g4]
  · obtain ⟨r, bs', g1, g2, g3, g4⟩ := take_spec ht n hb (by omega) (w := 1 + srt) (by omega) (by omega)
    by_cases h2 : r = 0
    · obtain ⟨r', bs2, k1, k2, k3, k4⟩ := take_spec ht n g3 (by omega) (w := top + 1) (by omega) (by omega)
      refine ⟨r', bs2, ⟨k1, by omega⟩, k3.mono (by omega), ?_⟩
      simp [nthS, BL, forB, bLot, ex, ev, evs, evB, isNil, tset, h1, g4, h2, k4]
    · refine ⟨0, bs', ⟨by omega, by decide⟩, g3.mono (by omega), ?_⟩
      simp [nthS, BL, forB, bLot, ex, ev, evs, evB, isNil, tset, h1, g4, h2]
theorem loopL {defs : List Def} {it is : Nat} (ht : defs[it]? = some dTake) (n : Nat) {srt top : Int} {x1 : Sl} (h0 : 0 ≤ srt) (h4 : srt < 4) (htop : 0 ≤ top ∧ top < 10 ^ 49) : ∀ (ps : List (Int × Int)) (L0 : List ((Int × Int) × Int)) (bs : List D) (c : Int) (s5 s6 : Sl), Box bs c → c + 2 * ps.length < 100000000 → L0.length + ps.length ≤ 1000 → ∃ (L : List ((Int × Int) × Int)) (bs' : List D) (t5 t6 : Sl), Box bs' (c + 2 * ps.length) ∧ (L.map (·.1)).Sublist ps ∧ (∀ p ∈ L, 1 ≤ p.2 ∧ p.2 < 10 ^ 50) ∧
    loopS (fun e => ex (callF defs (n + 1)) (BL it is) e) (.nm 5) (ps.map encS) [.ow bs, x1, .va (.int top), .va (.int srt), .ow (L0.map encE), s5, s6] = .nx [.ow bs', x1, .va (.int top), .va (.int srt), .ow ((L0 ++ L).map encE), t5, t6]
  | [], L0, bs, c, s5, s6, hb, hc, hl => ⟨[], bs, s5, s6, hb.mono (by simp), .slnil, (fun _ h => nomatch h), by rw [List.append_nil]; rfl⟩
  | p :: ps, L0, bs, c, s5, s6, hb, hc, hl => by
    have sz := thousand
    rw [List.length_cons] at hc hl
    obtain ⟨r, bs1, ⟨g1, gu⟩, g2, g3⟩ := manyL (is := is) ht n (x1 := x1) (s4 := .ow (L0.map encE)) (s5 := .va (encS p)) (s6 := s6) hb (by omega) h0 h4 htop
    by_cases hr : 0 < r
    · obtain ⟨L, bs', t5, t6, k1, k2, k3, k4⟩ := loopL (is := is) ht n h0 h4 htop ps (L0 ++ [(p, r)]) bs1 (c + 2) (.va (encS p)) (.va (.int r)) g2 (by omega) (by rw [List.length_append, List.length_singleton]; omega)
      refine ⟨(p, r) :: L, bs', t5, t6, k1.mono (by rw [List.length_cons]; omega), k2.cons_cons p, fun q hq => ?_, ?_⟩
      · rcases List.mem_cons.mp hq with rfl | hq
        · exact ⟨(by omega : 1 ≤ r), gu⟩
        · exact k3 q hq
      · have body : ex (callF defs (n + 1)) (BL it is) [.ow bs, x1, .va (.int top), .va (.int srt), .ow (L0.map encE), .va (encS p), s6] = .nx [.ow bs1, x1, .va (.int top), .va (.int srt), .ow ((L0 ++ [(p, r)]).map encE), .va (encS p), .va (.int r)] := by
          have h2 : ex (callF defs (n + 1)) (.cons (nthS (BL it is) 1) .nil) [.ow bs1, x1, .va (.int top), .va (.int srt), .ow (L0.map encE), .va (encS p), .va (.int r)] = .nx [.ow bs1, x1, .va (.int top), .va (.int srt), .ow ((L0 ++ [(p, r)]).map encE), .va (encS p), .va (.int r)] := by
            have e1 : (L0.map encE).length < PySem.sizeLine := by rw [List.length_map]; omega
            have e2 : 2 ≤ PySem.sizeLine := by omega
            rw [List.map_append]
            simp [nthS, BL, forB, bLot, ex, ev, evs, hr, e2]
            have e3 : L0.length < PySem.sizeLine := by omega
            simp [e3, encE]
          exact (ex_nx g3).trans h2
        show loopS _ _ (encS p :: ps.map encS) _ = _
        rw [loop_nx (e1 := [.ow bs, x1, .va (.int top), .va (.int srt), .ow (L0.map encE), .va (encS p), s6]) rfl body, k4, List.append_assoc]
        rfl
    · obtain ⟨L, bs', t5, t6, k1, k2, k3, k4⟩ := loopL (is := is) ht n h0 h4 htop ps L0 bs1 (c + 2) (.va (encS p)) (.va (.int r)) g2 (by omega) (by omega)
      refine ⟨L, bs', t5, t6, k1.mono (by rw [List.length_cons]; omega), k2.cons p, k3, ?_⟩
      have body : ex (callF defs (n + 1)) (BL it is) [.ow bs, x1, .va (.int top), .va (.int srt), .ow (L0.map encE), .va (encS p), s6] = .nx [.ow bs1, x1, .va (.int top), .va (.int srt), .ow (L0.map encE), .va (encS p), .va (.int r)] := by
        have h2 : ex (callF defs (n + 1)) (.cons (nthS (BL it is) 1) .nil) [.ow bs1, x1, .va (.int top), .va (.int srt), .ow (L0.map encE), .va (encS p), .va (.int r)] = .nx [.ow bs1, x1, .va (.int top), .va (.int srt), .ow (L0.map encE), .va (encS p), .va (.int r)] := by
          simp [nthS, BL, forB, bLot, ex, ev, evs, hr]
        exact (ex_nx g3).trans h2
      show loopS _ _ (encS p :: ps.map encS) _ = _
      rw [loop_nx (e1 := [.ow bs, x1, .va (.int top), .va (.int srt), .ow (L0.map encE), .va (encS p), s6]) rfl body, k4]
theorem seq_call {cf : CF} {i k : Nat} {X : List D} {e : Env} {d : D} {o : List D} (he : getS e k = .va d) (h : cf i none [d] = .ok (.lst X) o) : evI cf (.seq (.call i (.cons (.v k) .nil))) e = .ok X e := by
  have e1 : ev cf (.call i (.cons (.v k) .nil)) e = outC (cf i none [d]) e fun _ => e := by
    simp only [ev, evs, he, bind_ok]
  show ((ev cf (.call i (.cons (.v k) .nil)) e).bind fun x e => lift (items? x) e) = _
  rw [e1, h]
  rfl
theorem lot_specU {defs : List Def} {i it is : Nat} (hd : defs[i]? = some (dLot it is)) (ht : defs[it]? = some dTake) (hs : defs[is]? = some dSpans) (n s : Nat) (h1 : 1 ≤ s) (h2 : s ≤ 8) {top : Int} (htop : 0 ≤ top ∧ top < 10 ^ 49) {bs : List D} {c : Int} (hb : Box bs c) (hc : c < 10000000) : ∃ (L : List ((Int × Int) × Int)) (bs' : List D), Box bs' (c + 100) ∧ (L.map (·.1)).Sublist (spansL s) ∧ (∀ p ∈ L, 1 ≤ p.2 ∧ p.2 < 10 ^ 50) ∧ callF defs (n + 2) i (some bs) [.int s, .int top] = .ok (lotD s L) bs' := by
  have sz := thousand
  obtain ⟨q1, q3⟩ := spans_ok s h1 h2
  obtain ⟨r, bs1, g1, g2, g3, g4⟩ := take_spec ht n hb (by omega) (w := 4) (by decide) (by decide)
  obtain ⟨L, bs', t5, t6, k1, k2, k3, k4⟩ := loopL (is := is) ht n (x1 := .va (.int s)) g1 g2 htop (spansL s) [] bs1 (c + 1) .em .em g3 (by omega) (by simp; omega)
  refine ⟨L, bs', k1.mono (by omega), k2, k3, ?_⟩
  have e2 : (L.map encE).length ≤ PySem.sizeLine := by
    have := k2.length_le
    rw [List.length_map] at this ⊢
    omega
  rw [call_d hd ⟨rfl, rfl, by show 3 ≤ 7; decide, rfl⟩]
  show fin true false (ex (callF defs (n + 1)) (bLot it is) [.ow bs, .va (.int s), .va (.int top), .em, .em, .em, .em]) = _
  have st0 : ex (callF defs (n + 1)) (nthS (bLot it is) 0) [.ow bs, .va (.int s), .va (.int top), .em, .em, .em, .em] = .nx [.ow bs1, .va (.int s), .va (.int top), .va (.int r), .ow (.l []), .em, .em] := by
    simp [nthS, bLot, ex, ev, evs, g4, slot]
  have st1 : ex (callF defs (n + 1)) (nthS (bLot it is) 1) [.ow bs1, .va (.int s), .va (.int top), .va (.int r), .ow (.l []), .em, .em] = .nx [.ow bs', .va (.int s), .va (.int top), .va (.int r), .ow (L.map encE), t5, t6] := (ex_for (seq_call rfl (spans hs n s h1 h2))).trans k4
  have go : ex (callF defs (n + 1)) (bLot it is) [.ow bs, .va (.int s), .va (.int top), .em, .em, .em, .em] = .rt (lotD s L) [.ow bs', .va (.int s), .va (.int top), .va (.int r), .va (.lst (L.map encE)), t5, t6] := by
    refine (ex_nx st0).trans ((ex_nx st1).trans (ex_rt ?_))
    have e3 : 2 ≤ PySem.sizeLine := by omega
    show (((R.ok [D.int s, .tup (L.map encE)] _).bind fun xs e => if xs.length ≤ PySem.sizeLine then R.ok (.tup xs) e else .no).thn fun d e => .rt d e) = _
    rw [bind_ok, if_pos (show [D.int (s : Int), D.tup (L.map encE)].length ≤ PySem.sizeLine from e3)]
    rfl
  rw [go]
  rfl
theorem lot_spec {defs : List Def} {i it is : Nat} (hd : defs[i]? = some (dLot it is)) (ht : defs[it]? = some dTake) (hs : defs[is]? = some dSpans) (n s : Nat) (h1 : 1 ≤ s) (h2 : s ≤ 8) {top : Int} (htop : 0 ≤ top ∧ top < 10 ^ 49) {bs : List D} {c : Int} (hb : Box bs c) (hc : c < 10000000) : ∃ (L : List ((Int × Int) × Int)) (bs' : List D), Box bs' (c + 100) ∧ (L.map (·.1)).Sublist (spansL s) ∧ (∀ p ∈ L, 1 ≤ p.2) ∧ callF defs (n + 2) i (some bs) [.int s, .int top] = .ok (lotD s L) bs' := by
  obtain ⟨L, bs', a, b, c, d⟩ := lot_specU hd ht hs n s h1 h2 htop hb hc
  exact ⟨L, bs', a, b, fun p hp => (c p hp).1, d⟩
/-! ### a lot of much work -/
def pool : E := (.lst (.cons (.ci 1) (.cons (.ci 2) (.cons (.ci 10) (.cons (.bin .pow (.ci 10) (.ci 6)) (.cons (.bin .pow (.ci 10) (.ci 38)) .nil))))))
def bGreat (it io is : Nat) : S := (.cons (.asgo 2 (.lst .nil))
    (.cons (.for_ (.nm 3) (.seq (.call is (.cons (.v 1) .nil)))
    (.cons (.asg (.nm 4) (.callo it 0 (.cons (.callo io 0 (.cons pool .nil)) .nil)))
    (.cons (.ite (.cmp .gt (.v 4) (.ci 0))
    (.cons (.app 2 (.tup (.cons (.v 3) (.cons (.v 4) .nil))))
    .nil)
    .nil)
    .nil)))
    (.cons (.ret (.tup (.cons (.v 1) (.cons (.bi .tuple (.v 2)) .nil))))
    .nil)))
def dGreat (it io is : Nat) : Def := ⟨2, 5, true, false, bGreat it io is, 0⟩
def BG (it io is : Nat) : S := forB (nthS (bGreat it io is) 1)
theorem manyG {defs : List Def} {it io is : Nat} (ht : defs[it]? = some dTake) (ho : defs[io]? = some (dOf it)) (n : Nat) {bs : List D} {c : Int} {x1 s2 s3 s4 : Sl} (hb : Box bs c) (hc : c < 100000000) : ∃ (r : Int) (bs' : List D), (0 ≤ r ∧ r < 10 ^ 50) ∧ Box bs' (c + 2) ∧
    ex (callF defs (n + 2)) (nthS (BG it io is) 0) [.ow bs, x1, s2, s3, s4] = .nx [.ow bs', x1, s2, s3, .va (.int r)] := by
  obtain ⟨d, bs1, g1, g2, g3⟩ := of_spec ho ht n hb (by omega) (ps := [.int 1, .int 2, .int 10, .int (10 ^ 6), .int (10 ^ 38)]) (by decide) (by decide)
  have : ∃ w : Int, d = .int w ∧ 0 < w ∧ w < 10 ^ 50 := by
    simp only [List.mem_cons, List.not_mem_nil, or_false] at g1
    rcases g1 with rfl | rfl | rfl | rfl | rfl
    · exact ⟨_, rfl, by decide, by decide⟩
    · exact ⟨_, rfl, by decide, by decide⟩
    · exact ⟨_, rfl, by decide, by decide⟩
    · exact ⟨_, rfl, by decide, by decide⟩
    · exact ⟨_, rfl, by decide, by decide⟩
  obtain ⟨w, rfl, w1, w2⟩ := this
  obtain ⟨r, bs', k1, k2, k3, k4⟩ := take_spec ht (n + 1) g2 (by omega) w1 w2
  refine ⟨r, bs', ⟨k1, Int.lt_trans k2 w2⟩, k3.mono (by omega), ?_⟩
  have p : ∀ (cf : CF) (e : Env), ev cf pool e = .ok (.lst [.int 1, .int 2, .int 10, .int (10 ^ 6), .int (10 ^ 38)]) e := fun cf e => ev_lst rfl (by decide)
  have q := ev_callo (cf := callF defs (n + 2)) (f := io) (i := 0) (as := .cons pool .nil) (e := [.ow bs, x1, s2, s3, s4]) (e1 := [.ow bs, x1, s2, s3, s4]) (xs := bs) rfl (evs_cons (p _ _) evs_nil) rfl g3
  have q2 := ev_callo (cf := callF defs (n + 2)) (f := it) (i := 0) (as := .cons (.callo io 0 (.cons pool .nil)) .nil) (e := [.ow bs, x1, s2, s3, s4]) (e1 := [.ow bs1, x1, s2, s3, s4]) (xs := bs1) rfl (evs_cons q evs_nil) rfl k4
  exact ex_asg q2
theorem loopG {defs : List Def} {it io is : Nat} (ht : defs[it]? = some dTake) (ho : defs[io]? = some (dOf it)) (n : Nat) {x1 : Sl} : ∀ (ps : List (Int × Int)) (L0 : List ((Int × Int) × Int)) (bs : List D) (c : Int) (s3 s4 : Sl), Box bs c → c + 2 * ps.length < 100000000 → L0.length + ps.length ≤ 1000 → ∃ (L : List ((Int × Int) × Int)) (bs' : List D) (t3 t4 : Sl), Box bs' (c + 2 * ps.length) ∧ (L.map (·.1)).Sublist ps ∧ (∀ p ∈ L, 1 ≤ p.2 ∧ p.2 < 10 ^ 50) ∧
    loopS (fun e => ex (callF defs (n + 2)) (BG it io is) e) (.nm 3) (ps.map encS) [.ow bs, x1, .ow (L0.map encE), s3, s4] = .nx [.ow bs', x1, .ow ((L0 ++ L).map encE), t3, t4]
  | [], L0, bs, c, s3, s4, hb, hc, hl => ⟨[], bs, s3, s4, hb.mono (by simp), .slnil, (fun _ h => nomatch h), by rw [List.append_nil]; rfl⟩
  | p :: ps, L0, bs, c, s3, s4, hb, hc, hl => by
    have sz := thousand
    rw [List.length_cons] at hc hl
    obtain ⟨r, bs1, ⟨g1, gu⟩, g2, g3⟩ := manyG (is := is) ht ho n (x1 := x1) (s2 := .ow (L0.map encE)) (s3 := .va (encS p)) (s4 := s4) hb (by omega)
    by_cases hr : 0 < r
    · obtain ⟨L, bs', t5, t6, k1, k2, k3, k4⟩ := loopG (is := is) ht ho n (x1 := x1) ps (L0 ++ [(p, r)]) bs1 (c + 2) (.va (encS p)) (.va (.int r)) g2 (by omega) (by rw [List.length_append, List.length_singleton]; omega)
      refine ⟨(p, r) :: L, bs', t5, t6, k1.mono (by rw [List.length_cons]; omega), k2.cons_cons p, fun q hq => ?_, ?_⟩
      · rcases List.mem_cons.mp hq with rfl | hq
        · exact ⟨(by omega : 1 ≤ r), gu⟩
        · exact k3 q hq
      · have body : ex (callF defs (n + 2)) (BG it io is) [.ow bs, x1, .ow (L0.map encE), .va (encS p), s4] = .nx [.ow bs1, x1, .ow ((L0 ++ [(p, r)]).map encE), .va (encS p), .va (.int r)] := by
          have h2 : ex (callF defs (n + 2)) (.cons (nthS (BG it io is) 1) .nil) [.ow bs1, x1, .ow (L0.map encE), .va (encS p), .va (.int r)] = .nx [.ow bs1, x1, .ow ((L0 ++ [(p, r)]).map encE), .va (encS p), .va (.int r)] := by
            have e1 : (L0.map encE).length < PySem.sizeLine := by rw [List.length_map]; omega
            have e2 : 2 ≤ PySem.sizeLine := by omega
            rw [List.map_append]
            simp [nthS, BG, forB, bGreat, ex, ev, evs, hr, e2]
            have e3 : L0.length < PySem.sizeLine := by omega
            simp [e3, encE]
          exact (ex_nx g3).trans h2
        show loopS _ _ (encS p :: ps.map encS) _ = _
        rw [loop_nx (e1 := [.ow bs, x1, .ow (L0.map encE), .va (encS p), s4]) rfl body, k4, List.append_assoc]
        rfl
    · obtain ⟨L, bs', t5, t6, k1, k2, k3, k4⟩ := loopG (is := is) ht ho n (x1 := x1) ps L0 bs1 (c + 2) (.va (encS p)) (.va (.int r)) g2 (by omega) (by omega)
      refine ⟨L, bs', t5, t6, k1.mono (by rw [List.length_cons]; omega), k2.cons p, k3, ?_⟩
      have body : ex (callF defs (n + 2)) (BG it io is) [.ow bs, x1, .ow (L0.map encE), .va (encS p), s4] = .nx [.ow bs1, x1, .ow (L0.map encE), .va (encS p), .va (.int r)] := by
        have h2 : ex (callF defs (n + 2)) (.cons (nthS (BG it io is) 1) .nil) [.ow bs1, x1, .ow (L0.map encE), .va (encS p), .va (.int r)] = .nx [.ow bs1, x1, .ow (L0.map encE), .va (encS p), .va (.int r)] := by
          simp [nthS, BG, forB, bGreat, ex, ev, evs, hr]
        exact (ex_nx g3).trans h2
      show loopS _ _ (encS p :: ps.map encS) _ = _
      rw [loop_nx (e1 := [.ow bs, x1, .ow (L0.map encE), .va (encS p), s4]) rfl body, k4]
theorem great_specU {defs : List Def} {i it io is : Nat} (hd : defs[i]? = some (dGreat it io is)) (ht : defs[it]? = some dTake) (ho : defs[io]? = some (dOf it)) (hs : defs[is]? = some dSpans) (n s : Nat) (h1 : 1 ≤ s) (h2 : s ≤ 8) {bs : List D} {c : Int} (hb : Box bs c) (hc : c < 10000000) : ∃ (L : List ((Int × Int) × Int)) (bs' : List D), Box bs' (c + 100) ∧ (L.map (·.1)).Sublist (spansL s) ∧ (∀ p ∈ L, 1 ≤ p.2 ∧ p.2 < 10 ^ 50) ∧ callF defs (n + 3) i (some bs) [.int s] = .ok (lotD s L) bs' := by
  have sz := thousand
  obtain ⟨q1, q3⟩ := spans_ok s h1 h2
  obtain ⟨L, bs', t3, t4, k1, k2, k3, k4⟩ := loopG (is := is) ht ho n (x1 := .va (.int s)) (spansL s) [] bs c .em .em hb (by omega) (by simp; omega)
  refine ⟨L, bs', k1.mono (by omega), k2, k3, ?_⟩
  have e2 : (L.map encE).length ≤ PySem.sizeLine := by
    have := k2.length_le
    rw [List.length_map] at this ⊢
    omega
  rw [call_d hd ⟨rfl, rfl, by show 2 ≤ 5; decide, rfl⟩]
  show fin true false (ex (callF defs (n + 2)) (bGreat it io is) [.ow bs, .va (.int s), .em, .em, .em]) = _
  have st0 : ex (callF defs (n + 2)) (nthS (bGreat it io is) 0) [.ow bs, .va (.int s), .em, .em, .em] = .nx [.ow bs, .va (.int s), .ow (.l []), .em, .em] := by
    rfl
  have st1 : ex (callF defs (n + 2)) (nthS (bGreat it io is) 1) [.ow bs, .va (.int s), .ow (.l []), .em, .em] = .nx [.ow bs', .va (.int s), .ow (L.map encE), t3, t4] := (ex_for (seq_call rfl (spans hs (n + 1) s h1 h2))).trans k4
  have go : ex (callF defs (n + 2)) (bGreat it io is) [.ow bs, .va (.int s), .em, .em, .em] = .rt (lotD s L) [.ow bs', .va (.int s), .va (.lst (L.map encE)), t3, t4] := by
    refine (ex_nx st0).trans ((ex_nx st1).trans (ex_rt ?_))
    have e3 : 2 ≤ PySem.sizeLine := by omega
    show (((R.ok [D.int s, .tup (L.map encE)] _).bind fun xs e => if xs.length ≤ PySem.sizeLine then R.ok (.tup xs) e else .no).thn fun d e => .rt d e) = _
    rw [bind_ok, if_pos (show [D.int (s : Int), D.tup (L.map encE)].length ≤ PySem.sizeLine from e3)]
    rfl
  rw [go]
  rfl
theorem great_spec {defs : List Def} {i it io is : Nat} (hd : defs[i]? = some (dGreat it io is)) (ht : defs[it]? = some dTake) (ho : defs[io]? = some (dOf it)) (hs : defs[is]? = some dSpans) (n s : Nat) (h1 : 1 ≤ s) (h2 : s ≤ 8) {bs : List D} {c : Int} (hb : Box bs c) (hc : c < 10000000) : ∃ (L : List ((Int × Int) × Int)) (bs' : List D), Box bs' (c + 100) ∧ (L.map (·.1)).Sublist (spansL s) ∧ (∀ p ∈ L, 1 ≤ p.2) ∧ callF defs (n + 3) i (some bs) [.int s] = .ok (lotD s L) bs' := by
  obtain ⟨L, bs', a, b, c, d⟩ := great_specU hd ht ho hs n s h1 h2 hb hc
  exact ⟨L, bs', a, b, fun p hp => (c p hp).1, d⟩
end Lib
end
section
namespace Lib
open Ev L2
/-! ### comprehensions with a condition -/
theorem lc_filter {α : Type} {own : List Nat} {f : Env → R (Option D)} {t : Tg} {e : Env} {h g : α → D} {p : α → Bool} :
    ∀ (xs : List α) (acc : List D), (∀ x ∈ xs, ∃ e1 e2, tset t (h x) e = some e1 ∧ f e1 = .ok (if p x = true then some (g x) else none) e2 ∧ wipeE e2 own = e) → acc.length + xs.length ≤ PySem.sizeLine → loopC own f t (xs.map h) acc e = .ok (acc ++ (xs.filter p).map g) e := by
  intro xs
  induction xs with
  | nil =>
    intro acc _ _
    show R.ok acc e = _
    rw [List.filter_nil, List.map_nil, List.append_nil]
  | cons x xs ih =>
    intro acc hp hl
    rw [List.length_cons] at hl
    obtain ⟨e1, e2, h1, h2, h3⟩ := hp x List.mem_cons_self
    by_cases hx : p x = true
    · rw [if_pos hx] at h2
      rw [List.map_cons, lc_nx h1 h2 (by omega), h3, ih (acc ++ [g x]) (fun y hy => hp y (List.mem_cons_of_mem _ hy)) (by rw [List.length_append, List.length_singleton]; omega), List.filter_cons_of_pos hx, List.map_cons, List.append_assoc]
      rfl
    · rw [if_neg hx] at h2
      rw [List.map_cons, lc_skip h1 h2, h3, ih acc (fun y hy => hp y (List.mem_cons_of_mem _ hy)) (by omega), List.filter_cons_of_neg hx]
theorem ev_lcf {α : Type} {cf : CF} {el it c : E} {t : Tg} {own : List Nat} {e : Env} {xs : List α} {h g : α → D} {p : α → Bool} (hi : evI cf it e = .ok (xs.map h) e) (hc : isAbs c = false) (ho : (own.all fun j => !isOwn (getS e j)) = true) (hr : restE (wipeE e own) e own = e) (hl : xs.length ≤ PySem.sizeLine)
    (hs : ∀ x ∈ xs, ∃ e1 e2 e3, tset t (h x) (wipeE e own) = some e1 ∧ ev cf c e1 = .ok (.bl (p x)) e2 ∧ (p x = true → ev cf el e2 = .ok (g x) e3) ∧ wipeE e2 own = wipeE e own ∧ wipeE e3 own = wipeE e own) : ev cf (.lc el t it c own) e = .ok (.lst ((xs.filter p).map g)) e := by
  show ((evI cf it e).bind fun ds e => if (own.all fun j => !isOwn (getS e j)) = true then (loopC own (fun e => (if isAbs c = true then R.ok true e else (ev cf c e).bind fun x e => lift (truthy x) e).bind fun k e => if k = true then (ev cf el e).bind fun y e => .ok (some y) e else .ok none e) t ds [] (wipeE e own)).bind fun ys e' => R.ok (D.lst ys) (restE e' e own) else .no) = _
  rw [hi, bind_ok, if_pos ho, lc_filter (g := g) (p := p) xs [] ?_ (by rw [List.length_nil]; omega)]
  · show R.ok (D.lst ([] ++ (xs.filter p).map g)) (restE (wipeE e own) e own) = _
    rw [hr, List.nil_append]
  · intro x hx
    obtain ⟨e1, e2, e3, h1, h2, h3, h4, h5⟩ := hs x hx
    by_cases hp : p x = true
    · refine ⟨e1, e3, h1, ?_, h5⟩
      rw [hc, if_neg (by decide), h2, bind_ok, t_bl, lift_some, bind_ok, if_pos hp, if_pos hp, h3 hp, bind_ok]
    · refine ⟨e1, e2, h1, ?_, h4⟩
      rw [hc, if_neg (by decide), h2, bind_ok, t_bl, lift_some, bind_ok, if_neg hp, if_neg hp]
/-- .. without one, over what is mapped -/
theorem ev_lcm {α : Type} {cf : CF} {el it : E} {t : Tg} {own : List Nat} {e : Env} {xs : List α} {h g : α → D} (hi : evI cf it e = .ok (xs.map h) e) (ho : (own.all fun j => !isOwn (getS e j)) = true) (hr : restE (wipeE e own) e own = e) (hl : xs.length ≤ PySem.sizeLine)
    (hs : ∀ x ∈ xs, ∃ e1 e2, tset t (h x) (wipeE e own) = some e1 ∧ ev cf el e1 = .ok (g x) e2 ∧ wipeE e2 own = wipeE e own) : ev cf (.lc el t it .absent own) e = .ok (.lst (xs.map g)) e := by
  show ((evI cf it e).bind fun ds e => if (own.all fun j => !isOwn (getS e j)) = true then (loopC own (fun e => (R.ok true e).bind fun k e => if k = true then (ev cf el e).bind fun y e => .ok (some y) e else .ok none e) t ds [] (wipeE e own)).bind fun ys e' => R.ok (D.lst ys) (restE e' e own) else .no) = _
  rw [hi, bind_ok, if_pos ho, lc_filter (g := g) (p := fun _ => true) xs [] ?_ (by rw [List.length_nil]; omega)]
  · show R.ok (D.lst ([] ++ (xs.filter fun _ => true).map g)) (restE (wipeE e own) e own) = _
    rw [hr, List.nil_append, List.filter_eq_self.mpr fun _ _ => rfl]
  · intro x hx
    obtain ⟨e1, e2, h1, h2, h3⟩ := hs x hx
    refine ⟨e1, e2, h1, ?_, h3⟩
    show ((ev cf el e1).bind fun y e => .ok (some y) e) = _
    rw [h2]
    rfl
theorem ints_map {α : Type} (g : α → Int) : ∀ l : List α, ints? (l.map fun x => D.int (g x)) = some (l.map g)
  | [] => rfl
  | x :: l => by
    show (ints? (l.map fun x => D.int (g x))).map _ = _
    rw [ints_map g l]
    rfl
theorem sum_map {α : Type} (g : α → Int) (l : List α) : builtin .sum (.lst (l.map fun x => D.int (g x))) = some (.int (l.map g).sum) := by
  show (ints? (l.map fun x => D.int (g x))).map (fun ns => D.int ns.sum) = _
  rw [ints_map]
  rfl
theorem ev_band2 {cf : CF} {A B : E} {e e1 e2 : Env} {k : Bool} (h1 : ev cf A e = .ok (.bl true) e1) (h2 : ev cf B e1 = .ok (.bl k) e2) : ev cf (.band (.cons A (.cons B .nil))) e = .ok (.bl k) e2 := by
  show ((ev cf A e).bind fun x e => (lift (truthy x) e).bind fun b e => if b = true then ((ev cf B e).bind fun x e => R.ok x e) else .ok x e) = _
  rw [h1, bind_ok, t_bl, lift_some, bind_ok, if_pos rfl, h2, bind_ok]
theorem evI_seq {cf : CF} {a : E} {e e1 : Env} {x : D} {ds : List D} (h1 : ev cf a e = .ok x e1) (h2 : items? x = some ds) : evI cf (.seq a) e = .ok ds e1 := by
  show ((ev cf a e).bind fun x e => lift (items? x) e) = _
  rw [h1, bind_ok, h2, lift_some]
/-! ### lots, of tuples or of lists -/
def mkB (b : Bool) (xs : List D) : D := match b with
  | true => .tup xs
  | false => .lst xs
def encP (b : Bool) (p : Int × Int) : D := mkB b [.int p.1, .int p.2]
def encM (b : Bool) (p : (Int × Int) × Int) : D := mkB b [encP b p.1, .int p.2]
def lotM (b : Bool) (s : Nat) (L : List ((Int × Int) × Int)) : D := mkB b [.int s, mkB b (L.map (encM b))]
theorem lotM_t (s : Nat) (L : List ((Int × Int) × Int)) : lotM true s L = lotD s L := rfl
theorem lotM_f (s : Nat) (L : List ((Int × Int) × Int)) : toL (lotD s L) = lotM false s L := by
  show D.lst [.int s, .lst (toLs (L.map encE))] = D.lst [.int s, .lst (L.map (encM false))]
  rw [toLs_map, List.map_map]
  rfl
theorem mk_items (b : Bool) (xs : List D) : items? (mkB b xs) = some xs := by cases b <;> rfl
theorem mk_tset (b : Bool) (ts : Tg) (xs : List D) (e : Env) : tset (.tp ts) (mkB b xs) e = tsets ts xs e := by cases b <;> rfl
theorem mk_item (b : Bool) (xs : List D) (i : Int) : item (mkB b xs) (.int i) = atI xs i := by cases b <;> rfl
theorem enc_pl (b : Bool) (s : Nat) (L : List ((Int × Int) × Int)) (h : L.length ≤ 1000) : pl (lotM b s L) = true ∧ (lotM b s L).dep ≤ 4 := by
  have k : ∀ (b : Bool) (xs : List D), xs.length ≤ 2000 → (∀ x ∈ xs, pl x = true) → pl (mkB b xs) = true := fun b xs h1 h2 => by
    cases b
    · exact (pl_seq h1 h2).2
    · exact (pl_seq h1 h2).1
  have d : ∀ (b : Bool) (k : Nat) (xs : List D), (∀ x ∈ xs, x.dep ≤ k) → (mkB b xs).dep ≤ k + 1 := fun b k xs h => by
    cases b
    · exact (dep_seq h).2
    · exact (dep_seq h).1
  refine ⟨k b _ (by show 2 ≤ 2000; decide) fun x hx => ?_, d b 3 _ fun x hx => ?_⟩
  · rcases List.mem_cons.mp hx with rfl | hx
    · rfl
    · rw [List.mem_singleton] at hx
      subst hx
      refine k b _ (by rw [List.length_map]; omega) fun y hy => ?_
      obtain ⟨p, _, rfl⟩ := List.mem_map.mp hy
      refine k b _ (by show 2 ≤ 2000; decide) fun z hz => ?_
      rcases List.mem_cons.mp hz with rfl | hz
      · refine k b _ (by show 2 ≤ 2000; decide) fun z hz => ?_
        rcases List.mem_cons.mp hz with rfl | hz
        · rfl
        · rw [List.mem_singleton] at hz
          subst hz
          rfl
      · rw [List.mem_singleton] at hz
        subst hz
        rfl
  · rcases List.mem_cons.mp hx with rfl | hx
    · exact Nat.zero_le _
    · rw [List.mem_singleton] at hx
      subst hx
      refine d b 2 _ fun y hy => ?_
      obtain ⟨p, _, rfl⟩ := List.mem_map.mp hy
      refine d b 1 _ fun z hz => ?_
      rcases List.mem_cons.mp hz with rfl | hz
      · refine d b 0 _ fun z hz => ?_
        rcases List.mem_cons.mp hz with rfl | hz
        · exact Nat.zero_le _
        · rw [List.mem_singleton] at hz
          subst hz
          exact Nat.zero_le _
      · rw [List.mem_singleton] at hz
        subst hz
        exact Nat.zero_le _
end Lib
end
section
namespace Lib
open Ev L2
/-! ### the program: stretches and what they ask -/
def dWith (i : Nat) : Def := ⟨1, 2, false, false, (.cons (.ite (.isis (.v 0) [.list, .tuple])
    (.cons (.ret (.bi .tuple (.lc (.call i (.cons (.v 1) .nil)) (.nm 1) (.seq (.v 0)) .absent [1])))
    .nil)
    .nil)
    (.cons (.ret (.v 0))
    .nil)), 0⟩
theorem with_int {defs : List Def} {i : Nat} (hd : defs[i]? = some (dWith i)) (n : Nat) (j : Int) : callF defs (n + 1) i none [.int j] = .ok (.int j) [] := by
  rw [call_d hd ⟨rfl, rfl, by show 1 ≤ 2; decide, rfl⟩]
  rfl
def dHas : Def := ⟨3, 3, false, false, (.cons (.ret (.cmp3 .le .le .lt (.ci 0) (.v 1) (.v 2) (.v 0)))
    .nil), 0⟩
theorem has_spec {defs : List Def} {i : Nat} (hd : defs[i]? = some dHas) (n : Nat) (s f l : Int) : callF defs (n + 1) i none [.int s, .int f, .int l] = .ok (.bl (decide (0 ≤ f ∧ f ≤ l ∧ l < s))) [] := by
  rw [call_d hd ⟨rfl, rfl, by show 3 ≤ 3; decide, rfl⟩]
  by_cases h1 : 0 ≤ f
  · by_cases h2 : f ≤ l
    · by_cases h3 : l < s <;> simp [dHas, asl, ex, ev, fin, h1, h2, h3]
    · simp [dHas, asl, ex, ev, fin, h1, h2]
  · simp [dHas, asl, ex, ev, fin, h1]
def dIni (i : Nat) : Def := ⟨3, 3, false, false, .cons (.ret (.tup (.cons (.call i (.cons (.v 1) .nil)) (.cons (.call i (.cons (.v 2) .nil)) .nil)))) .nil, 1⟩
def dMk (i : Nat) : Def := ⟨i, 0, false, false, .nil, 2⟩
theorem mk2_spec {defs : List Def} {im ii iw : Nat} (hm : defs[im]? = some (dMk ii)) (hi : defs[ii]? = some (dIni iw)) (hw : defs[iw]? = some (dWith iw)) (n : Nat) (f l : Int) : callF defs (n + 3) im none [.int f, .int l] = .ok (.tup [.int f, .int l]) [] := by
  have sz := thousand
  show (match defs[im]? with | none => _ | some d => _) = _
  rw [hm]
  show callF defs (n + 2) ii none [.int f, .int l] = _
  show (match defs[ii]? with | none => _ | some d => _) = _
  rw [hi]
  have q : ex (callF defs (n + 1)) (dIni iw).body [.em, .va (.int f), .va (.int l)] = .rt (.tup [.int f, .int l]) [.em, .va (.int f), .va (.int l)] := by
    refine ex_rt (ex_ret (ev_tup (evs_cons (ev_call (evs_cons (e1 := [.em, .va (.int f), .va (.int l)]) rfl evs_nil) (with_int hw n f)) (evs_cons (ev_call (evs_cons (e1 := [.em, .va (.int f), .va (.int l)]) rfl evs_nil) (with_int hw n l)) evs_nil)) ?_))
    show 2 ≤ _
    omega
  show (match (none : Option (List D)), ex (callF defs (n + 1)) (dIni iw).body [.em, .va (.int f), .va (.int l)] with
      | none, .rt (.tup fs) _ => CR.ok (.tup fs) []
      | _, _ => .no) = _
  rw [q]
def dNeedC (c ih im : Nat) : Def := ⟨3, 3, false, false, (.cons (.ite (.not (.call ih (.cons (.v 0) (.cons (.v 1) (.cons (.v 2) .nil)))))
    (.cons (.rais c im (.cons (.v 1) (.cons (.v 2) .nil)))
    .nil)
    .nil)
    .nil), 0⟩
/-- of the class 0 -/
abbrev dNeed (ih im : Nat) : Def := dNeedC 0 ih im
theorem need_spec {defs : List Def} {c i ih im ii iw : Nat} (hd : defs[i]? = some (dNeedC c ih im)) (hh : defs[ih]? = some dHas) (hm : defs[im]? = some (dMk ii)) (hi : defs[ii]? = some (dIni iw)) (hw : defs[iw]? = some (dWith iw)) (n : Nat) (s f l : Int) : callF defs (n + 4) i none [.int s, .int f, .int l] = if 0 ≤ f ∧ f ≤ l ∧ l < s then .ok .non [] else .ex c [.int f, .int l] [] := by
  rw [call_d hd ⟨rfl, rfl, by show 3 ≤ 3; decide, rfl⟩]
  have e1 : ev (callF defs (n + 3)) (.not (.call ih (.cons (.v 0) (.cons (.v 1) (.cons (.v 2) .nil))))) [.va (.int s), .va (.int f), .va (.int l)] = .ok (.bl (!decide (0 ≤ f ∧ f ≤ l ∧ l < s))) [.va (.int s), .va (.int f), .va (.int l)] := by
    have q := ev_call (cf := callF defs (n + 3)) (f := ih) (as := .cons (.v 0) (.cons (.v 1) (.cons (.v 2) .nil))) (e := [.va (.int s), .va (.int f), .va (.int l)]) (ds := [.int s, .int f, .int l]) rfl (has_spec hh (n + 2) s f l)
    show ((ev _ _ _).bind fun x e => (lift (truthy x) e).bind fun k e => R.ok (D.bl (!k)) e) = _
    rw [q, bind_ok, t_bl, lift_some, bind_ok]
  show fin false false (ex (callF defs (n + 3)) (.cons (.ite _ _ _) .nil) [.va (.int s), .va (.int f), .va (.int l)]) = _
  rw [ex_cons, ex_ite e1]
  by_cases h : 0 ≤ f ∧ f ≤ l ∧ l < s
  · rw [if_pos h, decide_eq_true h]
    rfl
  · rw [if_neg h, decide_eq_false h]
    show fin false false (match ex (callF defs (n + 3)) (.cons (.rais c im (.cons (.v 1) (.cons (.v 2) .nil))) .nil) [.va (.int s), .va (.int f), .va (.int l)] with | .nx e' => _ | r => r) = _
    have q : ex (callF defs (n + 3)) (.cons (.rais c im (.cons (.v 1) (.cons (.v 2) .nil))) .nil) [.va (.int s), .va (.int f), .va (.int l)] = .exn c [.int f, .int l] [.va (.int s), .va (.int f), .va (.int l)] := by
      rw [ex_cons]
      have q : ex (callF defs (n + 3)) (.rais c im (.cons (.v 1) (.cons (.v 2) .nil))) [.va (.int s), .va (.int f), .va (.int l)] = .exn c [.int f, .int l] [.va (.int s), .va (.int f), .va (.int l)] := by
        show (match callF defs (n + 3) im none [.int f, .int l] with | .ok (.tup fs) _ => RS.exn c fs _ | _ => .no) = _
        rw [mk2_spec hm hi hw]
      rw [q]
    rw [q]
    rfl
def dLies : Def := ⟨2, 2, false, false, (.cons (.ret (.band (.cons (.cmp .le (.ix (.v 1) (.ci 0)) (.ix (.v 0) (.ci 0))) (.cons (.cmp .le (.ix (.v 0) (.ci 1)) (.ix (.v 1) (.ci 1))) .nil))))
    .nil), 0⟩
def within (f l : Int) (p : Int × Int) : Bool := decide (f ≤ p.1) && decide (p.2 ≤ l)
theorem lies_spec {defs : List Def} {i : Nat} (hd : defs[i]? = some dLies) (n : Nat) (b : Bool) (p : Int × Int) (f l : Int) : callF defs (n + 1) i none [encP b p, .tup [.int f, .int l]] = .ok (.bl (within f l p)) [] := by
  rw [call_d hd ⟨rfl, rfl, by show 2 ≤ 2; decide, rfl⟩]
  unfold within
  by_cases h1 : f ≤ p.1 <;> by_cases h2 : p.2 ≤ l <;> simp [dLies, asl, ex, ev, evB, isNil, fin, encP, mk_item, h1, h2]
def askI (L : List ((Int × Int) × Int)) (f l : Int) : Int := ((L.filter fun p => within f l p.1).map (·.2)).sum
def bAsked (ine il : Nat) : S := (.cons (.asg (.tp (.cons (.nm 3) (.cons (.nm 4) .nil))) (.v 0))
    (.cons (.exp (.call ine (.cons (.v 3) (.cons (.v 1) (.cons (.v 2) .nil)))))
    (.cons (.ret (.bi .sum (.lc (.v 6) (.tp (.cons (.nm 5) (.cons (.nm 6) .nil))) (.seq (.v 4)) (.call il (.cons (.v 5) (.cons (.tup (.cons (.v 1) (.cons (.v 2) .nil))) .nil))) [5, 6])))
    .nil)))
def dAsked (ine il : Nat) : Def := ⟨3, 7, false, false, bAsked ine il, 0⟩
theorem asked_spec {defs : List Def} {c i ine il ih im ii iw : Nat} (hd : defs[i]? = some (dAsked ine il)) (hn : defs[ine]? = some (dNeedC c ih im)) (hl : defs[il]? = some dLies) (hh : defs[ih]? = some dHas) (hm : defs[im]? = some (dMk ii)) (hi : defs[ii]? = some (dIni iw)) (hw : defs[iw]? = some (dWith iw)) (n : Nat) (b : Bool) (s : Nat) (L : List ((Int × Int) × Int)) (hL : L.length ≤ 1000) (f l : Int) :
    callF defs (n + 5) i none [lotM b s L, .int f, .int l] = if 0 ≤ f ∧ f ≤ l ∧ l < s then .ok (.int (askI L f l)) [] else .ex c [.int f, .int l] [] := by
  have sz := thousand
  rw [call_d hd ⟨rfl, rfl, by show 3 ≤ 7; decide, rfl⟩]
  show fin false false (ex (callF defs (n + 4)) (bAsked ine il) [.va (lotM b s L), .va (.int f), .va (.int l), .em, .em, .em, .em]) = _
  have st0 : ex (callF defs (n + 4)) (nthS (bAsked ine il) 0) [.va (lotM b s L), .va (.int f), .va (.int l), .em, .em, .em, .em] = .nx [.va (lotM b s L), .va (.int f), .va (.int l), .va (.int s), .va (mkB b (L.map (encM b))), .em, .em] := by
    show (match tset (.tp (.cons (.nm 3) (.cons (.nm 4) .nil))) (mkB b [.int s, mkB b (L.map (encM b))]) [.va (lotM b s L), .va (.int f), .va (.int l), .em, .em, .em, .em] with | some e' => RS.nx e' | none => .no) = _
    rw [mk_tset]
    rfl
  have n1 := need_spec hn hh hm hi hw n s f l
  have st1 : ex (callF defs (n + 4)) (nthS (bAsked ine il) 1) [.va (lotM b s L), .va (.int f), .va (.int l), .va (.int s), .va (mkB b (L.map (encM b))), .em, .em] = if 0 ≤ f ∧ f ≤ l ∧ l < s then .nx [.va (lotM b s L), .va (.int f), .va (.int l), .va (.int s), .va (mkB b (L.map (encM b))), .em, .em] else .exn c [.int f, .int l] [.va (lotM b s L), .va (.int f), .va (.int l), .va (.int s), .va (mkB b (L.map (encM b))), .em, .em] := by
    show ((outC (callF defs (n + 4) ine none [.int s, .int f, .int l]) [.va (lotM b s L), .va (.int f), .va (.int l), .va (.int s), .va (mkB b (L.map (encM b))), .em, .em] fun _ => [.va (lotM b s L), .va (.int f), .va (.int l), .va (.int s), .va (mkB b (L.map (encM b))), .em, .em]).thn fun _ e => .nx e) = _
    rw [n1]
    by_cases h : 0 ≤ f ∧ f ≤ l ∧ l < s
    · rw [if_pos h, if_pos h]; rfl
    · rw [if_neg h, if_neg h]; rfl
  have go := ex_nx (ss := .cons (nthS (bAsked ine il) 1) (.cons (nthS (bAsked ine il) 2) .nil)) st0
  by_cases h : 0 ≤ f ∧ f ≤ l ∧ l < s
  · rw [if_pos h] at st1
    rw [if_pos h]
    have q := ev_lcf (cf := callF defs (n + 4)) (el := .v 6) (c := .call il (.cons (.v 5) (.cons (.tup (.cons (.v 1) (.cons (.v 2) .nil))) .nil))) (t := .tp (.cons (.nm 5) (.cons (.nm 6) .nil))) (it := .seq (.v 4)) (own := [5, 6]) (e := [.va (lotM b s L), .va (.int f), .va (.int l), .va (.int s), .va (mkB b (L.map (encM b))), .em, .em]) (xs := L) (h := encM b) (g := fun p => .int p.2) (p := fun p => within f l p.1) (by
      show (lift (items? (mkB b (L.map (encM b)))) _) = _
      rw [mk_items]
      rfl) rfl rfl rfl (by omega) fun p hp => by
        refine ⟨[.va (lotM b s L), .va (.int f), .va (.int l), .va (.int s), .va (mkB b (L.map (encM b))), .va (encP b p.1), .va (.int p.2)], [.va (lotM b s L), .va (.int f), .va (.int l), .va (.int s), .va (mkB b (L.map (encM b))), .va (encP b p.1), .va (.int p.2)], [.va (lotM b s L), .va (.int f), .va (.int l), .va (.int s), .va (mkB b (L.map (encM b))), .va (encP b p.1), .va (.int p.2)], ?_, ?_, fun _ => rfl, rfl, rfl⟩
        · show tset (.tp _) (mkB b [encP b p.1, .int p.2]) _ = _
          rw [mk_tset]
          rfl
        · refine ev_call (evs_cons (e1 := [.va (lotM b s L), .va (.int f), .va (.int l), .va (.int s), .va (mkB b (L.map (encM b))), .va (encP b p.1), .va (.int p.2)]) rfl (evs_cons (ev_tup (xs := [.int f, .int l]) rfl ?_) evs_nil)) (lies_spec hl (n + 3) b p.1 f l)
          show 2 ≤ _
          omega
    have st2 := ex_ret (ev_bi (b := .sum) q (sum_map (fun p : (Int × Int) × Int => p.2) _))
    have go2 := go.trans ((ex_nx st1).trans (ex_rt (ss := .nil) st2))
    show fin false false (ex (callF defs (n + 4)) (.cons (nthS (bAsked ine il) 0) (.cons (nthS (bAsked ine il) 1) (.cons (nthS (bAsked ine il) 2) .nil))) _) = _
    rw [go2]
    rfl
  · rw [if_neg h] at st1
    rw [if_neg h]
    show fin false false (ex (callF defs (n + 4)) (.cons (nthS (bAsked ine il) 0) (.cons (nthS (bAsked ine il) 1) (.cons (nthS (bAsked ine il) 2) .nil))) _) = _
    rw [go, ex_cons, st1]
    rfl
def dHours : Def := ⟨1, 1, false, false, (.cons (.ret (.ix (.v 0) (.ci 0)))
    .nil), 0⟩
theorem hours_spec {defs : List Def} {i : Nat} (hd : defs[i]? = some dHours) (n : Nat) (b : Bool) (s : Nat) (L : List ((Int × Int) × Int)) : callF defs (n + 1) i none [lotM b s L] = .ok (.int s) [] := by
  rw [call_d hd ⟨rfl, rfl, by show 1 ≤ 1; decide, rfl⟩]
  simp [dHours, asl, ex, ev, fin, lotM, mk_item]
def dAllS : Def := ⟨1, 3, false, true, (.cons (.ret (.lc2 (.tup (.cons (.v 1) (.cons (.v 2) .nil))) (.nm 1) (.range1 (.v 0)) (.nm 2) (.range2 (.v 1) (.v 0)) .absent [1, 2] [2]))
    .nil), 0⟩
theorem allS_spec {defs : List Def} {i : Nat} (hd : defs[i]? = some dAllS) (n s : Nat) (h1 : 1 ≤ s) (h2 : s ≤ 8) : callF defs (n + 1) i none [.int s] = .ok (.lst ((spansL s).map encS)) [] := by
  rw [call_d hd ⟨rfl, rfl, by decide, rfl⟩]
  match s, h1, h2 with
  | 1, _, _ => rfl
  | 2, _, _ => rfl
  | 3, _, _ => rfl
  | 4, _, _ => rfl
  | 5, _, _ => rfl
  | 6, _, _ => rfl
  | 7, _, _ => rfl
  | 8, _, _ => rfl
def dTable (ia is io : Nat) : Def := ⟨1, 3, false, false, (.cons (.ret (.bi .tuple (.lc (.call ia (.cons (.v 0) (.cons (.v 1) (.cons (.v 2) .nil)))) (.tp (.cons (.nm 1) (.cons (.nm 2) .nil))) (.seq (.call is (.cons (.call io (.cons (.v 0) .nil)) .nil))) .absent [1, 2])))
    .nil), 0⟩
theorem table_spec {defs : List Def} {c i ia is io ine il ih im ii iw : Nat} (hd : defs[i]? = some (dTable ia is io)) (hs : defs[is]? = some dAllS) (ho : defs[io]? = some dHours) (ha : defs[ia]? = some (dAsked ine il)) (hn : defs[ine]? = some (dNeedC c ih im)) (hl : defs[il]? = some dLies) (hh : defs[ih]? = some dHas) (hm : defs[im]? = some (dMk ii)) (hi : defs[ii]? = some (dIni iw)) (hw : defs[iw]? = some (dWith iw)) (n : Nat) (b : Bool) (s : Nat) (h1 : 1 ≤ s) (h2 : s ≤ 8) (L : List ((Int × Int) × Int)) (hL : L.length ≤ 1000) :
    callF defs (n + 6) i none [lotM b s L] = .ok (.tup ((spansL s).map fun p => .int (askI L p.1 p.2))) [] := by
  have sz := thousand
  obtain ⟨q1, q3⟩ := spans_ok s h1 h2
  rw [call_d hd ⟨rfl, rfl, by show 1 ≤ 3; decide, rfl⟩]
  show fin false false (ex (callF defs (n + 5)) (dTable ia is io).body [.va (lotM b s L), .em, .em]) = _
  have hv : evI (callF defs (n + 5)) (.seq (.call is (.cons (.call io (.cons (.v 0) .nil)) .nil))) [.va (lotM b s L), .em, .em] = .ok ((spansL s).map encS) [.va (lotM b s L), .em, .em] := by
    have a := ev_call (cf := callF defs (n + 5)) (f := io) (as := .cons (.v 0) .nil) (e := [.va (lotM b s L), .em, .em]) (ds := [lotM b s L]) rfl (hours_spec ho (n + 4) b s L)
    have c := ev_call (cf := callF defs (n + 5)) (f := is) (evs_cons a evs_nil) (allS_spec hs (n + 4) s h1 h2)
    show ((ev _ _ _).bind fun x e => lift (items? x) e) = _
    rw [c]
    rfl
  have q := ev_lcm (cf := callF defs (n + 5)) (el := .call ia (.cons (.v 0) (.cons (.v 1) (.cons (.v 2) .nil)))) (t := .tp (.cons (.nm 1) (.cons (.nm 2) .nil))) (own := [1, 2]) (xs := spansL s) (h := encS) (g := fun p => .int (askI L p.1 p.2)) hv rfl rfl (by omega) fun p hp => by
    obtain ⟨k1, k2, k3⟩ := q1 p hp
    refine ⟨[.va (lotM b s L), .va (.int p.1), .va (.int p.2)], [.va (lotM b s L), .va (.int p.1), .va (.int p.2)], rfl, ?_, rfl⟩
    have c := asked_spec ha hn hl hh hm hi hw n b s L hL p.1 p.2
    rw [if_pos ⟨k1, k2, k3⟩] at c
    exact ev_call (ds := [lotM b s L, .int p.1, .int p.2]) rfl c
  have go : ex (callF defs (n + 5)) (dTable ia is io).body [.va (lotM b s L), .em, .em] = .rt (.tup ((spansL s).map fun p => .int (askI L p.1 p.2))) [.va (lotM b s L), .em, .em] := ex_rt (ex_ret (ev_bi q rfl))
  rw [go]
  rfl
end Lib
end
section
namespace Lib
open Ev L2
/-! ### tuples for lists -/
mutual
def toT : D → D
  | .lst xs => .tup (toTs xs)
  | .tup xs => .tup (toTs xs)
  | x => x
termination_by structural x => x
def toTs : List D → List D
  | [] => []
  | x :: xs => toT x :: toTs xs
termination_by structural x => x
end
theorem toTs_map : ∀ xs : List D, toTs xs = xs.map toT
  | [] => rfl
  | x :: xs => by
    show toT x :: toTs xs = _
    rw [toTs_map xs]
    rfl
theorem with_spec {defs : List Def} {i : Nat} (hi : defs[i]? = some (dWith i)) (n : Nat) : ∀ (k : Nat) (d : D), pl d = true → d.dep ≤ k → callF defs (n + k + 1) i none [d] = .ok (toT d) [] := by
  have sz := thousand
  intro k
  induction k with
  | zero =>
    intro d hs hd
    rw [call_d hi ⟨rfl, rfl, by show 1 ≤ 2; decide, rfl⟩]
    cases d <;> first | rfl | (exact absurd hd (Nat.not_succ_le_zero _)) | exact nomatch hs
  | succ k ih =>
    intro d hs hd
    have go : ∀ (xs : List D) (d : D), items? d = some xs → xs.length ≤ 2000 → pls xs = true → D.deps xs ≤ k → (isTy .list d || isTy .tuple d) = true → noScr d = true → callF defs (n + (k + 1) + 1) i none [d] = .ok (.tup (toTs xs)) [] := by
      intro xs d hi' h1 h2 h3 h4 h5
      rw [toTs_map, call_d hi ⟨rfl, rfl, by show 1 ≤ 2; decide, rfl⟩]
      show fin false false (ex (callF defs (n + k + 1)) (dWith i).body [.va d, .em]) = _
      have q := ev_lc (cf := callF defs (n + k + 1)) (el := .call i (.cons (.v 1) .nil)) (t := .nm 1) (it := .seq (.v 0)) (own := [1]) (e := [.va d, .em]) (ds := xs) (g := toT) (by
        show (lift (items? d) _) = _
        rw [hi']
        rfl) rfl rfl (by omega) fun y hy => ⟨[.va d, .va y], [.va d, .va y], rfl, by simp [ev, evs, ih y (pls_mem h2 hy) (Nat.le_trans (dep_mem hy) h3)], rfl⟩
      have e1 : ev (callF defs (n + k + 1)) (.isis (.v 0) [.list, .tuple]) [.va d, .em] = .ok (.bl true) [.va d, .em] := by
        show (if noScr d = true then R.ok (D.bl (isTy .list d || (isTy .tuple d || false))) _ else .no) = _
        rw [if_pos h5, Bool.or_false, h4]
      have e2 : ex (callF defs (n + k + 1)) (dWith i).body [.va d, .em] = .rt (.tup (xs.map toT)) [.va d, .em] := by
        refine ex_rt ((ex_ite e1).trans ?_)
        rw [if_pos rfl]
        exact ex_rt (ex_ret (ev_bi (b := .tuple) q rfl))
      rw [e2]
      rfl
    cases d with
    | lst xs =>
      have hs' := pl_lst.mp hs
      exact go xs (.lst xs) rfl hs'.1 hs'.2 (Nat.le_of_succ_le_succ hd) rfl rfl
    | tup xs =>
      have hs' := pl_tup.mp hs
      exact go xs (.tup xs) rfl hs'.1 hs'.2 (Nat.le_of_succ_le_succ hd) rfl rfl
    | scr _ => exact nomatch hs
    | err _ _ _ => exact nomatch hs
    | dic _ _ => exact nomatch hs
    | _ =>
      rw [call_d hi ⟨rfl, rfl, by show 1 ≤ 2; decide, rfl⟩]
      rfl
theorem toT_lot (b : Bool) (s : Nat) (L : List ((Int × Int) × Int)) : toT (lotM b s L) = lotD s L := by
  have q : ∀ b : Bool, (toTs (L.map (encM b))) = L.map encE := fun b => by
    rw [toTs_map, List.map_map]
    refine List.map_congr_left fun p _ => ?_
    cases b <;> rfl
  cases b
  · show D.tup [.int s, .tup (toTs (L.map (encM false)))] = _
    rw [q]
    rfl
  · show D.tup [.int s, .tup (toTs (L.map (encM true)))] = _
    rw [q]
    rfl
/-! ### the work of a window -/
def workI (L : List ((Int × Int) × Int)) (q : Int × Int) : Int := ((L.filter fun p => decide (p.1 = q)).map (·.2)).sum
theorem eq_enc (p q : Int × Int) : cmpop .eq (encS p) (.tup [.int q.1, .int q.2]) = some (decide (p = q)) := by
  obtain ⟨a, b⟩ := p
  obtain ⟨c, d⟩ := q
  show some ((a == c) && ((b == d) && true)) = _
  congr 1
  by_cases h1 : a = c <;> by_cases h2 : b = d <;> simp [h1, h2]
def bWork (iw ine : Nat) : S := (.cons (.asg (.tp (.cons (.nm 3) (.cons (.nm 4) .nil))) (.call iw (.cons (.v 0) .nil)))
    (.cons (.exp (.call ine (.cons (.v 3) (.cons (.v 1) (.cons (.v 2) .nil)))))
    (.cons (.ret (.bi .sum (.lc (.v 6) (.tp (.cons (.nm 5) (.cons (.nm 6) .nil))) (.seq (.v 4)) (.cmp .eq (.v 5) (.tup (.cons (.v 1) (.cons (.v 2) .nil)))) [5, 6])))
    .nil)))
def dWork (iw ine : Nat) : Def := ⟨3, 7, false, false, bWork iw ine, 0⟩
theorem work_spec {defs : List Def} {c i ine ih im ii iw : Nat} (hd : defs[i]? = some (dWork iw ine)) (hn : defs[ine]? = some (dNeedC c ih im)) (hh : defs[ih]? = some dHas) (hm : defs[im]? = some (dMk ii)) (hi : defs[ii]? = some (dIni iw)) (hw : defs[iw]? = some (dWith iw)) (n : Nat) (b : Bool) (s : Nat) (L : List ((Int × Int) × Int)) (hL : L.length ≤ 1000) (f l : Int) :
    callF defs (n + 6) i none [lotM b s L, .int f, .int l] = if 0 ≤ f ∧ f ≤ l ∧ l < s then .ok (.int (workI L (f, l))) [] else .ex c [.int f, .int l] [] := by
  have sz := thousand
  rw [call_d hd ⟨rfl, rfl, by show 3 ≤ 7; decide, rfl⟩]
  have n1 := need_spec hn hh hm hi hw (n + 1) s f l
  obtain ⟨p1, p2⟩ := enc_pl b s L hL
  have w1 := with_spec hw n 4 (lotM b s L) p1 p2
  rw [toT_lot] at w1
  show fin false false (ex (callF defs (n + 5)) (bWork iw ine) [.va (lotM b s L), .va (.int f), .va (.int l), .em, .em, .em, .em]) = _
  generalize callF defs (n + 5) = cf at n1 w1
  have st0 : ex cf (nthS (bWork iw ine) 0) [.va (lotM b s L), .va (.int f), .va (.int l), .em, .em, .em, .em] = .nx [.va (lotM b s L), .va (.int f), .va (.int l), .va (.int s), .va (.tup (L.map encE)), .em, .em] := by
    have c := ev_call (cf := cf) (f := iw) (as := .cons (.v 0) .nil) (e := [.va (lotM b s L), .va (.int f), .va (.int l), .em, .em, .em, .em]) (e1 := [.va (lotM b s L), .va (.int f), .va (.int l), .em, .em, .em, .em]) (ds := [lotM b s L]) rfl w1
    show ((ev cf (.call iw (.cons (.v 0) .nil)) _).thn fun d e => match tset (.tp (.cons (.nm 3) (.cons (.nm 4) .nil))) d e with | some e' => RS.nx e' | none => .no) = _
    rw [c]
    rfl
  have st1 : ex cf (nthS (bWork iw ine) 1) [.va (lotM b s L), .va (.int f), .va (.int l), .va (.int s), .va (.tup (L.map encE)), .em, .em] = if 0 ≤ f ∧ f ≤ l ∧ l < s then .nx [.va (lotM b s L), .va (.int f), .va (.int l), .va (.int s), .va (.tup (L.map encE)), .em, .em] else .exn c [.int f, .int l] [.va (lotM b s L), .va (.int f), .va (.int l), .va (.int s), .va (.tup (L.map encE)), .em, .em] := by
    show ((outC (cf ine none [.int s, .int f, .int l]) [.va (lotM b s L), .va (.int f), .va (.int l), .va (.int s), .va (.tup (L.map encE)), .em, .em] fun _ => [.va (lotM b s L), .va (.int f), .va (.int l), .va (.int s), .va (.tup (L.map encE)), .em, .em]).thn fun _ e => .nx e) = _
    rw [n1]
    by_cases h : 0 ≤ f ∧ f ≤ l ∧ l < s
    · rw [if_pos h, if_pos h]; rfl
    · rw [if_neg h, if_neg h]; rfl
  have go := ex_nx (ss := .cons (nthS (bWork iw ine) 1) (.cons (nthS (bWork iw ine) 2) .nil)) st0
  show fin false false (ex cf (.cons (nthS (bWork iw ine) 0) (.cons (nthS (bWork iw ine) 1) (.cons (nthS (bWork iw ine) 2) .nil))) _) = _
  by_cases h : 0 ≤ f ∧ f ≤ l ∧ l < s
  · rw [if_pos h] at st1
    rw [if_pos h]
    have q := ev_lcf (cf := cf) (el := .v 6) (c := .cmp .eq (.v 5) (.tup (.cons (.v 1) (.cons (.v 2) .nil)))) (t := .tp (.cons (.nm 5) (.cons (.nm 6) .nil))) (it := .seq (.v 4)) (own := [5, 6]) (e := [.va (lotM b s L), .va (.int f), .va (.int l), .va (.int s), .va (.tup (L.map encE)), .em, .em]) (xs := L) (h := encE) (g := fun p => .int p.2) (p := fun p => decide (p.1 = (f, l))) rfl rfl rfl rfl (by omega) fun p hp => by
      refine ⟨[.va (lotM b s L), .va (.int f), .va (.int l), .va (.int s), .va (.tup (L.map encE)), .va (encS p.1), .va (.int p.2)], [.va (lotM b s L), .va (.int f), .va (.int l), .va (.int s), .va (.tup (L.map encE)), .va (encS p.1), .va (.int p.2)], [.va (lotM b s L), .va (.int f), .va (.int l), .va (.int s), .va (.tup (L.map encE)), .va (encS p.1), .va (.int p.2)], rfl, ?_, fun _ => rfl, rfl, rfl⟩
      refine ev_cmp (x := encS p.1) (y := .tup [.int f, .int l]) (e1 := [.va (lotM b s L), .va (.int f), .va (.int l), .va (.int s), .va (.tup (L.map encE)), .va (encS p.1), .va (.int p.2)]) rfl (ev_tup rfl ?_) (eq_enc p.1 (f, l))
      show 2 ≤ _
      omega
    have st2 := ex_ret (ev_bi (b := .sum) q (sum_map (fun p : (Int × Int) × Int => p.2) _))
    have go2 := go.trans ((ex_nx st1).trans (ex_rt (ss := .nil) st2))
    rw [go2]
    rfl
  · rw [if_neg h] at st1
    rw [if_neg h, go, ex_cons, st1]
    rfl
def dAllW : Def := ⟨1, 3, false, false, (.cons (.ret (.bi .sum (.lc (.v 2) (.tp (.cons (.nm 1) (.cons (.nm 2) .nil))) (.seq (.ix (.v 0) (.ci 1))) .absent [1, 2])))
    .nil), 0⟩
theorem allW_spec {defs : List Def} {i : Nat} (hd : defs[i]? = some dAllW) (n : Nat) (b : Bool) (s : Nat) (L : List ((Int × Int) × Int)) (hL : L.length ≤ 1000) : callF defs (n + 1) i none [lotM b s L] = .ok (.int (L.map (·.2)).sum) [] := by
  have sz := thousand
  rw [call_d hd ⟨rfl, rfl, by show 1 ≤ 3; decide, rfl⟩]
  show fin false false (ex (callF defs n) dAllW.body [.va (lotM b s L), .em, .em]) = _
  generalize callF defs n = cf
  have hv : evI cf (.seq (.ix (.v 0) (.ci 1))) [.va (lotM b s L), .em, .em] = .ok (L.map (encM b)) [.va (lotM b s L), .em, .em] := by
    refine evI_seq (x := mkB b (L.map (encM b))) ?_ (mk_items b _)
    simp [ev, lotM, mk_item]
  have q := ev_lcm (cf := cf) (el := .v 2) (t := .tp (.cons (.nm 1) (.cons (.nm 2) .nil))) (own := [1, 2]) (xs := L) (h := encM b) (g := fun p => .int p.2) hv rfl rfl (by omega) fun p hp => by
    refine ⟨[.va (lotM b s L), .va (encP b p.1), .va (.int p.2)], [.va (lotM b s L), .va (encP b p.1), .va (.int p.2)], ?_, rfl, rfl⟩
    show tset (.tp _) (mkB b [encP b p.1, .int p.2]) _ = _
    rw [mk_tset]
    rfl
  have go : ex cf dAllW.body [.va (lotM b s L), .em, .em] = _ := ex_rt (ex_ret (ev_bi (b := .sum) q (sum_map (fun p : (Int × Int) × Int => p.2) _)))
  rw [go]
  rfl
/-! ### a dict of all windows -/
def keyL (p : Int × Int) : List Int := [p.1, p.2]
theorem keyL_inj {p q : Int × Int} : keyL p = keyL q ↔ p = q := by
  obtain ⟨a, b⟩ := p
  obtain ⟨c, d⟩ := q
  simp [keyL]
def tabO (s : Nat) (v : Int × Int → Int) : Ow := .d ((spansL s).map keyL) ((spansL s).map fun p => .int (v p))
theorem zip_tab {α : Type} (S : List α) (f : α → List Int) (g : α → D) : (S.map f).zip (S.map g) = S.map fun p => (f p, g p) := by
  induction S with
  | nil => rfl
  | cons x S ih => rw [List.map_cons, List.map_cons, List.zip_cons_cons, ih]; rfl
theorem put_tab (s : Nat) (v : Int × Int → Int) (q : Int × Int) (w : Int) (hq : q ∈ spansL s) : dput ((spansL s).map keyL) ((spansL s).map fun p => D.int (v p)) (keyL q) (.int w) = tabO s fun p => if p = q then w else v p := by
  unfold dput dputP
  rw [zip_tab]
  have h1 : (((spansL s).map fun p => (keyL p, D.int (v p))).any fun p => decide (p.1 = keyL q)) = true := by
    rw [List.any_map, List.any_eq_true]
    exact ⟨q, hq, decide_eq_true rfl⟩
  rw [if_pos h1]
  simp only [List.map_map]
  unfold tabO
  congr 1
  · refine List.map_congr_left fun p _ => ?_
    show (if keyL p = keyL q then (keyL p, D.int w) else (keyL p, D.int (v p))).1 = _
    split <;> rfl
  · refine List.map_congr_left fun p _ => ?_
    show (if keyL p = keyL q then (keyL p, D.int w) else (keyL p, D.int (v p))).2 = D.int (if p = q then w else v p)
    by_cases h : p = q
    · rw [if_pos (by rw [h]), if_pos h]
    · rw [if_neg fun z => h (keyL_inj.mp z), if_neg h]
theorem get_tab (s : Nat) (v : Int × Int → Int) (q : Int × Int) (hq : q ∈ spansL s) : item (tabO s v).toD (.tup [.int q.1, .int q.2]) = some (.int (v q)) := by
  show (dget ((spansL s).map keyL) ((spansL s).map fun p => D.int (v p)) (keyL q)) = _
  unfold dget
  rw [zip_tab]
  generalize spansL s = S at hq
  induction S with
  | nil => cases hq
  | cons p S ih =>
    rw [List.map_cons]
    by_cases h : p = q
    · rw [List.find?_cons_of_pos (by exact decide_eq_true (by rw [h])), h]
      rfl
    · rw [List.find?_cons_of_neg (by simpa using fun z => h (keyL_inj.mp z))]
      exact ih ((List.mem_cons.mp hq).resolve_left (Ne.symm h))
theorem merge_tab (s : Nat) (h1 : 1 ≤ s) (h2 : s ≤ 8) : mergeP ((spansL s).map fun p => (keyL p, D.int 0)) = (spansL s).map fun p => (keyL p, D.int 0) := by
  match s, h1, h2 with
  | 1, _, _ => rfl
  | 2, _, _ => rfl
  | 3, _, _ => rfl
  | 4, _, _ => rfl
  | 5, _, _ => rfl
  | 6, _, _ => rfl
  | 7, _, _ => rfl
  | 8, _, _ => rfl
theorem pairs_tab (S : List (Int × Int)) : pairs? (S.map fun p => D.tup [encS p, .int 0]) = some (S.map fun p => (keyL p, D.int 0)) := by
  induction S with
  | nil => rfl
  | cons p S ih =>
    show (ints? [D.int p.1, .int p.2]).bind (fun k => (pairs? (S.map fun p => D.tup [encS p, .int 0])).map fun q => (k, D.int 0) :: q) = _
    rw [ih]
    rfl
end Lib
end
section
namespace Lib
open Ev L2
/-! ### dicts of windows -/
abbrev Ps := List ((Int × Int) × Int)
def ksP (P : Ps) : List (List Int) := P.map fun p => keyL p.1
def vsP (P : Ps) : List D := P.map fun p => .int p.2
def dP (P : Ps) : Ow := .d (ksP P) (vsP P)
def getP (P : Ps) (q : Int × Int) : Int := ((P.find? fun p => decide (p.1 = q)).map (·.2)).getD 0
def putP (P : Ps) (q : Int × Int) (v : Int) : Ps := if (P.any fun p => decide (p.1 = q)) = true then P.map fun p => if p.1 = q then (p.1, v) else p else P ++ [(q, v)]
theorem zip_P (P : Ps) : (ksP P).zip (vsP P) = P.map fun p => (keyL p.1, D.int p.2) := zip_tab P _ _
theorem dec_key (p q : Int × Int) : decide (keyL p = keyL q) = decide (p = q) := by
  by_cases h : p = q
  · rw [h, decide_eq_true rfl, decide_eq_true rfl]
  · rw [decide_eq_false h, decide_eq_false fun z => h (keyL_inj.mp z)]
theorem find_P (q : Int × Int) : ∀ P : Ps, (P.map fun p => (keyL p.1, D.int p.2)).find? (fun p => decide (p.1 = keyL q)) = (P.find? fun p => decide (p.1 = q)).map fun p => (keyL p.1, D.int p.2)
  | [] => rfl
  | p :: P => by
    rw [List.map_cons]
    by_cases h : p.1 = q
    · rw [List.find?_cons_of_pos (p := fun p : List Int × D => decide (p.1 = keyL q)) (by exact decide_eq_true (by rw [h])), List.find?_cons_of_pos (p := fun p : (Int × Int) × Int => decide (p.1 = q)) (by exact decide_eq_true h)]
      rfl
    · rw [List.find?_cons_of_neg (p := fun p : List Int × D => decide (p.1 = keyL q)) (by simpa using fun z => h (keyL_inj.mp z)), List.find?_cons_of_neg (p := fun p : (Int × Int) × Int => decide (p.1 = q)) (by simpa using h)]
      exact find_P q P
theorem dget_P (P : Ps) (q : Int × Int) : dget (ksP P) (vsP P) (keyL q) = (P.find? fun p => decide (p.1 = q)).map fun p => D.int p.2 := by
  unfold dget
  rw [zip_P, find_P, Option.map_map]
  rfl
theorem any_P (q : Int × Int) : ∀ P : Ps, (P.map fun p => (keyL p.1, D.int p.2)).any (fun p => decide (p.1 = keyL q)) = P.any fun p => decide (p.1 = q)
  | [] => rfl
  | p :: P => by
    rw [List.map_cons, List.any_cons, List.any_cons, any_P q P, dec_key]
theorem dput_P (P : Ps) (q : Int × Int) (v : Int) : dput (ksP P) (vsP P) (keyL q) (.int v) = dP (putP P q v) := by
  have e : dputP (P.map fun p => (keyL p.1, D.int p.2)) (keyL q) (.int v) = (putP P q v).map fun p => (keyL p.1, D.int p.2) := by
    unfold dputP putP
    rw [any_P]
    split
    · rw [List.map_map, List.map_map]
      refine List.map_congr_left fun p _ => ?_
      show (if keyL p.1 = keyL q then (keyL p.1, D.int v) else (keyL p.1, D.int p.2)) = _
      by_cases h : p.1 = q
      · rw [if_pos (by rw [h])]
        show _ = (keyL (if p.1 = q then (p.1, v) else p).1, D.int (if p.1 = q then (p.1, v) else p).2)
        rw [if_pos h]
      · rw [if_neg fun z => h (keyL_inj.mp z)]
        show _ = (keyL (if p.1 = q then (p.1, v) else p).1, D.int (if p.1 = q then (p.1, v) else p).2)
        rw [if_neg h]
    · rw [List.map_append]
      rfl
  unfold dput
  rw [zip_P, e]
  unfold dP ksP vsP
  rw [List.map_map, List.map_map]
  rfl
theorem getP_nil (q : Int × Int) : getP [] q = 0 := rfl
theorem getP_cons (p : (Int × Int) × Int) (P : Ps) (q : Int × Int) : getP (p :: P) q = if p.1 = q then p.2 else getP P q := by
  unfold getP
  by_cases h : p.1 = q
  · rw [List.find?_cons_of_pos (p := fun p : (Int × Int) × Int => decide (p.1 = q)) (by exact decide_eq_true h), if_pos h]
    rfl
  · rw [List.find?_cons_of_neg (p := fun p : (Int × Int) × Int => decide (p.1 = q)) (by simpa using h), if_neg h]
theorem getP_map {q : Int × Int} {v : Int} (r : Int × Int) : ∀ P : Ps, getP (P.map fun p => if p.1 = q then (p.1, v) else p) r = if r = q ∧ (P.any fun p => decide (p.1 = q)) = true then v else getP P r
  | [] => by simp [getP]
  | p :: P => by
    rw [List.map_cons, getP_cons, getP_cons, getP_map r P, List.any_cons]
    by_cases h : p.1 = q
    · rw [if_pos h]
      by_cases h2 : r = q
      · subst h2; simp [h]
      · have h3 : ¬ p.1 = r := fun z => h2 (z ▸ h)
        simp [h2, h3]
    · rw [if_neg h]
      by_cases h2 : p.1 = r
      · have h3 : ¬ r = q := fun z => h (z ▸ h2)
        simp [h2, h3]
      · rw [if_neg h2, if_neg h2, decide_eq_false h, Bool.false_or]
theorem getP_snoc {q : Int × Int} {v : Int} (r : Int × Int) : ∀ P : Ps, (P.any fun p => decide (p.1 = q)) = false → getP (P ++ [(q, v)]) r = if r = q then v else getP P r
  | [], _ => by
    rw [List.nil_append, getP_cons, getP_nil]
    by_cases h : r = q
    · rw [if_pos h.symm, if_pos h]
    · rw [if_neg (Ne.symm h), if_neg h]
  | p :: P, ha => by
    rw [List.any_cons, Bool.or_eq_false_iff] at ha
    rw [List.cons_append, getP_cons, getP_cons, getP_snoc r P ha.2]
    have h1 : ¬ p.1 = q := of_decide_eq_false ha.1
    by_cases h : p.1 = r
    · rw [if_pos h, if_pos h, if_neg fun z => h1 (h.trans z)]
    · rw [if_neg h, if_neg h]
theorem getP_put (P : Ps) (q r : Int × Int) (v : Int) : getP (putP P q v) r = if r = q then v else getP P r := by
  unfold putP
  cases h : P.any fun p => decide (p.1 = q) with
  | true =>
    rw [if_pos rfl, getP_map, h]
    by_cases h2 : r = q
    · rw [if_pos ⟨h2, rfl⟩, if_pos h2]
    · rw [if_neg fun z => h2 z.1, if_neg h2]
  | false => rw [if_neg (by decide), getP_snoc r P h]
def keysP (P : Ps) : List (Int × Int) := P.map (·.1)
theorem any_mem {P : Ps} {q : Int × Int} : (P.any fun p => decide (p.1 = q)) = true ↔ q ∈ keysP P := by
  unfold keysP
  rw [List.any_eq_true, List.mem_map]
  constructor
  · rintro ⟨p, h1, h2⟩
    exact ⟨p, h1, of_decide_eq_true h2⟩
  · rintro ⟨p, h1, h2⟩
    exact ⟨p, h1, decide_eq_true h2⟩
theorem keys_put (P : Ps) (q : Int × Int) (v : Int) : keysP (putP P q v) = if q ∈ keysP P then keysP P else keysP P ++ [q] := by
  unfold putP
  by_cases h : q ∈ keysP P
  · rw [if_pos (any_mem.mpr h), if_pos h]
    unfold keysP
    rw [List.map_map]
    refine List.map_congr_left fun p _ => ?_
    show (if p.1 = q then (p.1, v) else p).1 = p.1
    split <;> rfl
  · rw [if_neg fun z => h (any_mem.mp z), if_neg h]
    unfold keysP
    rw [List.map_append]
    rfl
structure KeyOk (s : Nat) (P : Ps) : Prop where
  nd : (keysP P).Nodup
  sub : ∀ q ∈ keysP P, q ∈ spansL s
theorem KeyOk.put {s : Nat} {P : Ps} (h : KeyOk s P) {q : Int × Int} (hq : q ∈ spansL s) (v : Int) : KeyOk s (putP P q v) := by
  constructor
  · rw [keys_put]
    split
    · exact h.nd
    · next hn =>
      refine List.nodup_append.mpr ⟨h.nd, List.nodup_cons.mpr ⟨(fun z => nomatch z), List.nodup_nil⟩, fun a ha b hb => ?_⟩
      rw [List.mem_singleton.mp hb]
      exact fun z => hn (z ▸ ha)
  · intro r hr
    rw [keys_put] at hr
    split at hr
    · exact h.sub r hr
    · rcases List.mem_append.mp hr with hr | hr
      · exact h.sub r hr
      · rw [List.mem_singleton.mp hr]
        exact hq
theorem KeyOk.nil (s : Nat) : KeyOk s [] := ⟨List.nodup_nil, fun _ h => nomatch h⟩
theorem getP_mem {P : Ps} {q : Int × Int} (h : q ∉ keysP P) : getP P q = 0 := by
  induction P with
  | nil => rfl
  | cons p P ih =>
    rw [getP_cons, if_neg fun z => h (by rw [← z]; exact List.mem_cons_self)]
    exact ih fun z => h (List.mem_cons_of_mem _ z)
theorem find_mem {P : Ps} {q : Int × Int} (h : q ∈ keysP P) : (P.find? fun p => decide (p.1 = q)).map (fun p => D.int p.2) = some (.int (getP P q)) := by
  induction P with
  | nil => cases h
  | cons p P ih =>
    rw [getP_cons]
    by_cases h2 : p.1 = q
    · rw [List.find?_cons_of_pos (p := fun p : (Int × Int) × Int => decide (p.1 = q)) (by exact decide_eq_true h2), if_pos h2]
      rfl
    · rw [List.find?_cons_of_neg (p := fun p : (Int × Int) × Int => decide (p.1 = q)) (by simpa using h2), if_neg h2]
      rcases List.mem_cons.mp h with z | z
      · exact (h2 z.symm).elim
      · exact ih z
/-! ### running -/
theorem dget_in {P : Ps} {q : Int × Int} (h : q ∈ keysP P) : dget (ksP P) (vsP P) (keyL q) = some (.int (getP P q)) := by
  rw [dget_P, find_mem h]
theorem dget_D (P : Ps) (q : Int × Int) : (dget (ksP P) (vsP P) (keyL q)).getD (.int 0) = .int (getP P q) := by
  rw [dget_P]
  unfold getP
  cases P.find? fun p => decide (p.1 = q) <;> rfl
theorem ints_key (q : Int × Int) : ints? [D.int q.1, D.int q.2] = some (keyL q) := rfl
theorem ev_dgetP {cf : CF} {i : Nat} {k : E} {e : Env} {P : Ps} {q : Int × Int} (hs : getS e i = .ow (dP P)) (hk : ev cf k e = .ok (encS q) e) : ev cf (.dget i k (.ci 0)) e = .ok (.int (getP P q)) e := by
  show (if isDc (getS e i) = true then (ev cf k e).bind fun y e => (R.ok (D.int 0) e).bind fun z e => (lift (dicS (getS e i)) e).bind fun q e => match y with
    | .tup ys => lift ((ints? ys).map fun k => (dget q.1 q.2 k).getD z) e
    | _ => .no else .no) = _
  rw [hk, bind_ok, bind_ok, hs]
  show lift ((ints? [D.int q.1, D.int q.2]).map fun k => (dget (ksP P) (vsP P) k).getD (D.int 0)) e = _
  rw [ints_key, Option.map_some, dget_D]
  rfl
theorem ev_ixoP {cf : CF} {i : Nat} {k : E} {e : Env} {P : Ps} {q : Int × Int} (hs : getS e i = .ow (dP P)) (hk : ev cf k e = .ok (encS q) e) (hq : q ∈ keysP P) : ev cf (.ixo i k) e = .ok (.int (getP P q)) e := by
  show (if isL (getS e i) = true then _ else if isDc (getS e i) = true then (ev cf k e).bind fun y e => (lift (dicS (getS e i)) e).bind fun q e => match y with
    | .tup ys => lift ((ints? ys).bind fun k => dget q.1 q.2 k) e
    | _ => .no else .no) = _
  rw [hs]
  show ((ev cf k e).bind fun y e => (lift (dicS (getS e i)) e).bind fun q e => match y with
    | .tup ys => lift ((ints? ys).bind fun k => dget q.1 q.2 k) e
    | _ => .no) = _
  rw [hk, bind_ok, hs]
  show lift ((ints? [D.int q.1, D.int q.2]).bind fun k => dget (ksP P) (vsP P) k) e = _
  rw [ints_key]
  show lift (dget (ksP P) (vsP P) (keyL q)) e = _
  rw [dget_in hq]
  rfl
theorem ev_ixP {cf : CF} {a k : E} {e e1 e2 : Env} {P : Ps} {q : Int × Int} (ha : ev cf a e = .ok (dP P).toD e1) (hk : ev cf k e1 = .ok (encS q) e2) (hq : q ∈ keysP P) : ev cf (.ix a k) e = .ok (.int (getP P q)) e2 := by
  show ((ev cf a e).bind fun x e => (ev cf k e).bind fun y e => lift (item x y) e) = _
  rw [ha, bind_ok, hk, bind_ok]
  show lift ((ints? [D.int q.1, D.int q.2]).bind fun k => dget (ksP P) (vsP P) k) _ = _
  rw [ints_key]
  show lift (dget (ksP P) (vsP P) (keyL q)) _ = _
  rw [dget_in hq]
  rfl
theorem ex_setiP {cf : CF} {i : Nat} {k x : E} {e e1 e2 : Env} {P : Ps} {q : Int × Int} {v : Int} (hx : ev cf x e = .ok (.int v) e1) (hs : getS e1 i = .ow (dP P)) (hk : ev cf k e1 = .ok (encS q) e2) (hs2 : getS e2 i = .ow (dP P)) (hl : P.length ≤ 1500) : ex cf (.seti i k x) e = .nx (e2.set i (.ow (dP (putP P q v)))) := by
  have sz := thousand
  show ((ev cf x e).thn fun d e => if isOd (getS e i) = true then (ev cf k e).thn fun y e => (lift (odS (getS e i)) e).thn fun q e => match y with
    | .tup ys => (lift (ints? ys) e).thn fun k e => if q.1.length < PySem.sizeLine then .nx (e.set i (.ow (dput q.1 q.2 k d))) else .no
    | _ => .no else _) = _
  rw [hx, thn_ok, hs]
  show ((ev cf k e1).thn fun y e => (lift (odS (getS e i)) e).thn fun q e => match y with
    | .tup ys => (lift (ints? ys) e).thn fun k e => if q.1.length < PySem.sizeLine then .nx (e.set i (.ow (dput q.1 q.2 k (D.int v)))) else .no
    | _ => .no) = _
  rw [hk, thn_ok, hs2]
  show (if (ksP P).length < PySem.sizeLine then RS.nx (e2.set i (.ow (dput (ksP P) (vsP P) (keyL q) (D.int v)))) else .no) = _
  rw [if_pos (by unfold ksP; rw [List.length_map]; omega), dput_P]
theorem ev_dinoP {cf : CF} {i : Nat} {k : E} {e e1 : Env} {P : Ps} {q : Int × Int} (neg : Bool) (hk : ev cf k e = .ok (encS q) e1) (hs : getS e1 i = .ow (dP P)) : ev cf (.dino neg k i) e = .ok (.bl (if neg = true then !decide (q ∈ keysP P) else decide (q ∈ keysP P))) e1 := by
  show ((ev cf k e).bind fun y e => (lift (dicS (getS e i)) e).bind fun q e => match y with
    | .tup ys => lift ((ints? ys).map fun k => D.bl (if neg = true then !(dget q.1 q.2 k).isSome else (dget q.1 q.2 k).isSome)) e
    | _ => .no) = _
  rw [hk, bind_ok, hs]
  show lift ((ints? [D.int q.1, D.int q.2]).map fun k => D.bl (if neg = true then !(dget (ksP P) (vsP P) k).isSome else (dget (ksP P) (vsP P) k).isSome)) e1 = _
  rw [ints_key, Option.map_some]
  have e2 : (dget (ksP P) (vsP P) (keyL q)).isSome = decide (q ∈ keysP P) := by
    by_cases h : q ∈ keysP P
    · rw [dget_in h, decide_eq_true h]
      rfl
    · rw [decide_eq_false h, dget_P, Option.isSome_map]
      cases hf : P.find? fun p => decide (p.1 = q) with
      | none => rfl
      | some p => exact (h (List.mem_map.mpr ⟨p, List.mem_of_find?_eq_some hf, of_decide_eq_true (List.find?_some (p := fun p : (Int × Int) × Int => decide (p.1 = q)) hf)⟩)).elim
  rw [e2]
  rfl
/-! ### sorted keys -/
theorem spans_pw : ∀ s : Nat, s ≤ 8 → ((spansL s).map keyL).Pairwise (fun a b => leK a b = true) ∧ (spansL s).Nodup ∧ ((spansL s).map keyL).all two = true := by
  intro s hs
  match s, hs with
  | 0, _ => decide +kernel
  | 1, _ => decide +kernel
  | 2, _ => decide +kernel
  | 3, _ => decide +kernel
  | 4, _ => decide +kernel
  | 5, _ => decide +kernel
  | 6, _ => decide +kernel
  | 7, _ => decide +kernel
  | 8, _ => decide +kernel
theorem sort_P {s : Nat} (h2 : s ≤ 8) {P : Ps} (h : KeyOk s P) : sortK (ksP P) = ((spansL s).filter fun q => decide (q ∈ keysP P)).map keyL ∧ (ksP P).length < 64 ∧ (ksP P).all two = true := by
  obtain ⟨p1, p2, p3⟩ := spans_pw s h2
  have e0 : ksP P = (keysP P).map keyL := by unfold ksP keysP; rw [List.map_map]; rfl
  have pm : ((spansL s).filter fun q => decide (q ∈ keysP P)).Perm (keysP P) := by
    refine (List.perm_ext_iff_of_nodup (p2.sublist List.filter_sublist) h.nd).mpr fun q => ?_
    rw [List.mem_filter]
    exact ⟨fun z => of_decide_eq_true z.2, fun z => ⟨h.sub q z, decide_eq_true z⟩⟩
  have ha : (ksP P).all two = true := by
    rw [List.all_eq_true] at p3 ⊢
    intro k hk
    rw [e0] at hk
    obtain ⟨q, hq, rfl⟩ := List.mem_map.mp hk
    exact p3 _ (List.mem_map.mpr ⟨q, h.sub q hq, rfl⟩)
  refine ⟨?_, ?_, ha⟩
  · symm
    refine sortK_of ha ?_ ?_
    · rw [e0]
      exact pm.map keyL
    · exact p1.sublist (List.filter_sublist.map keyL)
  · rw [e0, List.length_map, ← pm.length_eq]
    have := List.length_filter_le (fun q => decide (q ∈ keysP P)) (spansL s)
    have h3 : (spansL s).length ≤ 36 := by
      match s, h2 with
      | 0, _ => decide
      | 1, _ => decide
      | 2, _ => decide
      | 3, _ => decide
      | 4, _ => decide
      | 5, _ => decide
      | 6, _ => decide
      | 7, _ => decide
      | 8, _ => decide
    omega
/-- the lot with so much work of each window -/
def canonL (s : Nat) (f : Int × Int → Int) : Ps := ((spansL s).filter fun q => decide (0 < f q)).map fun q => (q, f q)
theorem srt_dP {s : Nat} (h2 : s ≤ 8) {P : Ps} (h : KeyOk s P) : srtD (dP P).toD = some (.lst (((spansL s).filter fun q => decide (q ∈ keysP P)).map encS)) := by
  obtain ⟨h1, h3, h4⟩ := sort_P h2 h
  show (if decide ((ksP P).length < 64) && (ksP P).all two then some (D.lst ((sortK (ksP P)).map tupK)) else none) = _
  rw [decide_eq_true h3, h4]
  show some (D.lst ((sortK (ksP P)).map tupK)) = _
  rw [h1, List.map_map]
  rfl
theorem canon_P {s : Nat} {P : Ps} : ((((spansL s).filter fun q => decide (q ∈ keysP P)).filter fun q => decide (0 < getP P q)).map fun q => encE (q, getP P q)) = (canonL s (getP P)).map encE := by
  unfold canonL
  rw [List.map_map, List.filter_filter]
  have e : ((spansL s).filter fun q => decide (0 < getP P q) && decide (q ∈ keysP P)) = (spansL s).filter fun q => decide (0 < getP P q) := by
    refine List.filter_congr fun q _ => ?_
    by_cases h : q ∈ keysP P
    · rw [decide_eq_true h, Bool.and_true]
    · rw [getP_mem h]
      rfl
  rw [e]
  rfl
end Lib
end
section
namespace Lib
open Ev L2
def okS (s : Nat) (q : Int × Int) : Bool := decide (0 ≤ q.1 ∧ q.1 ≤ q.2 ∧ q.2 < (s : Int))
theorem mem_spansL {s : Nat} {q : Int × Int} : q ∈ spansL s ↔ okS s q = true := by
  obtain ⟨f, l⟩ := q
  unfold okS
  rw [decide_eq_true_eq]
  unfold spansL
  rw [List.mem_flatMap]
  constructor
  · rintro ⟨a, ha, h⟩
    rw [List.mem_range] at ha
    obtain ⟨b, hb, e⟩ := List.mem_map.mp h
    rw [List.mem_range'] at hb
    obtain ⟨i, hi, rfl⟩ := hb
    cases e
    refine ⟨?_, ?_, ?_⟩ <;> (try dsimp only) <;> omega
  · rintro ⟨h1, h2, h3⟩
    dsimp only at h1 h2 h3
    refine ⟨f.toNat, List.mem_range.mpr (by omega), List.mem_map.mpr ⟨l.toNat, ?_, ?_⟩⟩
    · rw [List.mem_range']
      exact ⟨l.toNat - f.toNat, by omega, by omega⟩
    · have e1 : ((f.toNat : Nat) : Int) = f := by omega
      have e2 : ((l.toNat : Nat) : Int) = l := by omega
      rw [e1, e2]
theorem work_cons (p : (Int × Int) × Int) (R : Ps) (q : Int × Int) : workI (p :: R) q = (if p.1 = q then p.2 else 0) + workI R q := by
  unfold workI
  by_cases h : p.1 = q
  · rw [List.filter_cons_of_pos (p := fun p : (Int × Int) × Int => decide (p.1 = q)) (by exact decide_eq_true h), if_pos h, List.map_cons, List.sum_cons]
  · rw [List.filter_cons_of_neg (p := fun p : (Int × Int) × Int => decide (p.1 = q)) (by simpa using h), if_neg h, Int.zero_add]
def addR (P R : Ps) : Ps := R.foldl (fun P p => putP P p.1 (getP P p.1 + p.2)) P
theorem getP_addR (q : Int × Int) : ∀ (R P : Ps), getP (addR P R) q = getP P q + workI R q
  | [], P => by
    show getP P q = getP P q + 0
    omega
  | p :: R, P => by
    show getP (addR (putP P p.1 (getP P p.1 + p.2)) R) q = _
    rw [getP_addR q R, getP_put, work_cons]
    by_cases h : p.1 = q
    · rw [if_pos h.symm, if_pos h, h]
      omega
    · rw [if_neg (Ne.symm h), if_neg h]
      omega
theorem KeyOk.addR {s : Nat} : ∀ {R P : Ps}, KeyOk s P → (∀ p ∈ R, p.1 ∈ spansL s) → KeyOk s (Lib.addR P R)
  | [], _, h, _ => h
  | p :: R, P, h, hr => KeyOk.addR (R := R) (h.put (hr p List.mem_cons_self) _) fun q hq => hr q (List.mem_cons_of_mem _ hq)
def badR (s : Nat) (R : Ps) : Option (Int × Int) := (R.find? fun p => !okS s p.1).map (·.1)
theorem badR_cons (s : Nat) (p : (Int × Int) × Int) (R : Ps) : badR s (p :: R) = if okS s p.1 = true then badR s R else some p.1 := by
  unfold badR
  by_cases h : okS s p.1 = true
  · rw [List.find?_cons_of_neg (p := fun p : (Int × Int) × Int => !okS s p.1) (by rw [h]; decide), if_pos h]
  · rw [List.find?_cons_of_pos (p := fun p : (Int × Int) × Int => !okS s p.1) (by simpa using h), if_neg h]
    rfl
theorem badR_none {s : Nat} : ∀ {R : Ps}, badR s R = none → ∀ p ∈ R, p.1 ∈ spansL s
  | [], _, p, hp => nomatch hp
  | q :: R, h, p, hp => by
    rw [badR_cons] at h
    split at h
    · next hq =>
      rcases List.mem_cons.mp hp with rfl | hp
      · exact mem_spansL.mpr hq
      · exact badR_none h p hp
    · cases h
theorem length_put (P : Ps) (q : Int × Int) (v : Int) : (putP P q v).length ≤ P.length + 1 := by
  unfold putP
  split
  · rw [List.length_map]; omega
  · rw [List.length_append]; exact Nat.le_refl _
/-! ### made_lot -/
def lcMade (i k : Nat) (it get : E) : E := (.bi .tuple (.lc (.tup (.cons (.v k) (.cons get .nil))) (.nm k) (.seq it) (.cmp .gt get (.ci 0)) [k]))
def bMade (iw ine : Nat) : S := (.cons (.asgo 2 .demp)
    (.cons (.for_ (.tp (.cons (.nm 3) (.cons (.nm 4) .nil))) (.seq (.call iw (.cons (.v 1) .nil)))
    (.cons (.asg (.tp (.cons (.nm 5) (.cons (.nm 6) .nil))) (.v 3))
    (.cons (.exp (.call ine (.cons (.v 0) (.cons (.v 5) (.cons (.v 6) .nil)))))
    (.cons (.seti 2 (.v 3) (.bin .add (.dget 2 (.v 3) (.ci 0)) (.v 4)))
    .nil))))
    (.cons (.ret (.tup (.cons (.v 0) (.cons (.bi .tuple (.lc (.tup (.cons (.v 3) (.cons (.ixo 2 (.v 3)) .nil))) (.nm 3) (.seq (.srto 2)) (.cmp .gt (.ixo 2 (.v 3)) (.ci 0)) [3])) .nil))))
    .nil)))
def dMade (iw ine : Nat) : Def := ⟨2, 7, false, false, bMade iw ine, 0⟩
def BM (iw ine : Nat) : S := forB (nthS (bMade iw ine) 1)
def NeedOk (cf : CF) (c ine s : Nat) : Prop := ∀ f l : Int, cf ine none [.int s, .int f, .int l] = if 0 ≤ f ∧ f ≤ l ∧ l < (s : Int) then .ok .non [] else .ex c [.int f, .int l] []
theorem bodyM {cf : CF} {c iw ine s : Nat} (hn : NeedOk cf c ine s) {x1 s5 s6 : Sl} {P : Ps} (hl : P.length ≤ 1500) (q : Int × Int) (w : Int) :
    ex cf (BM iw ine) [.va (.int s), x1, .ow (dP P), .va (encS q), .va (.int w), s5, s6] = if okS s q = true then .nx [.va (.int s), x1, .ow (dP (putP P q (getP P q + w))), .va (encS q), .va (.int w), .va (.int q.1), .va (.int q.2)] else .exn c [.int q.1, .int q.2] [.va (.int s), x1, .ow (dP P), .va (encS q), .va (.int w), .va (.int q.1), .va (.int q.2)] := by
  have st0 : ex cf (nthS (BM iw ine) 0) [.va (.int s), x1, .ow (dP P), .va (encS q), .va (.int w), s5, s6] = .nx [.va (.int s), x1, .ow (dP P), .va (encS q), .va (.int w), .va (.int q.1), .va (.int q.2)] := rfl
  have st1 : ex cf (nthS (BM iw ine) 1) [.va (.int s), x1, .ow (dP P), .va (encS q), .va (.int w), .va (.int q.1), .va (.int q.2)] = (outC (cf ine none [.int s, .int q.1, .int q.2]) [.va (.int s), x1, .ow (dP P), .va (encS q), .va (.int w), .va (.int q.1), .va (.int q.2)] fun _ => [.va (.int s), x1, .ow (dP P), .va (encS q), .va (.int w), .va (.int q.1), .va (.int q.2)]).thn fun _ e => .nx e := rfl
  rw [hn] at st1
  refine (ex_nx st0).trans ?_
  unfold okS
  by_cases h : 0 ≤ q.1 ∧ q.1 ≤ q.2 ∧ q.2 < (s : Int)
  · rw [if_pos h] at st1
    rw [decide_eq_true h, if_pos rfl]
    refine (ex_nx st1).trans ?_
    have a1 := ev_dgetP (cf := cf) (i := 2) (k := .v 3) (e := [.va (.int s), x1, .ow (dP P), .va (encS q), .va (.int w), .va (.int q.1), .va (.int q.2)]) (P := P) (q := q) rfl rfl
    have a2 : ev cf (.bin .add (.dget 2 (.v 3) (.ci 0)) (.v 4)) [.va (.int s), x1, .ow (dP P), .va (encS q), .va (.int w), .va (.int q.1), .va (.int q.2)] = .ok (.int (getP P q + w)) [.va (.int s), x1, .ow (dP P), .va (encS q), .va (.int w), .va (.int q.1), .va (.int q.2)] := ev_bin a1 rfl rfl
    exact (ex_nx (ex_setiP a2 rfl rfl rfl hl)).trans rfl
  · rw [if_neg h] at st1
    rw [decide_eq_false h, if_neg (by decide), ex_cons]
    show (match ex cf (nthS (BM iw ine) 1) _ with | .nx e' => ex cf _ e' | r => r) = _
    rw [st1]
    rfl
theorem loop_exn {f : Env → RS} {t : Tg} {x : D} {xs : List D} {e e1 e2 : Env} {c : Nat} {fs : List D} (h1 : tset t x e = some e1) (h2 : f e1 = .exn c fs e2) : loopS f t (x :: xs) e = .exn c fs e2 := by
  show (match tset t x e with | none => _ | some e' => _) = _
  rw [h1]
  show (match f e1 with | .nx e2 => _ | .ct e2 => _ | .bk e2 => _ | .rt d e2 => _ | .exn c fs e2 => _ | .no => _) = _
  rw [h2]
theorem ex_xn {cf : CF} {s ss : S} {e e' : Env} {c : Nat} {fs : List D} (h : ex cf s e = .exn c fs e') : ex cf (.cons s ss) e = .exn c fs e' := by
  rw [ex_cons, h]
theorem loopM {cf : CF} {c iw ine s : Nat} (hn : NeedOk cf c ine s) {x1 : Sl} : ∀ (R P : Ps) (s3 s4 s5 s6 : Sl), isOwn s3 = false → P.length + R.length ≤ 1500 → ∃ (t3 t4 t5 t6 : Sl) (e' : Env), isOwn t3 = false ∧ loopS (fun e => ex cf (BM iw ine) e) (.tp (.cons (.nm 3) (.cons (.nm 4) .nil))) (R.map encE) [.va (.int s), x1, .ow (dP P), s3, s4, s5, s6] = match badR s R with
    | none => .nx [.va (.int s), x1, .ow (dP (addR P R)), t3, t4, t5, t6]
    | some q => .exn c [.int q.1, .int q.2] e'
  | [], P, s3, s4, s5, s6, h3, _ => ⟨s3, s4, s5, s6, [], h3, rfl⟩
  | (q, w) :: R, P, s3, s4, s5, s6, h3, hl => by
    rw [List.length_cons] at hl
    have b := bodyM (iw := iw) hn (x1 := x1) (s5 := s5) (s6 := s6) (P := P) (by omega) q w
    rw [badR_cons]
    by_cases h : okS s q = true
    · rw [if_pos h] at b
      rw [if_pos h]
      obtain ⟨t3, t4, t5, t6, e', k1, k2⟩ := loopM (iw := iw) hn (x1 := x1) R (putP P q (getP P q + w)) (.va (encS q)) (.va (.int w)) (.va (.int q.1)) (.va (.int q.2)) rfl (by have := length_put P q (getP P q + w); omega)
      refine ⟨t3, t4, t5, t6, e', k1, ?_⟩
      rw [List.map_cons, loop_nx (e1 := [.va (.int s), x1, .ow (dP P), .va (encS q), .va (.int w), s5, s6]) rfl b, k2]
      rfl
    · rw [if_neg h] at b
      rw [if_neg h]
      refine ⟨.em, .em, .em, .em, [.va (.int s), x1, .ow (dP P), .va (encS q), .va (.int w), .va (.int q.1), .va (.int q.2)], rfl, ?_⟩
      rw [List.map_cons]
      exact loop_exn (e1 := [.va (.int s), x1, .ow (dP P), .va (encS q), .va (.int w), s5, s6]) rfl b
theorem ret_made {cf : CF} {s : Nat} (h2 : s ≤ 8) {P : Ps} (hk : KeyOk s P) {x1 s3 s4 s5 s6 : Sl} (h3 : isOwn s3 = false) : ev cf (.lc (.tup (.cons (.v 3) (.cons (.ixo 2 (.v 3)) .nil))) (.nm 3) (.seq (.srto 2)) (.cmp .gt (.ixo 2 (.v 3)) (.ci 0)) [3]) [.va (.int s), x1, .ow (dP P), s3, s4, s5, s6] = .ok (.lst ((canonL s (getP P)).map encE)) [.va (.int s), x1, .ow (dP P), s3, s4, s5, s6] := by
  have sz := thousand
  have hi : evI cf (.seq (.srto 2)) [.va (.int s), x1, .ow (dP P), s3, s4, s5, s6] = .ok (((spansL s).filter fun q => decide (q ∈ keysP P)).map encS) [.va (.int s), x1, .ow (dP P), s3, s4, s5, s6] := by
    refine evI_seq (x := .lst (((spansL s).filter fun q => decide (q ∈ keysP P)).map encS)) ?_ rfl
    show lift (srtD (dP P).toD) _ = _
    rw [srt_dP h2 hk]
    rfl
  have hlen : ((spansL s).filter fun q => decide (q ∈ keysP P)).length ≤ 36 := by
    have := List.length_filter_le (fun q => decide (q ∈ keysP P)) (spansL s)
    have h4 := sort_P h2 hk
    by_cases h0 : s = 0
    · subst h0; exact Nat.le_trans this (by decide)
    · exact Nat.le_trans this (spans_ok s (by omega) h2).2
  have q := ev_lcf (cf := cf) (el := .tup (.cons (.v 3) (.cons (.ixo 2 (.v 3)) .nil))) (c := .cmp .gt (.ixo 2 (.v 3)) (.ci 0)) (t := .nm 3) (own := [3]) (g := fun q => encE (q, getP P q)) (p := fun q => decide (0 < getP P q)) hi rfl (by show (!isOwn s3 && true) = true; rw [h3]; rfl) rfl (by omega) fun q hq => by
    have hqk : q ∈ keysP P := of_decide_eq_true (List.mem_filter.mp hq).2
    have g1 := ev_ixoP (cf := cf) (i := 2) (k := .v 3) (e := [.va (.int s), x1, .ow (dP P), .va (encS q), s4, s5, s6]) (P := P) (q := q) rfl rfl hqk
    exact ⟨[.va (.int s), x1, .ow (dP P), .va (encS q), s4, s5, s6], [.va (.int s), x1, .ow (dP P), .va (encS q), s4, s5, s6], [.va (.int s), x1, .ow (dP P), .va (encS q), s4, s5, s6], rfl, ev_cmp g1 rfl rfl, fun _ => ev_tup (evs_cons (a := .v 3) rfl (evs_cons g1 evs_nil)) (by show 2 ≤ _; omega), rfl, rfl⟩
  rw [canon_P] at q
  exact q
theorem canon_congr {s : Nat} {f g : Int × Int → Int} (h : ∀ q, f q = g q) : canonL s f = canonL s g := by
  have : f = g := funext h
  rw [this]
theorem made_cf {cf : CF} {c iw ine s : Nat} (hn : NeedOk cf c ine s) (h2 : s ≤ 8) {d1 : D} {R : Ps} (hw : cf iw none [d1] = .ok (.tup (R.map encE)) []) (hR : R.length ≤ 1000) : fin false false (ex cf (bMade iw ine) [.va (.int s), .va d1, .em, .em, .em, .em, .em]) = match badR s R with
    | none => .ok (lotD s (canonL s (workI R))) []
    | some q => .ex c [.int q.1, .int q.2] [] := by
  have sz := thousand
  have st0 : ex cf (nthS (bMade iw ine) 0) [.va (.int s), .va d1, .em, .em, .em, .em, .em] = .nx [.va (.int s), .va d1, .ow (dP []), .em, .em, .em, .em] := rfl
  have hv : evI cf (.seq (.call iw (.cons (.v 1) .nil))) [.va (.int s), .va d1, .ow (dP []), .em, .em, .em, .em] = .ok (R.map encE) [.va (.int s), .va d1, .ow (dP []), .em, .em, .em, .em] := by
    refine evI_seq (x := .tup (R.map encE)) (ev_call (ds := [d1]) rfl hw) rfl
  obtain ⟨t3, t4, t5, t6, e', k1, k2⟩ := loopM (iw := iw) hn (x1 := .va d1) R [] .em .em .em .em rfl (by simpa using (by omega : R.length ≤ 1500))
  have st1 : ex cf (nthS (bMade iw ine) 1) [.va (.int s), .va d1, .ow (dP []), .em, .em, .em, .em] = _ := (ex_for hv).trans k2
  cases hb : badR s R with
  | none =>
    rw [hb] at st1
    have ko : KeyOk s (addR [] R) := KeyOk.addR (KeyOk.nil s) (badR_none hb)
    have q := ret_made (cf := cf) h2 ko (x1 := .va d1) (s4 := t4) (s5 := t5) (s6 := t6) k1
    have e0 : canonL s (getP (addR [] R)) = canonL s (workI R) := canon_congr fun q => by rw [getP_addR, getP_nil]; omega
    rw [e0] at q
    have st2 : ex cf (nthS (bMade iw ine) 2) [.va (.int s), .va d1, .ow (dP (addR [] R)), t3, t4, t5, t6] = .rt (lotD s (canonL s (workI R))) [.va (.int s), .va d1, .ow (dP (addR [] R)), t3, t4, t5, t6] :=
      ex_ret (ev_tup (evs_cons (a := .v 0) rfl (evs_cons (ev_bi (b := .tuple) q rfl) evs_nil)) (by show 2 ≤ _; omega))
    have go : ex cf (bMade iw ine) [.va (.int s), .va d1, .em, .em, .em, .em, .em] = _ := (ex_nx st0).trans ((ex_nx st1).trans (ex_rt (ss := .nil) st2))
    rw [go]
    rfl
  | some q =>
    rw [hb] at st1
    have go : ex cf (bMade iw ine) [.va (.int s), .va d1, .em, .em, .em, .em, .em] = .exn c [.int q.1, .int q.2] e' := by
      refine (ex_nx st0).trans ?_
      rw [ex_cons]
      show (match ex cf (nthS (bMade iw ine) 1) _ with | .nx e' => ex cf _ e' | r => r) = _
      rw [st1]
    rw [go]
    rfl
theorem made_spec {defs : List Def} {c i iw ine ih im ii : Nat} (hd : defs[i]? = some (dMade iw ine)) (hn : defs[ine]? = some (dNeedC c ih im)) (hh : defs[ih]? = some dHas) (hm : defs[im]? = some (dMk ii)) (hi : defs[ii]? = some (dIni iw)) (hw : defs[iw]? = some (dWith iw)) (n s : Nat) (h2 : s ≤ 8) {d1 : D} {R : Ps} (hp : pl d1 = true) (hdep : d1.dep ≤ 6) (hT : toT d1 = .tup (R.map encE)) (hR : R.length ≤ 1000) :
    callF defs (n + 8) i none [.int s, d1] = match badR s R with
    | none => .ok (lotD s (canonL s (workI R))) []
    | some q => .ex c [.int q.1, .int q.2] [] := by
  rw [call_d hd ⟨rfl, rfl, by show 2 ≤ 7; decide, rfl⟩]
  have q := with_spec (defs := defs) hw n 6 d1 hp hdep
  rw [hT] at q
  exact made_cf (cf := callF defs (n + 7)) (fun f l => need_spec hn hh hm hi hw (n + 3) s f l) h2 q hR
/-! ### the law's own -/
def bLMade : S := .cons (.ret (.tup (.cons (.v 0) (.cons (.bi .tuple (.lc (.tup (.cons (.v 2) (.cons (.ix (.v 1) (.v 2)) .nil))) (.nm 2) (.seq (.srt (.v 1))) (.cmp .gt (.ix (.v 1) (.v 2)) (.ci 0)) [2])) .nil)))) .nil
def dLMade : Def := ⟨2, 3, false, false, bLMade, 0⟩
theorem lmade_spec {defs : List Def} {i : Nat} (hd : defs[i]? = some dLMade) (n s : Nat) (h2 : s ≤ 8) {P : Ps} (hk : KeyOk s P) (z : D) (hz : z = .int s) : callF defs (n + 1) i none [z, (dP P).toD] = .ok (lotD s (canonL s (getP P))) [] := by
  subst hz
  have sz := thousand
  rw [call_d hd ⟨rfl, rfl, by show 2 ≤ 3; decide, rfl⟩]
  show fin false false (ex (callF defs n) bLMade [.va (.int s), .va (dP P).toD, .em]) = _
  have hi : evI (callF defs n) (.seq (.srt (.v 1))) [.va (.int s), .va (dP P).toD, .em] = .ok (((spansL s).filter fun q => decide (q ∈ keysP P)).map encS) [.va (.int s), .va (dP P).toD, .em] := by
    refine evI_seq (x := .lst (((spansL s).filter fun q => decide (q ∈ keysP P)).map encS)) ?_ rfl
    show lift (srtD (dP P).toD) _ = _
    rw [srt_dP h2 hk]
    rfl
  have hlen : ((spansL s).filter fun q => decide (q ∈ keysP P)).length ≤ 36 := by
    have := List.length_filter_le (fun q => decide (q ∈ keysP P)) (spansL s)
    by_cases h0 : s = 0
    · subst h0; exact Nat.le_trans this (by decide)
    · exact Nat.le_trans this (spans_ok s (by omega) h2).2
  have q := ev_lcf (cf := callF defs n) (el := .tup (.cons (.v 2) (.cons (.ix (.v 1) (.v 2)) .nil))) (c := .cmp .gt (.ix (.v 1) (.v 2)) (.ci 0)) (t := .nm 2) (own := [2]) (g := fun q => encE (q, getP P q)) (p := fun q => decide (0 < getP P q)) hi rfl rfl rfl (by omega) fun q hq => by
    have hqk : q ∈ keysP P := of_decide_eq_true (List.mem_filter.mp hq).2
    have g1 := ev_ixP (cf := callF defs n) (a := .v 1) (k := .v 2) (e := [.va (.int s), .va (dP P).toD, .va (encS q)]) (P := P) (q := q) rfl rfl hqk
    exact ⟨[.va (.int s), .va (dP P).toD, .va (encS q)], [.va (.int s), .va (dP P).toD, .va (encS q)], [.va (.int s), .va (dP P).toD, .va (encS q)], rfl, ev_cmp g1 rfl rfl, fun _ => ev_tup (evs_cons (a := .v 2) rfl (evs_cons g1 evs_nil)) (by show 2 ≤ _; omega), rfl, rfl⟩
  rw [canon_P] at q
  have st : ex (callF defs n) bLMade [.va (.int s), .va (dP P).toD, .em] = .rt (lotD s (canonL s (getP P))) [.va (.int s), .va (dP P).toD, .em] :=
    ex_rt (ex_ret (ev_tup (evs_cons (a := .v 0) rfl (evs_cons (ev_bi (b := .tuple) q rfl) evs_nil)) (by show 2 ≤ _; omega)))
  rw [st]
  rfl
/-! ### the table of all windows -/
def P0 (s : Nat) : Ps := (spansL s).map fun q => (q, 0)
theorem keys_P0 (s : Nat) : keysP (P0 s) = spansL s := by
  unfold keysP P0
  rw [List.map_map]
  exact List.map_id _
theorem ok_P0 (s : Nat) (h2 : s ≤ 8) : KeyOk s (P0 s) := ⟨by rw [keys_P0]; exact (spans_pw s h2).2.1, fun q h => by rw [keys_P0] at h; exact h⟩
theorem getP_zero (q : Int × Int) : ∀ S : List (Int × Int), getP (S.map fun q => (q, (0 : Int))) q = 0
  | [] => rfl
  | p :: S => by
    rw [List.map_cons, getP_cons, getP_zero q S]
    split <;> rfl
theorem getP_P0 (s : Nat) (q : Int × Int) : getP (P0 s) q = 0 := getP_zero q _
theorem mem_put {P : Ps} {q : Int × Int} (h : q ∈ keysP P) (v : Int) : keysP (putP P q v) = keysP P := by rw [keys_put, if_pos h]
theorem ev_dct0 {cf : CF} {a : E} {e e1 : Env} {s : Nat} (h1 : 1 ≤ s) (h2 : s ≤ 8) (h : ev cf a e = .ok (.lst ((spansL s).map fun p => D.tup [encS p, .int 0])) e1) : ev cf (.dct a) e = .ok (dP (P0 s)).toD e1 := by
  have sz := thousand
  have hl := (spans_ok s h1 h2).2
  show ((ev cf a e).bind fun x e => match x with
    | .lst xs => (lift (pairs? xs) e).bind fun kvs => fun e => if xs.length ≤ 1000 then R.ok (D.dic ((mergeP kvs).map (·.1)) ((mergeP kvs).map (·.2))) e else .no
    | _ => .no) = _
  rw [h, bind_ok]
  show ((lift (pairs? ((spansL s).map fun p => D.tup [encS p, .int 0])) e1).bind fun kvs => fun e => if ((spansL s).map fun p => D.tup [encS p, .int 0]).length ≤ 1000 then R.ok (D.dic ((mergeP kvs).map (·.1)) ((mergeP kvs).map (·.2))) e else .no) = _
  rw [pairs_tab, lift_some, bind_ok, if_pos (by rw [List.length_map]; omega), merge_tab s h1 h2]
  unfold dP ksP vsP P0
  rw [List.map_map, List.map_map, List.map_map, List.map_map]
  rfl
end Lib
end
section
namespace Lib
open Ev L2
/-! ### dict([(window, number), ..]) -/
theorem dputP_new {acc : List (List Int × D)} {k : List Int} {d : D} (h : k ∉ acc.map (·.1)) : dputP acc k d = acc ++ [(k, d)] := by
  unfold dputP
  rw [if_neg]
  rw [List.any_eq_true]
  rintro ⟨p, h1, h2⟩
  exact h (List.mem_map.mpr ⟨p, h1, of_decide_eq_true h2⟩)
theorem merge_go : ∀ (l acc : List (List Int × D)), (l.map (·.1)).Nodup → (∀ k ∈ l.map (·.1), k ∉ acc.map (·.1)) → l.foldl (fun acc p => dputP acc p.1 p.2) acc = acc ++ l
  | [], acc, _, _ => (List.append_nil acc).symm
  | p :: l, acc, hn, hd => by
    rw [List.map_cons, List.nodup_cons] at hn
    rw [List.foldl_cons, dputP_new (hd p.1 List.mem_cons_self), merge_go l _ hn.2 ?_, List.append_assoc]
    · rfl
    · intro k hk hz
      rw [List.map_append] at hz
      rcases List.mem_append.mp hz with z | z
      · exact hd k (List.mem_cons_of_mem _ hk) z
      · have e : k = p.1 := List.mem_singleton.mp z
        exact hn.1 (e ▸ hk)
theorem merge_nd {l : List (List Int × D)} (hn : (l.map (·.1)).Nodup) : mergeP l = l := by
  have := merge_go l [] hn (fun _ _ z => nomatch z)
  exact this
theorem key_nodup {S : List (Int × Int)} (h : S.Nodup) : (S.map keyL).Nodup := List.Pairwise.map _ (fun a b hab z => hab (keyL_inj.mp z)) h
theorem pairs_g (v : Int × Int → D) : ∀ S : List (Int × Int), pairs? (S.map fun p => D.tup [encS p, v p]) = some (S.map fun p => (keyL p, v p))
  | [] => rfl
  | p :: S => by
    show (ints? [D.int p.1, .int p.2]).bind (fun k => (pairs? (S.map fun p => D.tup [encS p, v p])).map fun q => (k, v p) :: q) = _
    rw [pairs_g v S]
    rfl
def tabP (S : List (Int × Int)) (f : Int × Int → Int) : Ps := S.map fun q => (q, f q)
theorem keys_tab (S : List (Int × Int)) (f : Int × Int → Int) : keysP (tabP S f) = S := by
  unfold keysP tabP
  rw [List.map_map]
  exact List.map_id _
theorem getP_tab (f : Int × Int → Int) {q : Int × Int} : ∀ {S : List (Int × Int)}, q ∈ S → getP (tabP S f) q = f q
  | p :: S, h => by
    show getP ((p, f p) :: tabP S f) q = _
    rw [getP_cons]
    by_cases hp : p = q
    · rw [if_pos hp, hp]
    · rw [if_neg hp]
      exact getP_tab f ((List.mem_cons.mp h).resolve_left (Ne.symm hp))
theorem ok_tab (s : Nat) (h2 : s ≤ 8) (f : Int × Int → Int) : KeyOk s (tabP (spansL s) f) := ⟨by rw [keys_tab]; exact (spans_pw s h2).2.1, fun q h => by rw [keys_tab] at h; exact h⟩
theorem ev_dctS {cf : CF} {a : E} {e e1 : Env} {S : List (Int × Int)} {f : Int × Int → Int} (hn : S.Nodup) (hl : S.length ≤ 1000) (h : ev cf a e = .ok (.lst (S.map fun p => D.tup [encS p, .int (f p)])) e1) : ev cf (.dct a) e = .ok (dP (tabP S f)).toD e1 := by
  have sz := thousand
  show ((ev cf a e).bind fun x e => match x with
    | .lst xs => (lift (pairs? xs) e).bind fun kvs => fun e => if xs.length ≤ 1000 then R.ok (D.dic ((mergeP kvs).map (·.1)) ((mergeP kvs).map (·.2))) e else .no
    | _ => .no) = _
  rw [h, bind_ok]
  show ((lift (pairs? (S.map fun p => D.tup [encS p, .int (f p)])) e1).bind fun kvs => fun e => if (S.map fun p => D.tup [encS p, .int (f p)]).length ≤ 1000 then R.ok (D.dic ((mergeP kvs).map (·.1)) ((mergeP kvs).map (·.2))) e else .no) = _
  rw [pairs_g fun p => .int (f p), lift_some, bind_ok, if_pos (by rw [List.length_map]; omega), merge_nd (by rw [List.map_map]; exact key_nodup hn)]
  unfold dP ksP vsP tabP
  rw [List.map_map, List.map_map, List.map_map, List.map_map]
  rfl
/-! ### put row by row -/
def putR (P R : Ps) : Ps := R.foldl (fun P p => putP P p.1 p.2) P
theorem getP_putR (q : Int × Int) : ∀ (R P : Ps), (keysP R).Nodup → (∀ r ∈ keysP R, getP P r = 0) → getP (putR P R) q = getP P q + workI R q
  | [], P, _, _ => by
    show getP P q = getP P q + 0
    omega
  | p :: R, P, hn, hd => by
    have hn : (p.1 :: keysP R).Nodup := hn
    rw [List.nodup_cons] at hn
    show getP (putR (putP P p.1 p.2) R) q = _
    rw [getP_putR q R (putP P p.1 p.2) hn.2 (fun r hr => ?_), getP_put, work_cons]
    · by_cases h : q = p.1
      · have := hd p.1 List.mem_cons_self
        rw [if_pos h, if_pos h.symm, h, this]
        omega
      · rw [if_neg h, if_neg (Ne.symm h)]
        omega
    · rw [getP_put, if_neg (fun z : r = p.1 => hn.1 (z ▸ hr))]
      exact hd r (List.mem_cons_of_mem _ hr)
theorem ok_putR {s : Nat} : ∀ {R P : Ps}, KeyOk s P → (∀ p ∈ R, p.1 ∈ spansL s) → KeyOk s (putR P R)
  | [], _, h, _ => h
  | p :: R, P, h, hr => ok_putR (R := R) (h.put (hr p List.mem_cons_self) _) fun q hq => hr q (List.mem_cons_of_mem _ hq)
theorem keys_putR : ∀ {R P : Ps}, (∀ p ∈ R, p.1 ∈ keysP P) → keysP (putR P R) = keysP P
  | [], _, _ => rfl
  | p :: R, P, h => by
    show keysP (putR (putP P p.1 p.2) R) = _
    rw [keys_putR fun q hq => ?_, mem_put (h p List.mem_cons_self)]
    rw [mem_put (h p List.mem_cons_self)]
    exact h q (List.mem_cons_of_mem _ hq)
/-! ### a lot's table of works -/
def bLTable (is : Nat) : S := (.cons (.asgo 1 (.dct (.lc (.tup (.cons (.v 2) (.cons (.ci 0) .nil))) (.nm 2) (.seq (.call is (.cons (.ix (.v 0) (.ci 0)) .nil))) .absent [2])))
    (.cons (.for_ (.tp (.cons (.nm 2) (.cons (.nm 3) .nil))) (.seq (.ix (.v 0) (.ci 1)))
    (.cons (.seti 1 (.v 2) (.v 3))
    .nil))
    (.cons (.ret (.v 1))
    .nil)))
def dLTable (is : Nat) : Def := ⟨1, 4, false, false, bLTable is, 0⟩
def BLT (is : Nat) : S := forB (nthS (bLTable is) 1)
theorem loopT {cf : CF} {is : Nat} {x0 : Sl} : ∀ (L P : Ps) (s2 s3 : Sl), P.length + L.length ≤ 1500 → ∃ (t2 t3 : Sl), loopS (fun e => ex cf (BLT is) e) (.tp (.cons (.nm 2) (.cons (.nm 3) .nil))) (L.map encE) [x0, .ow (dP P), s2, s3] = .nx [x0, .ow (dP (putR P L)), t2, t3]
  | [], P, s2, s3, _ => ⟨s2, s3, rfl⟩
  | (q, w) :: L, P, s2, s3, hl => by
    rw [List.length_cons] at hl
    have b := ex_setiP (cf := cf) (i := 1) (k := .v 2) (x := .v 3) (e := [x0, .ow (dP P), .va (encS q), .va (.int w)]) (P := P) (q := q) (v := w) rfl rfl rfl rfl (by omega)
    have b2 : ex cf (BLT is) [x0, .ow (dP P), .va (encS q), .va (.int w)] = .nx [x0, .ow (dP (putP P q w)), .va (encS q), .va (.int w)] := (ex_nx b).trans rfl
    obtain ⟨t2, t3, r⟩ := loopT (cf := cf) (is := is) (x0 := x0) L (putP P q w) (.va (encS q)) (.va (.int w)) (by have := length_put P q w; omega)
    refine ⟨t2, t3, ?_⟩
    rw [List.map_cons, loop_nx (e1 := [x0, .ow (dP P), .va (encS q), .va (.int w)]) rfl b2, r]
    rfl
/-- the table as a list -/
def tabL (s : Nat) (L : Ps) : Ps := putR (tabP (spansL s) fun _ => 0) L
theorem getP_tabL {s : Nat} {L : Ps} (nd : (keysP L).Nodup) (hs : ∀ p ∈ L, p.1 ∈ spansL s) (q : Int × Int) : getP (tabL s L) q = workI L q := by
  unfold tabL
  have z : ∀ r, getP (tabP (spansL s) fun _ => 0) r = 0 := fun r => getP_zero r _
  rw [getP_putR q L _ nd (fun r _ => z r), z]
  omega
theorem keys_tabL {s : Nat} {L : Ps} (hs : ∀ p ∈ L, p.1 ∈ spansL s) : keysP (tabL s L) = spansL s := by
  unfold tabL
  rw [keys_putR fun p hp => by rw [keys_tab]; exact hs p hp, keys_tab]
theorem ok_tabL {s : Nat} (h2 : s ≤ 8) {L : Ps} (hs : ∀ p ∈ L, p.1 ∈ spansL s) : KeyOk s (tabL s L) := ok_putR (ok_tab s h2 _) hs
theorem table_cf {cf : CF} {is s : Nat} (h1 : 1 ≤ s) (h2 : s ≤ 8) {L : Ps} (hL : L.length ≤ 1000) (c : cf is none [.int s] = .ok (.lst ((spansL s).map encS)) []) : fin false false (ex cf (bLTable is) [.va (lotD s L), .em, .em, .em]) = .ok (dP (tabL s L)).toD [] := by
  have sz := thousand
  obtain ⟨p1, p2⟩ := spans_ok s h1 h2
  have c1 := ev_call (cf := cf) (f := is) (as := .cons (.ix (.v 0) (.ci 0)) .nil) (e := [.va (lotD s L), .em, .em, .em]) (e1 := [.va (lotD s L), .em, .em, .em]) (ds := [.int s]) (by simp [ev, evs, lotD]) c
  have q := ev_lcm (cf := cf) (el := .tup (.cons (.v 2) (.cons (.ci 0) .nil))) (t := .nm 2) (own := [2]) (xs := spansL s) (h := encS) (g := fun p => D.tup [encS p, .int 0]) (evI_seq c1 rfl) rfl rfl (by omega) fun p hp => ⟨[.va (lotD s L), .em, .va (encS p), .em], [.va (lotD s L), .em, .va (encS p), .em], rfl, ev_tup (evs_cons (a := .v 2) rfl (evs_cons (a := .ci 0) rfl evs_nil)) (by show 2 ≤ _; omega), rfl⟩
  have d := ev_dctS (f := fun _ => 0) (spans_pw s h2).2.1 (by omega) q
  have st0 : ex cf (nthS (bLTable is) 0) [.va (lotD s L), .em, .em, .em] = .nx [.va (lotD s L), .ow (dP (tabP (spansL s) fun _ => 0)), .em, .em] := by
    show ((ev cf (.dct _) _).thn fun d e => match d with | .lst xs => RS.nx (e.set 1 (.ow (.l xs))) | .dic ks xs => .nx (e.set 1 (.ow (.d ks xs))) | _ => .no) = _
    rw [d]
    rfl
  have hv : evI cf (.seq (.ix (.v 0) (.ci 1))) [.va (lotD s L), .ow (dP (tabP (spansL s) fun _ => 0)), .em, .em] = .ok (L.map encE) [.va (lotD s L), .ow (dP (tabP (spansL s) fun _ => 0)), .em, .em] := by
    simp [evI, ev, lotD, items?]
  obtain ⟨t2, t3, k⟩ := loopT (cf := cf) (is := is) (x0 := .va (lotD s L)) L (tabP (spansL s) fun _ => 0) .em .em (by unfold tabP; rw [List.length_map]; omega)
  have st1 : ex cf (nthS (bLTable is) 1) [.va (lotD s L), .ow (dP (tabP (spansL s) fun _ => 0)), .em, .em] = _ := (ex_for hv).trans k
  have go : ex cf (bLTable is) [.va (lotD s L), .em, .em, .em] = .rt (dP (tabL s L)).toD [.va (lotD s L), .va (dP (tabL s L)).toD, t2, t3] := (ex_nx st0).trans ((ex_nx st1).trans (ex_rt (ss := .nil) (ex_ret (a := .v 1) rfl)))
  rw [go]
  rfl
theorem ltable_spec {defs : List Def} {i is : Nat} (hd : defs[i]? = some (dLTable is)) (hs : defs[is]? = some dSpans) (n s : Nat) (h1 : 1 ≤ s) (h2 : s ≤ 8) {L : Ps} (hL : L.length ≤ 1000) : callF defs (n + 2) i none [lotD s L] = .ok (dP (tabL s L)).toD [] := by
  rw [call_d hd ⟨rfl, rfl, by show 1 ≤ 4; decide, rfl⟩]
  exact table_cf h1 h2 hL (spans hs n s h1 h2)
/-- sorted(table) walked by a name that is not one's own -/
theorem srt_tab {cf : CF} {a : E} {e e1 : Env} {s : Nat} (h2 : s ≤ 8) {P : Ps} (hk : KeyOk s P) (hk2 : keysP P = spansL s) (h : ev cf a e = .ok (dP P).toD e1) : evI cf (.seq (.srt a)) e = .ok ((spansL s).map encS) e1 := by
  refine evI_seq (x := .lst ((spansL s).map encS)) ?_ rfl
  show ((ev cf a e).bind fun x e => lift (srtD x) e) = _
  rw [h, bind_ok, srt_dP h2 hk, hk2]
  have e0 : (spansL s).filter (fun q => decide (q ∈ spansL s)) = spansL s := List.filter_eq_self.mpr fun q hq => decide_eq_true hq
  rw [e0]
  rfl
theorem work_append (L L' : Ps) (q : Int × Int) : workI (L ++ L') q = workI L q + workI L' q := by
  induction L with
  | nil =>
    show workI L' q = 0 + workI L' q
    omega
  | cons p L ih =>
    rw [List.cons_append, work_cons, work_cons, ih]
    omega
theorem canon_len (s : Nat) (h2 : s ≤ 8) (f : Int × Int → Int) : (canonL s f).length ≤ 1000 := by
  unfold canonL
  rw [List.length_map]
  have := List.length_filter_le (fun q => decide (0 < f q)) (spansL s)
  by_cases h0 : s = 0
  · subst h0; exact Nat.le_trans this (by decide)
  · have := (spans_ok s (by omega) h2).2
    omega
theorem bad_none {s : Nat} : ∀ {R : Ps}, (∀ p ∈ R, p.1 ∈ spansL s) → badR s R = none
  | [], _ => rfl
  | p :: R, h => by
    rw [badR_cons, if_pos (mem_spansL.mp (h p List.mem_cons_self))]
    exact bad_none fun q hq => h q (List.mem_cons_of_mem _ hq)
theorem canon_on {s : Nat} {f g : Int × Int → Int} (h : ∀ q ∈ spansL s, f q = g q) : canonL s f = canonL s g := by
  unfold canonL
  rw [List.filter_congr fun q hq => by rw [h q hq]]
  exact List.map_congr_left fun q hq => by rw [h q (List.mem_filter.mp hq).1]
end Lib
end
section
namespace Lib
open Ev L2
/-! ### what is written by hand, run up to its last row -/
mutual
def beqD : D → D → Bool
  | .int i, .int j => decide (i = j)
  | .tup xs, .tup ys => beqDs xs ys
  | .lst xs, .lst ys => beqDs xs ys
  | _, _ => false
def beqDs : List D → List D → Bool
  | [], [] => true
  | x :: xs, y :: ys => beqD x y && beqDs xs ys
  | _, _ => false
end
mutual
theorem beqD_eq : ∀ {d e : D}, beqD d e = true → d = e
  | .int i, .int j, h => by
    have h : decide (i = j) = true := by simpa [beqD] using h
    rw [of_decide_eq_true h]
  | .tup xs, .tup ys, h => by
    have h : beqDs xs ys = true := by simpa [beqD] using h
    rw [beqDs_eq h]
  | .lst xs, .lst ys, h => by
    have h : beqDs xs ys = true := by simpa [beqD] using h
    rw [beqDs_eq h]
  | .non, e, h => by simp [beqD] at h
  | .bl _, e, h => by simp [beqD] at h
  | .str _, e, h => by simp [beqD] at h
  | .scr _, e, h => by simp [beqD] at h
  | .err _ _ _, e, h => by simp [beqD] at h
  | .dic _ _, e, h => by simp [beqD] at h
  | .int _, .non, h => by simp [beqD] at h
  | .int _, .bl _, h => by simp [beqD] at h
  | .int _, .str _, h => by simp [beqD] at h
  | .int _, .lst _, h => by simp [beqD] at h
  | .int _, .tup _, h => by simp [beqD] at h
  | .int _, .scr _, h => by simp [beqD] at h
  | .int _, .err _ _ _, h => by simp [beqD] at h
  | .int _, .dic _ _, h => by simp [beqD] at h
  | .tup _, .non, h => by simp [beqD] at h
  | .tup _, .bl _, h => by simp [beqD] at h
  | .tup _, .int _, h => by simp [beqD] at h
  | .tup _, .str _, h => by simp [beqD] at h
  | .tup _, .lst _, h => by simp [beqD] at h
  | .tup _, .scr _, h => by simp [beqD] at h
  | .tup _, .err _ _ _, h => by simp [beqD] at h
  | .tup _, .dic _ _, h => by simp [beqD] at h
  | .lst _, .non, h => by simp [beqD] at h
  | .lst _, .bl _, h => by simp [beqD] at h
  | .lst _, .int _, h => by simp [beqD] at h
  | .lst _, .str _, h => by simp [beqD] at h
  | .lst _, .tup _, h => by simp [beqD] at h
  | .lst _, .scr _, h => by simp [beqD] at h
  | .lst _, .err _ _ _, h => by simp [beqD] at h
  | .lst _, .dic _ _, h => by simp [beqD] at h
theorem beqDs_eq : ∀ {xs ys : List D}, beqDs xs ys = true → xs = ys
  | [], [], _ => rfl
  | x :: xs, y :: ys, h => by
    have h : (beqD x y && beqDs xs ys) = true := by simpa [beqDs] using h
    rw [Bool.and_eq_true] at h
    rw [beqD_eq h.1, beqDs_eq h.2]
  | [], _ :: _, h => by simp [beqDs] at h
  | _ :: _, [], h => by simp [beqDs] at h
end
def preS : Nat → S → S
  | n + 1, .cons s ss => .cons s (preS n ss)
  | _, _ => .nil
def dropS : Nat → S → S
  | 0, b => b
  | n + 1, .cons _ ss => dropS n ss
  | _ + 1, _ => .nil
/-- so many statements at least -/
def lenS : Nat → S → Bool
  | 0, _ => true
  | n + 1, .cons _ ss => lenS n ss
  | _ + 1, _ => false
theorem ex_split {cf : CF} : ∀ (n : Nat) {b : S} {e e' : Env}, lenS n b = true → ex cf (preS n b) e = .nx e' → ex cf b e = ex cf (dropS n b) e'
  | 0, b, e, e', _, h => by
    have h : ex cf .nil e = .nx e' := by
      have e0 : preS 0 b = .nil := by cases b <;> rfl
      rw [e0] at h
      exact h
    have h : RS.nx e = .nx e' := h
    cases h
    rfl
  | n + 1, .cons s ss, e, e', hl, h => by
    have h : ex cf (.cons s (preS n ss)) e = .nx e' := h
    rw [ex_cons] at h
    show ex cf (.cons s ss) e = ex cf (dropS n ss) e'
    rw [ex_cons]
    cases hs : ex cf s e with
    | nx e1 =>
      rw [hs] at h
      exact ex_split n hl h
    | rt d e1 => rw [hs] at h; cases h
    | bk e1 => rw [hs] at h; cases h
    | ct e1 => rw [hs] at h; cases h
    | exn c fs e1 => rw [hs] at h; cases h
    | no => rw [hs] at h; cases h
def okT (r : R D) : Bool := match r with
  | .ok (.bl true) _ => true
  | _ => false
def envR (r : R D) : Env := match r with
  | .ok _ e => e
  | _ => []
theorem okT_eq {r : R D} (h : okT r = true) : r = .ok (.bl true) (envR r) := by
  unfold okT at h
  split at h
  · rfl
  · cases h
def isNx (r : RS) : Bool := match r with
  | .nx _ => true
  | _ => false
def envS (r : RS) : Env := match r with
  | .nx e => e
  | _ => []
theorem isNx_eq {r : RS} (h : isNx r = true) : r = .nx (envS r) := by
  unfold isNx at h
  split at h
  · rfl
  · cases h
def slotIs (s : Sl) (d : D) : Bool := match s with
  | .va x => beqD x d
  | _ => false
theorem slotIs_eq {s : Sl} {d : D} (h : slotIs s d = true) : s = .va d := by
  unfold slotIs at h
  split at h
  · rw [beqD_eq h]
  · cases h
theorem ev_name {cf : CF} {i : Nat} {e : Env} {d : D} (h : getS e i = .va d) : ev cf (.v i) e = .ok d e := by
  show (match getS e i with | .va d => R.ok d e | .ow w => R.ok w.toD (e.set i (.va w.toD)) | .em => R.no) = _
  rw [h]
end Lib
end
section
namespace Lib
open Ev L2
/-! ### the least of some numbers -/
def minL : List Int → Int
  | [] => 0
  | n :: ns => ns.foldl min n
def IsMin (m : Int) (xs : List Int) : Prop := m ∈ xs ∧ ∀ y ∈ xs, m ≤ y
theorem foldmin : ∀ (ns : List Int) (n : Int), ns.foldl min n ∈ n :: ns ∧ ∀ y ∈ n :: ns, ns.foldl min n ≤ y
  | [], n => ⟨List.mem_cons_self, fun y hy => by rw [List.mem_singleton.mp hy]; exact Int.le_refl _⟩
  | m :: ns, n => by
    obtain ⟨h1, h2⟩ := foldmin ns (min n m)
    refine ⟨?_, fun y hy => ?_⟩
    · rw [List.foldl_cons]
      rcases List.mem_cons.mp h1 with h | h
      · rw [h]
        by_cases hc : n ≤ m
        · rw [Int.min_eq_left hc]; exact List.mem_cons_self
        · rw [Int.min_eq_right (by omega)]; exact List.mem_cons_of_mem _ List.mem_cons_self
      · exact List.mem_cons_of_mem _ (List.mem_cons_of_mem _ h)
    · rw [List.foldl_cons]
      have h0 := h2 (min n m) List.mem_cons_self
      rcases List.mem_cons.mp hy with h | h
      · rw [h]; omega
      · rcases List.mem_cons.mp h with h | h
        · rw [h]; omega
        · exact h2 y (List.mem_cons_of_mem _ h)
theorem minL_is {xs : List Int} (h : xs ≠ []) : IsMin (minL xs) xs := by
  cases xs with
  | nil => exact (h rfl).elim
  | cons n ns => exact foldmin ns n
theorem IsMin.eq {m m' : Int} {xs : List Int} (h : IsMin m xs) (h' : IsMin m' xs) : m = m' := by
  have a := h.2 _ h'.1
  have b := h'.2 _ h.1
  omega
theorem ints_D : ∀ xs : List Int, ints? (xs.map D.int) = some xs
  | [] => rfl
  | x :: xs => by
    show (ints? (xs.map D.int)).map _ = _
    rw [ints_D xs]
    rfl
theorem bi_min (b : Bool) {xs : List Int} (h : xs ≠ []) : builtin .min (mkB b (xs.map D.int)) = some (.int (minL xs)) := by
  have e : builtin .min (mkB b (xs.map D.int)) = (ints? (xs.map D.int)).bind minI := by cases b <;> rfl
  rw [e, ints_D]
  cases xs with
  | nil => exact (h rfl).elim
  | cons n ns => rfl
theorem min_up {U V : List Int} {x : Int} (l : IsMin x (U ++ x :: V)) (h1 : x ∉ U) (h2 : x ∉ V) : IsMin (x + 1) (U ++ (x + 1) :: V) := by
  refine ⟨by simp, fun y hy => ?_⟩
  rcases List.mem_append.mp hy with q | q
  · have := l.2 y (by simp [q])
    have : y ≠ x := fun z => h1 (z ▸ q)
    omega
  · rcases List.mem_cons.mp q with q | q
    · omega
    · have := l.2 y (by simp [q])
      have : y ≠ x := fun z => h2 (z ▸ q)
      omega
theorem min_same {U V : List Int} {x c m : Int} (l : IsMin m (U ++ x :: V)) (h : m ∈ U ∨ m ∈ V) (hc : m ≤ x + c) : IsMin m (U ++ (x + c) :: V) := by
  refine ⟨by rcases h with h | h <;> simp [h], fun y hy => ?_⟩
  rcases List.mem_append.mp hy with q | q
  · exact l.2 y (by simp [q])
  · rcases List.mem_cons.mp q with q | q
    · rw [q]; exact hc
    · exact l.2 y (by simp [q])
theorem min_down {U V : List Int} {x : Int} (l : IsMin x (U ++ x :: V)) : IsMin (x + -1) (U ++ (x + -1) :: V) := by
  refine ⟨by simp, fun y hy => ?_⟩
  rcases List.mem_append.mp hy with q | q
  · have := l.2 y (by simp [q])
    omega
  · rcases List.mem_cons.mp q with q | q
    · omega
    · have := l.2 y (by simp [q])
      omega
theorem ne_mid {U V : List Int} {x : Int} : U ++ x :: V ≠ [] := by simp
theorem minL_up (U V : List Int) (x : Int) : minL (U ++ (x + 1) :: V) = minL (U ++ x :: V) + if x = minL (U ++ x :: V) ∧ (U ++ x :: V).count (minL (U ++ x :: V)) = 1 then 1 else 0 := by
  have l := minL_is (ne_mid (U := U) (V := V) (x := x))
  have l' := minL_is (ne_mid (U := U) (V := V) (x := x + 1))
  generalize minL (U ++ x :: V) = m at l ⊢
  generalize minL (U ++ (x + 1) :: V) = m' at l' ⊢
  by_cases hx : x = m
  · subst hx
    by_cases hu : x ∈ U ∨ x ∈ V
    · rw [if_neg]
      · have := l'.eq (min_same (c := 1) l hu (by omega))
        omega
      · intro ⟨_, z⟩
        rw [List.count_append, List.count_cons_self] at z
        rcases hu with hu | hu
        · have := List.count_pos_iff.mpr hu
          omega
        · have := List.count_pos_iff.mpr hu
          omega
    · rw [if_pos]
      · have := l'.eq (min_up l (fun z => hu (.inl z)) (fun z => hu (.inr z)))
        omega
      · refine ⟨rfl, ?_⟩
        rw [List.count_append, List.count_cons_self, List.count_eq_zero.mpr (fun z => hu (.inl z)), List.count_eq_zero.mpr (fun z => hu (.inr z))]
  · rw [if_neg (fun z => hx z.1)]
    have hm : m ∈ U ∨ m ∈ V := by
      rcases List.mem_append.mp l.1 with q | q
      · exact .inl q
      · rcases List.mem_cons.mp q with q | q
        · exact (hx q.symm).elim
        · exact .inr q
    have := l.2 x (by simp)
    have := l'.eq (min_same (c := 1) l hm (by omega))
    omega
theorem minL_down (U V : List Int) (x : Int) : minL (U ++ (x + -1) :: V) = minL (U ++ x :: V) - if x = minL (U ++ x :: V) then 1 else 0 := by
  have l := minL_is (ne_mid (U := U) (V := V) (x := x))
  have l' := minL_is (ne_mid (U := U) (V := V) (x := x + -1))
  generalize minL (U ++ x :: V) = m at l ⊢
  generalize minL (U ++ (x + -1) :: V) = m' at l' ⊢
  by_cases hx : x = m
  · subst hx
    rw [if_pos rfl]
    have := l'.eq (min_down l)
    omega
  · rw [if_neg hx]
    have hm : m ∈ U ∨ m ∈ V := by
      rcases List.mem_append.mp l.1 with q | q
      · exact .inl q
      · rcases List.mem_cons.mp q with q | q
        · exact (hx q.symm).elim
        · exact .inr q
    have := l.2 x (by simp)
    have := l'.eq (min_same (c := -1) l hm (by omega))
    omega
/-! ### the prices of a window -/
def slL (F : List Int) (p : Int × Int) : List Int := (F.drop p.1.toNat).take (p.2.toNat + 1 - p.1.toNat)
theorem sl_ne {F : List Int} {p : Int × Int} (h : okS F.length p = true) : slL F p ≠ [] := by
  unfold okS at h
  rw [decide_eq_true_eq] at h
  intro z
  have := congrArg List.length z
  unfold slL at this
  rw [List.length_take, List.length_drop, List.length_nil] at this
  omega
theorem cut_sl {F : List Int} {p : Int × Int} (h : okS F.length p = true) : cutD (F.map D.int) (some p.1) (some (p.2 + 1)) = (slL F p).map D.int := by
  unfold okS at h
  rw [decide_eq_true_eq] at h
  unfold cutD slL
  have e1 : p.1 = ((p.1.toNat : Nat) : Int) := by omega
  have e2 : p.2 + 1 = ((p.2.toNat + 1 : Nat) : Int) := by omega
  rw [e1, e2, HT.sIx_nat, HT.sIx_nat, List.length_map, Int.toNat_natCast, Nat.min_eq_left (by omega), Nat.min_eq_left (by omega), List.map_take, List.map_drop]
def sliceD (b : Bool) {F : List Int} {p : Int × Int} (h : okS F.length p = true) : slice (mkB b (F.map D.int)) (some p.1) (some (p.2 + 1)) = some (mkB b ((slL F p).map D.int)) := by
  cases b
  · show some (D.lst (cutD _ _ _)) = _
    rw [cut_sl h]
    rfl
  · show some (D.tup (cutD _ _ _)) = _
    rw [cut_sl h]
    rfl
theorem sl_lo {A B : List Int} {y : Int} {p : Int × Int} (h : 0 ≤ p.1 ∧ p.1 ≤ p.2 ∧ p.2 < (A.length : Int)) : slL (A ++ y :: B) p = (A.drop p.1.toNat).take (p.2.toNat + 1 - p.1.toNat) := by
  unfold slL
  rw [List.drop_append_of_le_length (by omega), List.take_append_of_le_length (by rw [List.length_drop]; omega)]
theorem sl_hi {A B : List Int} {y : Int} {p : Int × Int} (h : (A.length : Int) < p.1) : slL (A ++ y :: B) p = (B.drop (p.1.toNat - A.length - 1)).take (p.2.toNat + 1 - p.1.toNat) := by
  unfold slL
  rw [List.drop_append, List.drop_eq_nil_of_le (by omega), List.nil_append]
  have e : p.1.toNat - A.length = (p.1.toNat - A.length - 1) + 1 := by omega
  rw [e, List.drop_succ_cons]
  rfl
theorem sl_mid {A B : List Int} {y : Int} {p : Int × Int} (h : 0 ≤ p.1 ∧ p.1 ≤ A.length ∧ (A.length : Int) ≤ p.2) : slL (A ++ y :: B) p = A.drop p.1.toNat ++ y :: B.take (p.2.toNat - A.length) := by
  unfold slL
  rw [List.drop_append_of_le_length (by omega), List.take_append, List.take_of_length_le (by rw [List.length_drop]; omega), List.length_drop]
  have e : p.2.toNat + 1 - p.1.toNat - (A.length - p.1.toNat) = (p.2.toNat - A.length) + 1 := by omega
  rw [e, List.take_succ_cons]
/-! ### one price changed -/
def chg (F : List Int) (h : Nat) (c : Int) : List Int := F.zipIdx.map fun p => if p.2 = h then p.1 + c else p.1
theorem chg_tail (h : Nat) (c : Int) : ∀ (B : List Int) (j : Nat), h < j → (B.zipIdx j).map (fun p => if p.2 = h then p.1 + c else p.1) = B
  | [], _, _ => rfl
  | x :: B, j, hj => by
    rw [List.zipIdx_cons, List.map_cons, chg_tail h c B (j + 1) (by omega), if_neg (show ¬ j = h by omega)]
theorem chg_go (c x : Int) (B : List Int) : ∀ (A : List Int) (j : Nat), ((A ++ x :: B).zipIdx j).map (fun p => if p.2 = j + A.length then p.1 + c else p.1) = A ++ (x + c) :: B
  | [], j => by
    rw [List.nil_append, List.zipIdx_cons, List.map_cons, List.length_nil, Nat.add_zero, if_pos rfl, chg_tail j c B (j + 1) (by omega)]
    rfl
  | a :: A, j => by
    rw [List.cons_append, List.zipIdx_cons, List.map_cons, if_neg (show ¬ j = j + (a :: A).length by rw [List.length_cons]; omega)]
    have e : j + (a :: A).length = (j + 1) + A.length := by rw [List.length_cons]; omega
    rw [e, chg_go c x B A (j + 1)]
    rfl
theorem chg_eq (A B : List Int) (x c : Int) : chg (A ++ x :: B) A.length c = A ++ (x + c) :: B := by
  have q := chg_go c x B A 0
  rw [Nat.zero_add] at q
  exact q
theorem chg_len (F : List Int) (h : Nat) (c : Int) : (chg F h c).length = F.length := by
  unfold chg
  rw [List.length_map, List.length_zipIdx]
theorem enum_zip : ∀ (F : List Int) (j : Nat), enumD j (F.map D.int) = (F.zipIdx j).map fun p => D.tup [.int (p.2 : Nat), .int p.1]
  | [], _ => rfl
  | x :: F, j => by
    rw [List.map_cons, List.zipIdx_cons, List.map_cons, ← enum_zip F (j + 1)]
    rfl
/-! ### what it costs -/
def costI (L : Ps) (F : List Int) : Int := (L.map fun p => p.2 * minL (slL F p.1)).sum
def inW (p : Int × Int) (h : Nat) : Bool := decide (p.1 ≤ (h : Int) ∧ (h : Int) ≤ p.2)
def lowAt (F : List Int) (h : Nat) (p : Int × Int) : Bool := inW p h && decide (F[h]? = some (minL (slL F p)))
def upB (F : List Int) (h : Nat) (p : Int × Int) : Bool := lowAt F h p && decide ((slL F p).count (minL (slL F p)) = 1)
def sumIf (c : Int × Int → Bool) (L : Ps) : Int := (L.map fun p => if c p.1 = true then p.2 else 0).sum
theorem win_up {A B : List Int} {x : Int} {p : Int × Int} (h : okS (A ++ x :: B).length p = true) : minL (slL (A ++ (x + 1) :: B) p) = minL (slL (A ++ x :: B) p) + if upB (A ++ x :: B) A.length p = true then 1 else 0 := by
  unfold okS at h
  rw [decide_eq_true_eq, List.length_append, List.length_cons] at h
  have e0 : (A ++ x :: B)[A.length]? = some x := by simp
  unfold upB lowAt inW
  rw [e0]
  by_cases h1 : p.2 < (A.length : Int)
  · rw [sl_lo ⟨h.1, h.2.1, h1⟩, sl_lo ⟨h.1, h.2.1, h1⟩, decide_eq_false (show ¬ (p.1 ≤ (A.length : Int) ∧ (A.length : Int) ≤ p.2) by omega)]
    simp
  · by_cases h2 : (A.length : Int) < p.1
    · rw [sl_hi h2, sl_hi h2, decide_eq_false (show ¬ (p.1 ≤ (A.length : Int) ∧ (A.length : Int) ≤ p.2) by omega)]
      simp
    · rw [sl_mid ⟨h.1, by omega, by omega⟩, sl_mid ⟨h.1, by omega, by omega⟩, decide_eq_true (show (p.1 ≤ (A.length : Int) ∧ (A.length : Int) ≤ p.2) by omega), minL_up]
      simp
theorem win_down {A B : List Int} {x : Int} {p : Int × Int} (h : okS (A ++ x :: B).length p = true) : minL (slL (A ++ (x + -1) :: B) p) = minL (slL (A ++ x :: B) p) - if lowAt (A ++ x :: B) A.length p = true then 1 else 0 := by
  unfold okS at h
  rw [decide_eq_true_eq, List.length_append, List.length_cons] at h
  have e0 : (A ++ x :: B)[A.length]? = some x := by simp
  unfold lowAt inW
  rw [e0]
  by_cases h1 : p.2 < (A.length : Int)
  · rw [sl_lo ⟨h.1, h.2.1, h1⟩, sl_lo ⟨h.1, h.2.1, h1⟩, decide_eq_false (show ¬ (p.1 ≤ (A.length : Int) ∧ (A.length : Int) ≤ p.2) by omega)]
    simp
  · by_cases h2 : (A.length : Int) < p.1
    · rw [sl_hi h2, sl_hi h2, decide_eq_false (show ¬ (p.1 ≤ (A.length : Int) ∧ (A.length : Int) ≤ p.2) by omega)]
      simp
    · rw [sl_mid ⟨h.1, by omega, by omega⟩, sl_mid ⟨h.1, by omega, by omega⟩, decide_eq_true (show (p.1 ≤ (A.length : Int) ∧ (A.length : Int) ≤ p.2) by omega), minL_down]
      simp
theorem cost_up {F : List Int} {h : Nat} (hh : h < F.length) {L : Ps} (hL : ∀ p ∈ L, okS F.length p.1 = true) : costI L (chg F h 1) = costI L F + sumIf (upB F h) L := by
  have e : F = F.take h ++ F[h] :: F.drop (h + 1) := by rw [List.getElem_cons_drop, List.take_append_drop]
  have e2 : (F.take h).length = h := by rw [List.length_take]; omega
  generalize F.take h = A at e e2
  generalize F[h] = x at e
  generalize F.drop (h + 1) = B at e
  subst e
  subst e2
  rw [chg_eq]
  clear hh
  induction L with
  | nil => rfl
  | cons p L ih =>
    have ih := ih fun q hq => hL q (List.mem_cons_of_mem _ hq)
    unfold costI sumIf at ih ⊢
    rw [List.map_cons, List.map_cons, List.map_cons, List.sum_cons, List.sum_cons, List.sum_cons, ih, win_up (hL p List.mem_cons_self), Int.mul_add]
    split <;> omega
theorem cost_down {F : List Int} {h : Nat} (hh : h < F.length) {L : Ps} (hL : ∀ p ∈ L, okS F.length p.1 = true) : costI L (chg F h (-1)) = costI L F - sumIf (lowAt F h) L := by
  have e : F = F.take h ++ F[h] :: F.drop (h + 1) := by rw [List.getElem_cons_drop, List.take_append_drop]
  have e2 : (F.take h).length = h := by rw [List.length_take]; omega
  generalize F.take h = A at e e2
  generalize F[h] = x at e
  generalize F.drop (h + 1) = B at e
  subst e
  subst e2
  rw [chg_eq]
  clear hh
  induction L with
  | nil => rfl
  | cons p L ih =>
    have ih := ih fun q hq => hL q (List.mem_cons_of_mem _ hq)
    unfold costI sumIf at ih ⊢
    rw [List.map_cons, List.map_cons, List.map_cons, List.sum_cons, List.sum_cons, List.sum_cons, ih, win_down (hL p List.mem_cons_self), Int.mul_sub]
    split <;> omega
end Lib
end
section
namespace Lib
open Ev L2
/-! ### running slices, comparisons of three, wide products -/
theorem ev_slI {cf : CF} {a lo hi : E} {e e1 e2 e3 : Env} {d z : D} {l k : Int} (h1 : ev cf a e = .ok d e1) (hl : isAbs lo = false) (h2 : ev cf lo e1 = .ok (.int l) e2) (hh : isAbs hi = false) (h3 : ev cf hi e2 = .ok (.int k) e3) (h4 : slice d (some l) (some k) = some z) : ev cf (.sl a lo hi) e = .ok z e3 := by
  show ((ev cf a e).bind fun x e => (if isAbs lo = true then R.ok none e else optI (ev cf lo e)).bind fun l e => (if isAbs hi = true then R.ok none e else optI (ev cf hi e)).bind fun h e => lift (slice x l h) e) = _
  rw [h1, bind_ok, hl, if_neg (by decide), h2]
  show ((if isAbs hi = true then R.ok none e2 else optI (ev cf hi e2)).bind fun h e => lift (slice d (some l) h) e) = _
  rw [hh, if_neg (by decide), h3]
  show lift (slice d (some l) (some k)) e3 = _
  rw [h4]
  rfl
theorem ev_and {cf : CF} {A B : E} {e : Env} {k1 k2 : Bool} (h1 : ev cf A e = .ok (.bl k1) e) (h2 : ev cf B e = .ok (.bl k2) e) : ev cf (.band (.cons A (.cons B .nil))) e = .ok (.bl (k1 && k2)) e := by
  show ((ev cf A e).bind fun x e => (lift (truthy x) e).bind fun b e => if b = true then ((ev cf B e).bind fun x e => R.ok x e) else .ok x e) = _
  rw [h1, bind_ok, t_bl, lift_some, bind_ok]
  cases k1
  · rw [if_neg (by decide)]
    rfl
  · rw [if_pos rfl, h2, bind_ok]
    rfl
theorem ev_or {cf : CF} {A B : E} {e : Env} {k1 k2 : Bool} (h1 : ev cf A e = .ok (.bl k1) e) (h2 : ev cf B e = .ok (.bl k2) e) : ev cf (.bor (.cons A (.cons B .nil))) e = .ok (.bl (k1 || k2)) e := by
  show ((ev cf A e).bind fun x e => (lift (truthy x) e).bind fun b e => if b = false then ((ev cf B e).bind fun x e => R.ok x e) else .ok x e) = _
  rw [h1, bind_ok, t_bl, lift_some, bind_ok]
  cases k1
  · rw [if_pos rfl, h2, bind_ok]
    rfl
  · rw [if_neg (by decide)]
    rfl
theorem ev_not {cf : CF} {A : E} {e e1 : Env} {k : Bool} (h : ev cf A e = .ok (.bl k) e1) : ev cf (.not A) e = .ok (.bl (!k)) e1 := by
  show ((ev cf A e).bind fun x e => (lift (truthy x) e).bind fun k e => R.ok (D.bl (!k)) e) = _
  rw [h]
  rfl
theorem ev_cmp2 {cf : CF} {o1 o2 : C2} {a b c : E} {e : Env} {x y z : D} {k1 k2 : Bool} (h1 : ev cf a e = .ok x e) (h2 : ev cf b e = .ok y e) (h3 : ev cf c e = .ok z e) (q1 : cmpop o1 x y = some k1) (q2 : cmpop o2 y z = some k2) : ev cf (.cmp2 o1 o2 a b c) e = .ok (.bl (k1 && k2)) e := by
  show ((ev cf a e).bind fun x e => (ev cf b e).bind fun y e => (lift (cmpop o1 x y) e).bind fun k e => if k = true then (ev cf c e).bind fun z e => (lift (cmpop o2 y z) e).bind fun k e => R.ok (D.bl k) e else R.ok (D.bl false) e) = _
  rw [h1, bind_ok, h2, bind_ok, q1, lift_some, bind_ok]
  cases k1
  · rw [if_neg (by decide)]
    rfl
  · rw [if_pos rfl, h3, bind_ok, q2]
    rfl
theorem ev_ixI {cf : CF} {a k : E} {e e1 e2 : Env} {x z : D} {i : Int} (h1 : ev cf a e = .ok x e1) (h2 : ev cf k e1 = .ok (.int i) e2) (h3 : item x (.int i) = some z) : ev cf (.ix a k) e = .ok z e2 := by
  show ((ev cf a e).bind fun x e => (ev cf k e).bind fun y e => lift (item x y) e) = _
  rw [h1, bind_ok, h2, bind_ok, h3]
  rfl
theorem wide_gt : (10 : Nat) ^ 60 < wide := by decide +kernel
def midI (i : Int) : Prop := -(10 ^ 60) < i ∧ i < 10 ^ 60
theorem mulW {i j : Int} (hi : midI i) (hj : midI j) : binop .mul (.int i) (.int j) = some (.int (i * j)) := if_pos (.inr ⟨by have := wide_gt; have := hi.1; have := hi.2; omega, by have := wide_gt; have := hj.1; have := hj.2; omega⟩)
theorem item_F (b : Bool) {F : List Int} {h : Nat} {x : Int} (hx : F[h]? = some x) : item (mkB b (F.map D.int)) (.int h) = some (.int x) := by
  rw [mk_item, atI_in ⟨by omega, by rw [List.length_map]; have := (List.getElem?_eq_some_iff.mp hx).1; omega⟩, Int.toNat_natCast, List.getElem?_map, hx]
  rfl
/-! ### one price changed -/
def dChg : Def := ⟨3, 5, false, false, (.cons (.ret (.bi .tuple (.lc (.ite (.cmp .eq (.v 3) (.v 1)) (.bin .add (.v 4) (.v 2)) (.v 4)) (.tp (.cons (.nm 3) (.cons (.nm 4) .nil))) (.enum (.v 0)) .absent [3, 4]))) .nil), 0⟩
theorem evI_enum {cf : CF} {a : E} {e e1 : Env} {b : Bool} {F : List Int} (h : ev cf a e = .ok (mkB b (F.map D.int)) e1) : evI cf (.enum a) e = .ok (F.zipIdx.map fun p => D.tup [.int (p.2 : Nat), .int p.1]) e1 := by
  show ((ev cf a e).bind fun x e => match x with | .lst xs => R.ok (enumD 0 xs) e | .tup xs => R.ok (enumD 0 xs) e | _ => .no) = _
  rw [h, ← enum_zip]
  cases b <;> rfl
theorem chg_map (F : List Int) (h : Nat) (c : Int) : (chg F h c).map D.int = F.zipIdx.map fun p => D.int (if p.2 = h then p.1 + c else p.1) := by
  unfold chg
  rw [List.map_map]
  rfl
theorem chg_spec {defs : List Def} {i : Nat} (hd : defs[i]? = some dChg) (n : Nat) (b : Bool) {F : List Int} (hF : F.length ≤ 1000) (h : Nat) (c : Int) : callF defs (n + 1) i none [mkB b (F.map D.int), .int h, .int c] = .ok (.tup ((chg F h c).map D.int)) [] := by
  have sz := thousand
  rw [call_d hd ⟨rfl, rfl, by decide, rfl⟩]
  generalize callF defs n = cf
  show fin false false (ex cf (.cons (.ret _) .nil) [.va (mkB b (F.map D.int)), .va (.int h), .va (.int c), .em, .em]) = _
  have q := ev_lcm (cf := cf) (el := .ite (.cmp .eq (.v 3) (.v 1)) (.bin .add (.v 4) (.v 2)) (.v 4)) (it := .enum (.v 0)) (t := .tp (.cons (.nm 3) (.cons (.nm 4) .nil))) (own := [3, 4]) (e := [.va (mkB b (F.map D.int)), .va (.int h), .va (.int c), .em, .em]) (xs := F.zipIdx) (h := fun p => D.tup [.int (p.2 : Nat), .int p.1]) (g := fun p => D.int (if p.2 = h then p.1 + c else p.1)) (evI_enum (b := b) rfl) rfl rfl (by rw [List.length_zipIdx]; omega) fun p hp => by
    refine ⟨[.va (mkB b (F.map D.int)), .va (.int h), .va (.int c), .va (.int (p.2 : Nat)), .va (.int p.1)], [.va (mkB b (F.map D.int)), .va (.int h), .va (.int c), .va (.int (p.2 : Nat)), .va (.int p.1)], rfl, ?_, rfl⟩
    have c1 := ev_cmp (cf := cf) (op := .eq) (a := .v 3) (b := .v 1) (e := [.va (mkB b (F.map D.int)), .va (.int h), .va (.int c), .va (.int (p.2 : Nat)), .va (.int p.1)]) (x := .int (p.2 : Nat)) (y := .int h) rfl rfl c_eq
    rw [ev_ite c1]
    by_cases z : p.2 = h
    · rw [if_pos (decide_eq_true (show ((p.2 : Nat) : Int) = (h : Int) by omega)), if_pos z]
      exact ev_bin (x := .int p.1) (y := .int c) rfl rfl b_add
    · rw [if_neg (fun w => z (by have := of_decide_eq_true w; omega)), if_neg z]
      rfl
  rw [← chg_map] at q
  have go : ex cf (.cons (.ret (.bi .tuple (.lc (.ite (.cmp .eq (.v 3) (.v 1)) (.bin .add (.v 4) (.v 2)) (.v 4)) (.tp (.cons (.nm 3) (.cons (.nm 4) .nil))) (.enum (.v 0)) .absent [3, 4]))) .nil) [.va (mkB b (F.map D.int)), .va (.int h), .va (.int c), .em, .em] = .rt (.tup ((chg F h c).map D.int)) _ := ex_rt (ex_ret (ev_bi q rfl))
  rw [go]
  rfl
/-! ### the hour is there, the numbers fit -/
def dNeedH (c mk : Nat) : Def := ⟨2, 2, false, false, (.cons (.ite (.not (.cmp2 .le .lt (.ci 0) (.v 1) (.v 0))) (.cons (.rais c mk (.cons (.v 1) .nil)) .nil) .nil) .nil), 0⟩
theorem needH_spec {defs : List Def} {i c mk : Nat} (hd : defs[i]? = some (dNeedH c mk)) (n : Nat) {s h : Nat} (hh : h < s) : callF defs (n + 1) i none [.int s, .int h] = .ok .non [] := by
  rw [call_d hd ⟨rfl, rfl, by show 2 ≤ 2; decide, rfl⟩]
  generalize callF defs n = cf
  show fin false false (ex cf (.cons (.ite _ _ .nil) .nil) [.va (.int s), .va (.int h)]) = _
  have q := ev_not (ev_cmp2 (cf := cf) (o1 := .le) (o2 := .lt) (a := .ci 0) (b := .v 1) (c := .v 0) (e := [.va (.int s), .va (.int h)]) (x := .int 0) (y := .int h) (z := .int s) rfl rfl rfl c_le c_lt)
  rw [decide_eq_true (show (0 : Int) ≤ (h : Int) by omega), decide_eq_true (show (h : Int) < (s : Int) by omega)] at q
  have go : ex cf (.cons (.ite (.not (.cmp2 .le .lt (.ci 0) (.v 1) (.v 0))) (.cons (.rais c mk (.cons (.v 1) .nil)) .nil) .nil) .nil) [.va (.int s), .va (.int h)] = .nx _ := (ex_nx ((ex_ite q).trans rfl)).trans rfl
  rw [go]
  rfl
def dFit (c mk : Nat) : Def := ⟨2, 2, false, false, (.cons (.ite (.cmp .ne (.bi .len (.v 1)) (.ix (.v 0) (.ci 0))) (.cons (.rais c mk .nil) .nil) .nil) .nil), 0⟩
theorem len_mk (b : Bool) (xs : List D) : builtin .len (mkB b xs) = some (.int xs.length) := by cases b <;> rfl
theorem ix0L {cf : CF} {i : Nat} {e : Env} {b : Bool} {s : Nat} {L : Ps} (h : getS e i = .va (lotM b s L)) : ev cf (.ix (.v i) (.ci 0)) e = .ok (.int s) e := ev_ixI (ev_name h) (i := 0) rfl (by unfold lotM; rw [mk_item]; rfl)
theorem ix1L {cf : CF} {i : Nat} {e : Env} {b : Bool} {s : Nat} {L : Ps} (h : getS e i = .va (lotM b s L)) : ev cf (.ix (.v i) (.ci 1)) e = .ok (mkB b (L.map (encM b))) e := ev_ixI (ev_name h) (i := 1) rfl (by unfold lotM; rw [mk_item]; rfl)
theorem fit_spec {defs : List Def} {i c mk : Nat} (hd : defs[i]? = some (dFit c mk)) (n : Nat) (b b' : Bool) (L : Ps) (F : List Int) : callF defs (n + 1) i none [lotM b F.length L, mkB b' (F.map D.int)] = .ok .non [] := by
  rw [call_d hd ⟨rfl, rfl, by show 2 ≤ 2; decide, rfl⟩]
  generalize callF defs n = cf
  show fin false false (ex cf (.cons (.ite _ _ .nil) .nil) [.va (lotM b F.length L), .va (mkB b' (F.map D.int))]) = _
  have q := ev_cmp (cf := cf) (op := .ne) (a := .bi .len (.v 1)) (e := [.va (lotM b F.length L), .va (mkB b' (F.map D.int))]) (ev_bi (a := .v 1) rfl (len_mk b' _)) (ix0L (i := 0) (b := b) (L := L) rfl) c_ne
  rw [List.length_map, decide_eq_true rfl] at q
  have go : ex cf (.cons (.ite (.cmp .ne (.bi .len (.v 1)) (.ix (.v 0) (.ci 0))) (.cons (.rais c mk .nil) .nil) .nil) .nil) [.va (lotM b F.length L), .va (mkB b' (F.map D.int))] = .nx _ := (ex_nx ((ex_ite q).trans rfl)).trans rfl
  rw [go]
  rfl
/-! ### the cheapest -/
def lcCheap : E := .lc (.bin .mul (.v 4) (.bi .min (.sl (.v 1) (.v 2) (.bin .add (.v 3) (.ci 1))))) (.tp (.cons (.tp (.cons (.nm 2) (.cons (.nm 3) .nil))) (.cons (.nm 4) .nil))) (.seq (.ix (.v 0) (.ci 1))) .absent [2, 3, 4]
def dCheap (ifit : Nat) : Def := ⟨2, 5, false, false, (.cons (.exp (.call ifit (.cons (.v 0) (.cons (.v 1) .nil)))) (.cons (.ret (.bi .sum lcCheap)) .nil)), 0⟩
structure Good (F : List Int) (L : Ps) : Prop where
  ok : ∀ p ∈ L, okS F.length p.1 = true
  w : ∀ p ∈ L, midI p.2
  f : ∀ x ∈ F, midI x
  l : L.length ≤ 1000
theorem slL_sub {F : List Int} {p : Int × Int} {x : Int} (h : x ∈ slL F p) : x ∈ F := List.mem_of_mem_drop (List.mem_of_mem_take h)
theorem minL_mid {F : List Int} {L : Ps} (G : Good F L) {p : (Int × Int) × Int} (hp : p ∈ L) : midI (minL (slL F p.1)) := G.f _ (slL_sub (minL_is (sl_ne (G.ok p hp))).1)
theorem ex_exp {cf : CF} {a : E} {e e1 : Env} {d : D} (h : ev cf a e = .ok d e1) : ex cf (.exp a) e = .nx e1 := by
  show ((ev cf a e).thn fun _ e => RS.nx e) = _
  rw [h]
  rfl
theorem cheap_spec {defs : List Def} {i ifit c mk : Nat} (hd : defs[i]? = some (dCheap ifit)) (hf : defs[ifit]? = some (dFit c mk)) (n : Nat) (b b' : Bool) {L : Ps} {F : List Int} (G : Good F L) : callF defs (n + 2) i none [lotM b F.length L, mkB b' (F.map D.int)] = .ok (.int (costI L F)) [] := by
  have sz := thousand
  rw [call_d hd ⟨rfl, rfl, by show 2 ≤ 5; decide, rfl⟩]
  have c3 := fit_spec hf n b b' L F
  generalize callF defs (n + 1) = cf at c3 ⊢
  show fin false false (ex cf (.cons (.exp (.call ifit (.cons (.v 0) (.cons (.v 1) .nil)))) (.cons (.ret (.bi .sum lcCheap)) .nil)) [.va (lotM b F.length L), .va (mkB b' (F.map D.int)), .em, .em, .em]) = _
  have st0 : ex cf (.exp (.call ifit (.cons (.v 0) (.cons (.v 1) .nil)))) [.va (lotM b F.length L), .va (mkB b' (F.map D.int)), .em, .em, .em] = .nx [.va (lotM b F.length L), .va (mkB b' (F.map D.int)), .em, .em, .em] := ex_exp (ev_call (ds := [lotM b F.length L, mkB b' (F.map D.int)]) rfl c3)
  have q : ev cf lcCheap [.va (lotM b F.length L), .va (mkB b' (F.map D.int)), .em, .em, .em] = _ := ev_lcm (cf := cf) (t := .tp (.cons (.tp (.cons (.nm 2) (.cons (.nm 3) .nil))) (.cons (.nm 4) .nil))) (own := [2, 3, 4]) (e := [.va (lotM b F.length L), .va (mkB b' (F.map D.int)), .em, .em, .em]) (xs := L) (h := encM b) (g := fun p => D.int (p.2 * minL (slL F p.1))) (evI_seq (ix1L (b := b) (s := F.length) rfl) (mk_items b _)) rfl rfl (by have := G.l; omega) fun p hp => by
    refine ⟨[.va (lotM b F.length L), .va (mkB b' (F.map D.int)), .va (.int p.1.1), .va (.int p.1.2), .va (.int p.2)], [.va (lotM b F.length L), .va (mkB b' (F.map D.int)), .va (.int p.1.1), .va (.int p.1.2), .va (.int p.2)], by cases b <;> rfl, ?_, rfl⟩
    have s1 := ev_slI (cf := cf) (a := .v 1) (lo := .v 2) (hi := .bin .add (.v 3) (.ci 1)) (e := [.va (lotM b F.length L), .va (mkB b' (F.map D.int)), .va (.int p.1.1), .va (.int p.1.2), .va (.int p.2)]) (d := mkB b' (F.map D.int)) (l := p.1.1) (k := p.1.2 + 1) rfl rfl rfl rfl rfl (sliceD b' (G.ok p hp))
    exact ev_bin (a := .v 4) (x := .int p.2) rfl (ev_bi s1 (bi_min b' (sl_ne (G.ok p hp)))) (mulW (G.w p hp) (minL_mid G hp))
  have go : ex cf (.cons (.exp (.call ifit (.cons (.v 0) (.cons (.v 1) .nil)))) (.cons (.ret (.bi .sum lcCheap)) .nil)) [.va (lotM b F.length L), .va (mkB b' (F.map D.int)), .em, .em, .em] = .rt (.int (costI L F)) _ := (ex_nx st0).trans (ex_rt (ex_ret (ev_bi q (sum_map _ L))))
  rw [go]
  rfl
/-! ### some hands, by draws -/
def bHands (it : Nat) : S := (.cons (.asgo 3 (.lst .nil))
    (.cons (.for_ (.nm 4) (.range1 (.v 1))
    (.cons (.app 3 (.ite (.cmp .gt (.callo it 0 (.cons (.ci 4) .nil)) (.ci 0)) (.callo it 0 (.cons (.bin .add (.v 2) (.ci 1)) .nil)) (.ci 0)))
    .nil))
    (.cons (.ret (.bi .tuple (.v 3)))
    .nil)))
def dHands (it : Nat) : Def := ⟨3, 5, true, false, bHands it, 0⟩
def BH (it : Nat) : S := forB (nthS (bHands it) 1)
theorem loopH {cf : CF} {it : Nat} {top : Int} (ht : ∀ {bs : List D} {c w : Int}, Box bs c → c < 1000000 → 0 < w → w < 10 ^ 50 → ∃ (r : Int) (bs' : List D), 0 ≤ r ∧ r < w ∧ Box bs' (c + 1) ∧ cf it (some bs) [.int w] = .ok (.int r) bs') (h0 : 0 ≤ top ∧ top < 10 ^ 49) {x1 : Sl} :
    ∀ (xs : List D) (F0 : List Int) (bs : List D) (c : Int) (s4 : Sl), Box bs c → c + 2 * xs.length < 900000 → F0.length + xs.length ≤ 1000 → ∃ (F : List Int) (bs' : List D) (t4 : Sl), Box bs' (c + 2 * xs.length) ∧ F.length = xs.length ∧ (∀ x ∈ F, 0 ≤ x ∧ x < 10 ^ 50) ∧
    loopS (fun e => ex cf (BH it) e) (.nm 4) xs [.ow bs, x1, .va (.int top), .ow (F0.map D.int), s4] = .nx [.ow bs', x1, .va (.int top), .ow ((F0 ++ F).map D.int), t4]
  | [], F0, bs, c, s4, hb, hc, hl => ⟨[], bs, s4, hb.mono (by simp), rfl, (fun _ h => nomatch h), by rw [List.append_nil]; rfl⟩
  | x :: xs, F0, bs, c, s4, hb, hc, hl => by
    have sz := thousand
    rw [List.length_cons] at hc hl
    have body : ∃ (r : Int) (bs1 : List D), (0 ≤ r ∧ r < 10 ^ 50) ∧ Box bs1 (c + 2) ∧ ex cf (BH it) [.ow bs, x1, .va (.int top), .ow (F0.map D.int), .va x] = .nx [.ow bs1, x1, .va (.int top), .ow ((F0 ++ [r]).map D.int), .va x] := by
      obtain ⟨r, bs1, g1, g2, g3, g4⟩ := ht hb (by omega) (w := 4) (by decide) (by decide)
      have a1 := ev_callo (cf := cf) (f := it) (i := 0) (as := .cons (.ci 4) .nil) (xs := bs) (e := [.ow bs, x1, .va (.int top), .ow (F0.map D.int), .va x]) (e1 := [.ow bs, x1, .va (.int top), .ow (F0.map D.int), .va x]) rfl rfl rfl g4
      have c1 := ev_cmp (cf := cf) (op := .gt) (b := .ci 0) (y := .int 0) a1 rfl c_gt
      have app : ∀ {v : E} {r' : Int} {bs2 : List D}, ev cf v [.ow bs, x1, .va (.int top), .ow (F0.map D.int), .va x] = .ok (.int r') [.ow bs2, x1, .va (.int top), .ow (F0.map D.int), .va x] → ex cf (.cons (.app 3 v) .nil) [.ow bs, x1, .va (.int top), .ow (F0.map D.int), .va x] = .nx [.ow bs2, x1, .va (.int top), .ow ((F0 ++ [r']).map D.int), .va x] := by
        intro v r' bs2 hv
        have e1 : (F0.map D.int).length < PySem.sizeLine := by rw [List.length_map]; omega
        have e2 : F0.length < PySem.sizeLine := by omega
        simp [ex, hv, e1, e2]
      by_cases hr : 0 < r
      · obtain ⟨r2, bs2, k1, k2, k3, k4⟩ := ht g3 (by omega) (w := top + 1) (by omega) (by omega)
        refine ⟨r2, bs2, ⟨k1, by omega⟩, k3.mono (by omega), app ?_⟩
        rw [ev_ite c1, if_pos (decide_eq_true hr)]
        exact ev_callo (f := it) (i := 0) (as := .cons (.bin .add (.v 2) (.ci 1)) .nil) (xs := bs1) (e1 := [.ow bs1, x1, .va (.int top), .ow (F0.map D.int), .va x]) (ds := [.int (top + 1)]) rfl rfl rfl k4
      · refine ⟨0, bs1, ⟨by omega, by decide⟩, g3.mono (by omega), app ?_⟩
        rw [ev_ite c1, if_neg (fun z => hr (of_decide_eq_true z))]
        rfl
    obtain ⟨r, bs1, b1, b2, b3⟩ := body
    obtain ⟨F, bs', t4, k1, k2, k3, k4⟩ := loopH ht h0 xs (F0 ++ [r]) bs1 (c + 2) (.va x) b2 (by omega) (by rw [List.length_append, List.length_singleton]; omega)
    refine ⟨r :: F, bs', t4, k1.mono (by rw [List.length_cons]; omega), by rw [List.length_cons, List.length_cons, k2], fun y hy => ?_, ?_⟩
    · rcases List.mem_cons.mp hy with rfl | hy
      · exact b1
      · exact k3 y hy
    · rw [loop_nx (e1 := [.ow bs, x1, .va (.int top), .ow (F0.map D.int), .va x]) rfl b3, k4, List.append_assoc]
      rfl
theorem hands_spec {defs : List Def} {i it : Nat} (hd : defs[i]? = some (dHands it)) (ht : defs[it]? = some dTake) (n s : Nat) (hs : s ≤ 400) {top : Int} (h0 : 0 ≤ top ∧ top < 10 ^ 49) {bs : List D} {c : Int} (hb : Box bs c) (hc : c < 800000) : ∃ (F : List Int) (bs' : List D), Box bs' (c + 1000) ∧ F.length = s ∧ (∀ x ∈ F, 0 ≤ x ∧ x < 10 ^ 50) ∧ callF defs (n + 2) i (some bs) [.int s, .int top] = .ok (.tup (F.map D.int)) bs' := by
  have sz := thousand
  obtain ⟨F, bs', t4, k1, k2, k3, k4⟩ := loopH (cf := callF defs (n + 1)) (it := it) (fun {bs c w} hb hc h1 h2 => take_spec ht n hb (by omega) h1 h2) h0 (x1 := .va (.int s)) (rangeD 0 s) [] bs c .em hb (by rw [range_len]; omega) (by rw [range_len]; simp; omega)
  rw [range_len] at k1 k2
  refine ⟨F, bs', k1.mono (by omega), k2, k3, ?_⟩
  rw [call_d hd ⟨rfl, rfl, by show 3 ≤ 5; decide, rfl⟩]
  show fin true false (ex (callF defs (n + 1)) (bHands it) [.ow bs, .va (.int s), .va (.int top), .em, .em]) = _
  generalize callF defs (n + 1) = cf at k4 ⊢
  have hv := range1_of (cf := cf) (a := .v 1) (e := [.ow bs, .va (.int s), .va (.int top), .ow (.l []), .em]) (i := (s : Int)) rfl (by omega)
  rw [Int.toNat_natCast] at hv
  have st1 : ex cf (nthS (bHands it) 1) [.ow bs, .va (.int s), .va (.int top), .ow (.l []), .em] = .nx [.ow bs', .va (.int s), .va (.int top), .ow (F.map D.int), t4] := (ex_for hv).trans k4
  have go : ex cf (bHands it) [.ow bs, .va (.int s), .va (.int top), .em, .em] = .rt (.tup (F.map D.int)) [.ow bs', .va (.int s), .va (.int top), .va (.lst (F.map D.int)), t4] := (ex_nx (e' := [.ow bs, .va (.int s), .va (.int top), .ow (.l []), .em]) rfl).trans ((ex_nx st1).trans (ex_rt (ss := .nil) (ex_ret rfl)))
  rw [go]
  rfl
end Lib
end
section
namespace Lib
open Ev L2
/-! ### a lot's table of works, given back as one's own -/
def bLTable2 (is : Nat) : S := (.cons (.asgo 1 (.dct (.lc (.tup (.cons (.v 2) (.cons (.ci 0) .nil))) (.nm 2) (.seq (.call is (.cons (.ix (.v 0) (.ci 0)) .nil))) .absent [2])))
    (.cons (.for_ (.tp (.cons (.nm 2) (.cons (.nm 3) .nil))) (.seq (.ix (.v 0) (.ci 1)))
    (.cons (.seti 1 (.v 2) (.v 3))
    .nil))
    (.cons (.reto 1)
    .nil)))
def dLTable2 (is : Nat) : Def := ⟨1, 4, false, true, bLTable2 is, 0⟩
theorem table_cf2 {cf : CF} {is s : Nat} (h1 : 1 ≤ s) (h2 : s ≤ 8) {L : Ps} (hL : L.length ≤ 1000) (c : cf is none [.int s] = .ok (.lst ((spansL s).map encS)) []) : fin false true (ex cf (bLTable2 is) [.va (lotD s L), .em, .em, .em]) = .ok (dP (tabL s L)).toD [] := by
  have sz := thousand
  obtain ⟨p1, p2⟩ := spans_ok s h1 h2
  have c1 := ev_call (cf := cf) (f := is) (as := .cons (.ix (.v 0) (.ci 0)) .nil) (e := [.va (lotD s L), .em, .em, .em]) (e1 := [.va (lotD s L), .em, .em, .em]) (ds := [.int s]) (by simp [ev, evs, lotD]) c
  have q := ev_lcm (cf := cf) (el := .tup (.cons (.v 2) (.cons (.ci 0) .nil))) (t := .nm 2) (own := [2]) (xs := spansL s) (h := encS) (g := fun p => D.tup [encS p, .int 0]) (evI_seq c1 rfl) rfl rfl (by omega) fun p hp => ⟨[.va (lotD s L), .em, .va (encS p), .em], [.va (lotD s L), .em, .va (encS p), .em], rfl, ev_tup (evs_cons (a := .v 2) rfl (evs_cons (a := .ci 0) rfl evs_nil)) (by show 2 ≤ _; omega), rfl⟩
  have d := ev_dctS (f := fun _ => 0) (spans_pw s h2).2.1 (by omega) q
  have st0 : ex cf (nthS (bLTable2 is) 0) [.va (lotD s L), .em, .em, .em] = .nx [.va (lotD s L), .ow (dP (tabP (spansL s) fun _ => 0)), .em, .em] := by
    show ((ev cf (.dct _) _).thn fun d e => match d with | .lst xs => RS.nx (e.set 1 (.ow (.l xs))) | .dic ks xs => .nx (e.set 1 (.ow (.d ks xs))) | _ => .no) = _
    rw [d]
    rfl
  have hv : evI cf (.seq (.ix (.v 0) (.ci 1))) [.va (lotD s L), .ow (dP (tabP (spansL s) fun _ => 0)), .em, .em] = .ok (L.map encE) [.va (lotD s L), .ow (dP (tabP (spansL s) fun _ => 0)), .em, .em] := by
    simp [evI, ev, lotD, items?]
  obtain ⟨t2, t3, k⟩ := loopT (cf := cf) (is := is) (x0 := .va (lotD s L)) L (tabP (spansL s) fun _ => 0) .em .em (by unfold tabP; rw [List.length_map]; omega)
  have st1 : ex cf (nthS (bLTable2 is) 1) [.va (lotD s L), .ow (dP (tabP (spansL s) fun _ => 0)), .em, .em] = _ := (ex_for hv).trans k
  have go : ex cf (bLTable2 is) [.va (lotD s L), .em, .em, .em] = .rt (dP (tabL s L)).toD [.va (lotD s L), .em, t2, t3] := (ex_nx st0).trans ((ex_nx st1).trans (ex_rt (ss := .nil) rfl))
  rw [go]
  rfl
theorem ltable2_spec {defs : List Def} {i is : Nat} (hd : defs[i]? = some (dLTable2 is)) (hs : defs[is]? = some dSpans) (n s : Nat) (h1 : 1 ≤ s) (h2 : s ≤ 8) {L : Ps} (hL : L.length ≤ 1000) : callF defs (n + 2) i none [lotD s L] = .ok (dP (tabL s L)).toD [] := by
  rw [call_d hd ⟨rfl, rfl, by show 1 ≤ 4; decide, rfl⟩]
  exact table_cf2 h1 h2 hL (spans hs n s h1 h2)
/-! ### some moves on a table -/
structure TabOk (s : Nat) (P : Ps) : Prop where
  k : KeyOk s P
  e : keysP P = spansL s
theorem TabOk.len {s : Nat} {P : Ps} (h : TabOk s P) (h1 : 1 ≤ s) (h2 : s ≤ 8) : P.length ≤ 36 := by
  have := congrArg List.length h.e
  unfold keysP at this
  rw [List.length_map] at this
  have := (spans_ok s h1 h2).2
  omega
theorem TabOk.put {s : Nat} {P : Ps} (h : TabOk s P) {q : Int × Int} (hq : q ∈ spansL s) (v : Int) : TabOk s (putP P q v) := ⟨h.k.put hq v, by rw [mem_put (by rw [h.e]; exact hq), h.e]⟩
theorem TabOk.mem {s : Nat} {P : Ps} (h : TabOk s P) {q : Int × Int} (hq : q ∈ spansL s) : q ∈ keysP P := by rw [h.e]; exact hq
theorem eq_nil (S : List (Int × Int)) (h : S.length ≤ 1000) : cmpop .eq (.lst (S.map encS)) (.lst []) = some (decide (S = [])) := by
  cases S with
  | nil => rfl
  | cons p S =>
    have hl : D.lay (.lst ((p :: S).map encS)) = true := pl_lay (pl_seq (by rw [List.length_map]; omega) fun x hx => by obtain ⟨q, _, rfl⟩ := List.mem_map.mp hx; rfl).2
    have hd : min (D.lst ((p :: S).map encS)).dep (D.lst []).dep ≤ 64 := Nat.le_trans (Nat.min_le_right _ _) (by decide)
    show (if (D.lay (.lst ((p :: S).map encS)) && D.lay (.lst []) && decide (min (D.lst ((p :: S).map encS)).dep (D.lst []).dep ≤ 64)) = true then some (D.eqv (.lst ((p :: S).map encS)) (.lst [])) else none) = _
    rw [hl, decide_eq_true hd, if_pos (by decide)]
    rfl
theorem ne_enc (p q : Int × Int) : cmpop .ne (encS p) (encS q) = some (!decide (p = q)) := by
  show (cmpop .eq (encS p) (.tup [.int q.1, .int q.2])).map (fun b => !b) = _
  rw [eq_enc]
  rfl
theorem ev_mm {cf : CF} {mx : Bool} {a b : E} {e e1 e2 : Env} {i j : Int} (h1 : ev cf a e = .ok (.int i) e1) (h2 : ev cf b e1 = .ok (.int j) e2) : ev cf (.mm mx a b) e = .ok (.int (if mx then (if j > i then j else i) else if j < i then j else i)) e2 := by
  show ((ev cf a e).bind fun x e => (ev cf b e).bind fun y e => match x, y with
    | .int i, .int j => R.ok (D.int (if mx then (if j > i then j else i) else if j < i then j else i)) e
    | _, _ => .no) = _
  rw [h1, bind_ok, h2, bind_ok]
theorem ev_and3 {cf : CF} {A B C : E} {e : Env} {k1 k2 k3 : Bool} (h1 : ev cf A e = .ok (.bl k1) e) (h2 : ev cf B e = .ok (.bl k2) e) (h3 : ev cf C e = .ok (.bl k3) e) : ev cf (.band (.cons A (.cons B (.cons C .nil)))) e = .ok (.bl (k1 && (k2 && k3))) e := by
  show ((ev cf A e).bind fun x e => (lift (truthy x) e).bind fun b e => if b = true then ((ev cf B e).bind fun x e => (lift (truthy x) e).bind fun b e => if b = true then ((ev cf C e).bind fun x e => R.ok x e) else .ok x e) else .ok x e) = _
  rw [h1, bind_ok, t_bl, lift_some, bind_ok]
  cases k1
  · rw [if_neg (by decide)]
    rfl
  · rw [if_pos rfl, h2, bind_ok, t_bl, lift_some, bind_ok]
    cases k2
    · rw [if_neg (by decide)]
      rfl
    · rw [if_pos rfl, h3, bind_ok]
      rfl
def bMoved (it io is itb imd : Nat) : S := (.cons (.par 3 4 true false (.call itb (.cons (.v 1) .nil)) (.bin .sub (.ix (.v 1) (.ci 0)) (.ci 1)))
    (.cons (.for_ (.nm 5) (.range1 (.v 2))
    (.cons (.asg (.nm 6) (.lc (.v 7) (.nm 7) (.seq (.srto 3)) (.cmp .gt (.ixo 3 (.v 7)) (.ci 0)) [7]))
    (.cons (.asg (.nm 8) (.callo it 0 (.cons (.ci 5) .nil)))
    (.cons (.ite (.bor (.cons (.cmp .eq (.v 6) (.lst .nil)) (.cons (.cmp .eq (.v 8) (.ci 0)) .nil)))
    (.cons (.asg (.nm 7) (.callo io 0 (.cons (.call is (.cons (.ix (.v 1) (.ci 0)) .nil)) .nil)))
    (.cons (.seti 3 (.v 7) (.bin .add (.bin .add (.ixo 3 (.v 7)) (.ci 1)) (.callo it 0 (.cons (.ci 2) .nil))))
    .nil))
    (.cons (.ite (.cmp .eq (.v 8) (.ci 1))
    (.cons (.asg (.nm 7) (.callo io 0 (.cons (.v 6) .nil)))
    (.cons (.seti 3 (.v 7) (.bin .sub (.ixo 3 (.v 7)) (.ci 1)))
    .nil))
    (.cons (.ite (.cmp .eq (.v 8) (.ci 2))
    (.cons (.asg (.nm 7) (.callo io 0 (.cons (.v 6) .nil)))
    (.cons (.asg (.nm 9) (.tup (.cons (.mm true (.ci 0) (.bin .sub (.ix (.v 7) (.ci 0)) (.callo it 0 (.cons (.ci 2) .nil)))) (.cons (.mm false (.v 4) (.bin .add (.ix (.v 7) (.ci 1)) (.callo it 0 (.cons (.ci 2) .nil)))) .nil))))
    (.cons (.seti 3 (.v 7) (.bin .sub (.ixo 3 (.v 7)) (.ci 1)))
    (.cons (.seti 3 (.v 9) (.bin .add (.ixo 3 (.v 9)) (.ci 1)))
    .nil))))
    (.cons (.par 10 11 false false (.callo io 0 (.cons (.v 6) .nil)) (.callo io 0 (.cons (.v 6) .nil)))
    (.cons (.ite (.band (.cons (.cmp .ne (.v 10) (.v 11)) (.cons (.cmp .le (.ix (.v 10) (.ci 0)) (.ix (.v 11) (.ci 1))) (.cons (.cmp .le (.ix (.v 11) (.ci 0)) (.ix (.v 10) (.ci 1))) .nil))))
    (.cons (.par 12 9 false false (.tup (.cons (.ix (.v 10) (.ci 0)) (.cons (.ix (.v 11) (.ci 1)) .nil))) (.tup (.cons (.ix (.v 11) (.ci 0)) (.cons (.ix (.v 10) (.ci 1)) .nil))))
    (.cons (.for_ (.tp (.cons (.nm 7) (.cons (.nm 13) .nil))) (.seq (.tup (.cons (.tup (.cons (.v 10) (.cons (.neg (.ci 1)) .nil))) (.cons (.tup (.cons (.v 11) (.cons (.neg (.ci 1)) .nil))) (.cons (.tup (.cons (.v 12) (.cons (.ci 1) .nil))) (.cons (.tup (.cons (.v 9) (.cons (.ci 1) .nil))) .nil))))))
    (.cons (.seti 3 (.v 7) (.bin .add (.ixo 3 (.v 7)) (.v 13)))
    .nil))
    .nil))
    .nil)
    .nil)))
    .nil))
    .nil))
    .nil))))
    (.cons (.ret (.call imd (.cons (.ix (.v 1) (.ci 0)) (.cons (.v 3) .nil))))
    .nil)))
def dMoved (it io is itb imd : Nat) : Def := ⟨3, 14, true, false, bMoved it io is itb imd, 0⟩
def iteT : S → S
  | .ite _ a _ => a
  | _ => .nil
def iteE : S → S
  | .ite _ _ b => b
  | _ => .nil
def BV (it io is itb imd : Nat) : S := forB (nthS (bMoved it io is itb imd) 1)
def BV2 (it io is itb imd : Nat) : S := nthS (BV it io is itb imd) 2
def BVE (it io is itb imd : Nat) : S := nthS (iteE (BV2 it io is itb imd)) 0
def BVF (it io is itb imd : Nat) : S := nthS (iteE (BVE it io is itb imd)) 0
def BVX (it io is itb imd : Nat) : S := nthS (iteE (BVF it io is itb imd)) 1
abbrev MV (bs : List D) (s : Nat) (L : Ps) (k : Int) (P : Ps) (x5 x6 x7 x8 x9 x10 x11 x12 x13 : Sl) : Env := [.ow bs, .va (lotD s L), .va (.int k), .ow (dP P), .va (.int ((s : Int) - 1)), x5, x6, x7, x8, x9, x10, x11, x12, x13]
structure Mh (cf : CF) (it io is s : Nat) : Prop where
  take : ∀ {bs : List D} {c w : Int}, Box bs c → c < 900000 → 0 < w → w < 10 ^ 40 → ∃ (r : Int) (bs' : List D), 0 ≤ r ∧ r < w ∧ Box bs' (c + 1) ∧ cf it (some bs) [.int w] = .ok (.int r) bs'
  of : ∀ {bs ps : List D} {c : Int}, Box bs c → c < 900000 → 0 < ps.length → ps.length ≤ 1000 → ∃ (d : D) (bs' : List D), d ∈ ps ∧ Box bs' (c + 1) ∧ cf io (some bs) [.lst ps] = .ok d bs'
  spans : cf is none [.int s] = .ok (.lst ((spansL s).map encS)) []
theorem Mh.pick {cf : CF} {it io is s : Nat} (H : Mh cf it io is s) {bs : List D} {c : Int} (hb : Box bs c) (hc : c < 900000) {S : List (Int × Int)} (h0 : S ≠ []) (hl : S.length ≤ 1000) {a : E} {e : Env} (he : getS e 0 = .ow bs) (ha : ev cf a e = .ok (.lst (S.map encS)) e) : ∃ (q : Int × Int) (bs' : List D), q ∈ S ∧ Box bs' (c + 1) ∧ ev cf (.callo io 0 (.cons a .nil)) e = .ok (encS q) (e.set 0 (.ow bs')) := by
  obtain ⟨d, bs', q1, q2, q3⟩ := H.of hb hc (ps := S.map encS) (by rw [List.length_map]; cases S with | nil => exact (h0 rfl).elim | cons _ _ => simp) (by rw [List.length_map]; exact hl)
  obtain ⟨q, hq, rfl⟩ := List.mem_map.mp q1
  exact ⟨q, bs', hq, q2, ev_callo (f := io) (i := 0) (xs := bs) (e1 := e) (by rw [he]; rfl) (evs_cons ha evs_nil) he q3⟩
theorem Mh.tk {cf : CF} {it io is s : Nat} (H : Mh cf it io is s) {bs : List D} {c w : Int} (hb : Box bs c) (hc : c < 900000) (h0 : 0 < w) (h1 : w < 10 ^ 40) {e : Env} (he : getS e 0 = .ow bs) : ∃ (r : Int) (bs' : List D), 0 ≤ r ∧ r < w ∧ Box bs' (c + 1) ∧ ev cf (.callo it 0 (.cons (.ci w) .nil)) e = .ok (.int r) (e.set 0 (.ow bs')) := by
  obtain ⟨r, bs', q1, q2, q3, q4⟩ := H.take hb hc h0 h1
  exact ⟨r, bs', q1, q2, q3, ev_callo (f := it) (i := 0) (xs := bs) (e1 := e) (by rw [he]; rfl) rfl he q4⟩
theorem loopSg {cf : CF} {s : Nat} (h1 : 1 ≤ s) (h2 : s ≤ 8) {it io is itb imd : Nat} {bs : List D} {L : Ps} {k : Int} {x5 x6 x8 x9 x10 x11 x12 : Sl} : ∀ (R P : Ps) (x7 x13 : Sl), isOwn x7 = false → TabOk s P → (∀ p ∈ R, p.1 ∈ spansL s) → ∃ (P' : Ps) (y7 y13 : Sl), isOwn y7 = false ∧ TabOk s P' ∧
    loopS (fun e => ex cf (.cons (.seti 3 (.v 7) (.bin .add (.ixo 3 (.v 7)) (.v 13))) .nil) e) (.tp (.cons (.nm 7) (.cons (.nm 13) .nil))) (R.map encE) (MV bs s L k P x5 x6 x7 x8 x9 x10 x11 x12 x13) = .nx (MV bs s L k P' x5 x6 y7 x8 x9 x10 x11 x12 y13)
  | [], P, x7, x13, h7, hP, _ => ⟨P, x7, x13, h7, hP, rfl⟩
  | p :: R, P, x7, x13, h7, hP, hR => by
    have hp := hR p List.mem_cons_self
    have g := ev_ixoP (cf := cf) (i := 3) (k := .v 7) (e := MV bs s L k P x5 x6 (.va (encS p.1)) x8 x9 x10 x11 x12 (.va (.int p.2))) (P := P) (q := p.1) rfl rfl (hP.mem hp)
    have b := ex_setiP (cf := cf) (i := 3) (k := .v 7) (P := P) (q := p.1) (ev_bin (op := .add) (b := .v 13) (y := .int p.2) g rfl b_add) rfl rfl rfl (by have := hP.len h1 h2; omega)
    obtain ⟨P', y7, y13, z1, z2, z3⟩ := loopSg (cf := cf) h1 h2 (it := it) (io := io) (is := is) (itb := itb) (imd := imd) R (putP P p.1 (getP P p.1 + p.2)) (.va (encS p.1)) (.va (.int p.2)) rfl (hP.put hp _) fun r hr => hR r (List.mem_cons_of_mem _ hr)
    refine ⟨P', y7, y13, z1, z2, ?_⟩
    rw [List.map_cons, loop_nx (e1 := MV bs s L k P x5 x6 (.va (encS p.1)) x8 x9 x10 x11 x12 (.va (.int p.2))) rfl ((ex_nx b).trans rfl)]
    exact z3
theorem bodyV {cf : CF} {it io is itb imd s : Nat} (H : Mh cf it io is s) (h1 : 1 ≤ s) (h2 : s ≤ 8) {L P : Ps} {k : Int} (hP : TabOk s P) {bs : List D} {c : Int} (hb : Box bs c) (hc : c < 800000) {x5 x6 x7 x8 x9 x10 x11 x12 x13 : Sl} (h7 : isOwn x7 = false) :
    ∃ (bs' : List D) (P' : Ps) (y6 y7 y8 y9 y10 y11 y12 y13 : Sl), isOwn y7 = false ∧ TabOk s P' ∧ Box bs' (c + 10) ∧ ex cf (BV it io is itb imd) (MV bs s L k P x5 x6 x7 x8 x9 x10 x11 x12 x13) = .nx (MV bs' s L k P' x5 y6 y7 y8 y9 y10 y11 y12 y13) := by
  have sz := thousand
  have hlen := hP.len h1 h2
  have hsp := spans_ok s h1 h2
  have ok : ∀ q ∈ spansL s, 0 ≤ q.1 ∧ q.1 ≤ q.2 ∧ q.2 < (s : Int) := hsp.1
  -- the ones with work
  have hi : evI cf (.seq (.srto 3)) (MV bs s L k P x5 x6 x7 x8 x9 x10 x11 x12 x13) = .ok ((spansL s).map encS) (MV bs s L k P x5 x6 x7 x8 x9 x10 x11 x12 x13) := by
    refine evI_seq (x := .lst ((spansL s).map encS)) ?_ rfl
    show lift (srtD (dP P).toD) _ = _
    rw [srt_dP h2 hP.k, hP.e]
    have e0 : (spansL s).filter (fun q => decide (q ∈ spansL s)) = spansL s := List.filter_eq_self.mpr fun q hq => decide_eq_true hq
    rw [e0]
    rfl
  have q := ev_lcf (cf := cf) (el := .v 7) (c := .cmp .gt (.ixo 3 (.v 7)) (.ci 0)) (t := .nm 7) (own := [7]) (g := encS) (p := fun q => decide (0 < getP P q)) hi rfl (by show (!isOwn x7 && true) = true; rw [h7]; rfl) rfl (by omega) fun q hq => by
    have g1 := ev_ixoP (cf := cf) (i := 3) (k := .v 7) (e := MV bs s L k P x5 x6 (.va (encS q)) x8 x9 x10 x11 x12 x13) (P := P) (q := q) rfl rfl (hP.mem hq)
    exact ⟨MV bs s L k P x5 x6 (.va (encS q)) x8 x9 x10 x11 x12 x13, MV bs s L k P x5 x6 (.va (encS q)) x8 x9 x10 x11 x12 x13, MV bs s L k P x5 x6 (.va (encS q)) x8 x9 x10 x11 x12 x13, rfl, ev_cmp g1 rfl rfl, fun _ => rfl, rfl, rfl⟩
  have st0 : ex cf (nthS (BV it io is itb imd) 0) (MV bs s L k P x5 x6 x7 x8 x9 x10 x11 x12 x13) = .nx (MV bs s L k P x5 (.va (.lst (((spansL s).filter fun q => decide (0 < getP P q)).map encS))) x7 x8 x9 x10 x11 x12 x13) := ex_asg (i := 6) q
  have hS : ∀ q ∈ (spansL s).filter fun q => decide (0 < getP P q), q ∈ spansL s := fun q hq => (List.mem_filter.mp hq).1
  have hSl : ((spansL s).filter fun q => decide (0 < getP P q)).length ≤ 1000 := Nat.le_trans (List.length_filter_le _ _) (by omega)
  generalize ((spansL s).filter fun q => decide (0 < getP P q)) = S at st0 hS hSl
  obtain ⟨r, bs1, r1, r2, r3, r4⟩ := H.tk (e := MV bs s L k P x5 (.va (.lst (S.map encS))) x7 x8 x9 x10 x11 x12 x13) hb (by omega) (w := 5) (by decide) (by decide) rfl
  have st1 : ex cf (nthS (BV it io is itb imd) 1) (MV bs s L k P x5 (.va (.lst (S.map encS))) x7 x8 x9 x10 x11 x12 x13) = .nx (MV bs1 s L k P x5 (.va (.lst (S.map encS))) x7 (.va (.int r)) x9 x10 x11 x12 x13) := ex_asg (i := 8) r4
  have pre : ∀ {e'}, ex cf (BV2 it io is itb imd) (MV bs1 s L k P x5 (.va (.lst (S.map encS))) x7 (.va (.int r)) x9 x10 x11 x12 x13) = .nx e' → ex cf (BV it io is itb imd) (MV bs s L k P x5 x6 x7 x8 x9 x10 x11 x12 x13) = .nx e' := fun h => (ex_nx st0).trans ((ex_nx st1).trans ((ex_nx h).trans rfl))
  have c0 := ev_or (ev_cmp (cf := cf) (op := .eq) (a := .v 6) (b := .lst .nil) (e := MV bs1 s L k P x5 (.va (.lst (S.map encS))) x7 (.va (.int r)) x9 x10 x11 x12 x13) (y := .lst []) rfl rfl (eq_nil S hSl)) (ev_cmp (cf := cf) (op := .eq) (a := .v 8) (b := .ci 0) (x := .int r) (y := .int 0) rfl rfl c_eq)
  by_cases z0 : (decide (S = []) || decide (r = 0)) = true
  · -- a new piece
    have sp := ev_call (cf := cf) (f := is) (as := .cons (.ix (.v 1) (.ci 0)) .nil) (evs_cons (ix0L (i := 1) (b := true) (s := s) (L := L) (e := MV bs1 s L k P x5 (.va (.lst (S.map encS))) x7 (.va (.int r)) x9 x10 x11 x12 x13) rfl) evs_nil) H.spans
    have hne : spansL s ≠ [] := fun z => by
      have : ((0 : Int), (0 : Int)) ∈ spansL s := mem_spansL.mpr (decide_eq_true ⟨by omega, by omega, by show (0 : Int) < s; omega⟩)
      rw [z] at this
      cases this
    obtain ⟨w, bs2, w1, w2, w3⟩ := H.pick r3 (by omega) hne (by omega) rfl sp
    have a0 : ex cf (.asg (.nm 7) (.callo io 0 (.cons (.call is (.cons (.ix (.v 1) (.ci 0)) .nil)) .nil))) (MV bs1 s L k P x5 (.va (.lst (S.map encS))) x7 (.va (.int r)) x9 x10 x11 x12 x13) = .nx (MV bs2 s L k P x5 (.va (.lst (S.map encS))) (.va (encS w)) (.va (.int r)) x9 x10 x11 x12 x13) := ex_asg (i := 7) w3
    have g1 := ev_ixoP (cf := cf) (i := 3) (k := .v 7) (e := MV bs2 s L k P x5 (.va (.lst (S.map encS))) (.va (encS w)) (.va (.int r)) x9 x10 x11 x12 x13) (P := P) (q := w) rfl rfl (hP.mem w1)
    obtain ⟨t, bs3, t1, t2, t3, t4⟩ := H.tk (e := MV bs2 s L k P x5 (.va (.lst (S.map encS))) (.va (encS w)) (.va (.int r)) x9 x10 x11 x12 x13) w2 (by omega) (w := 2) (by decide) (by decide) rfl
    have a1 := ex_setiP (cf := cf) (i := 3) (k := .v 7) (P := P) (q := w) (ev_bin (op := .add) (ev_bin (op := .add) (b := .ci 1) (y := .int 1) g1 rfl b_add) t4 b_add) rfl rfl rfl (by omega)
    exact ⟨bs3, _, _, _, _, _, _, _, _, _, rfl, hP.put w1 _, t3.mono (by omega), pre ((ex_ite c0).trans (by rw [if_pos z0]; exact (ex_nx a0).trans ((ex_nx a1).trans rfl)))⟩
  · have hSne : S ≠ [] := fun z => z0 (by rw [decide_eq_true z]; rfl)
    have pre1 : ∀ {e'}, ex cf (BVE it io is itb imd) (MV bs1 s L k P x5 (.va (.lst (S.map encS))) x7 (.va (.int r)) x9 x10 x11 x12 x13) = .nx e' → ex cf (BV it io is itb imd) (MV bs s L k P x5 x6 x7 x8 x9 x10 x11 x12 x13) = .nx e' := fun h => pre ((ex_ite c0).trans (by rw [if_neg z0]; exact (ex_nx h).trans rfl))
    have c1 := ev_cmp (cf := cf) (op := .eq) (a := .v 8) (b := .ci 1) (e := MV bs1 s L k P x5 (.va (.lst (S.map encS))) x7 (.va (.int r)) x9 x10 x11 x12 x13) (x := .int r) (y := .int 1) rfl rfl c_eq
    obtain ⟨w, bs2, w1, w2, w3⟩ := H.pick (e := MV bs1 s L k P x5 (.va (.lst (S.map encS))) x7 (.va (.int r)) x9 x10 x11 x12 x13) (a := .v 6) r3 (by omega) hSne hSl rfl rfl
    have wS := hS w w1
    have a0 : ex cf (.asg (.nm 7) (.callo io 0 (.cons (.v 6) .nil))) (MV bs1 s L k P x5 (.va (.lst (S.map encS))) x7 (.va (.int r)) x9 x10 x11 x12 x13) = .nx (MV bs2 s L k P x5 (.va (.lst (S.map encS))) (.va (encS w)) (.va (.int r)) x9 x10 x11 x12 x13) := ex_asg (i := 7) w3
    by_cases z1 : r = 1
    · have g1 := ev_ixoP (cf := cf) (i := 3) (k := .v 7) (e := MV bs2 s L k P x5 (.va (.lst (S.map encS))) (.va (encS w)) (.va (.int r)) x9 x10 x11 x12 x13) (P := P) (q := w) rfl rfl (hP.mem wS)
      have a1 := ex_setiP (cf := cf) (i := 3) (k := .v 7) (P := P) (q := w) (ev_bin (op := .sub) (b := .ci 1) (y := .int 1) g1 rfl b_sub) rfl rfl rfl (by omega)
      exact ⟨bs2, _, _, _, _, _, _, _, _, _, rfl, hP.put wS _, w2.mono (by omega), pre1 ((ex_ite c1).trans (by rw [if_pos (decide_eq_true z1)]; exact (ex_nx a0).trans ((ex_nx a1).trans rfl)))⟩
    · have pre2 : ∀ {e'}, ex cf (BVF it io is itb imd) (MV bs1 s L k P x5 (.va (.lst (S.map encS))) x7 (.va (.int r)) x9 x10 x11 x12 x13) = .nx e' → ex cf (BV it io is itb imd) (MV bs s L k P x5 x6 x7 x8 x9 x10 x11 x12 x13) = .nx e' := fun h => pre1 ((ex_ite c1).trans (by rw [if_neg (fun w => z1 (of_decide_eq_true w))]; exact (ex_nx h).trans rfl))
      have c2 := ev_cmp (cf := cf) (op := .eq) (a := .v 8) (b := .ci 2) (e := MV bs1 s L k P x5 (.va (.lst (S.map encS))) x7 (.va (.int r)) x9 x10 x11 x12 x13) (x := .int r) (y := .int 2) rfl rfl c_eq
      by_cases z2 : r = 2
      · -- a wider one
        have ix := fun (bs : List D) (P : Ps) (x9 : Sl) => (show ev cf (.ix (.v 7) (.ci 0)) (MV bs s L k P x5 (.va (.lst (S.map encS))) (.va (encS w)) (.va (.int r)) x9 x10 x11 x12 x13) = .ok (.int w.1) (MV bs s L k P x5 (.va (.lst (S.map encS))) (.va (encS w)) (.va (.int r)) x9 x10 x11 x12 x13) ∧ ev cf (.ix (.v 7) (.ci 1)) (MV bs s L k P x5 (.va (.lst (S.map encS))) (.va (encS w)) (.va (.int r)) x9 x10 x11 x12 x13) = .ok (.int w.2) (MV bs s L k P x5 (.va (.lst (S.map encS))) (.va (encS w)) (.va (.int r)) x9 x10 x11 x12 x13) from ⟨ev_ixI (ev_name (d := encS w) rfl) (i := 0) rfl rfl, ev_ixI (ev_name (d := encS w) rfl) (i := 1) rfl rfl⟩)
        obtain ⟨t, bs3, t1, t2, t3, t4⟩ := H.tk (e := MV bs2 s L k P x5 (.va (.lst (S.map encS))) (.va (encS w)) (.va (.int r)) x9 x10 x11 x12 x13) w2 (by omega) (w := 2) (by decide) (by decide) rfl
        obtain ⟨u, bs4, u1, u2, u3, u4⟩ := H.tk (e := MV bs3 s L k P x5 (.va (.lst (S.map encS))) (.va (encS w)) (.va (.int r)) x9 x10 x11 x12 x13) t3 (by omega) (w := 2) (by decide) (by decide) rfl
        have m1 := ev_mm (cf := cf) (mx := true) (a := .ci 0) (i := 0) (e := MV bs2 s L k P x5 (.va (.lst (S.map encS))) (.va (encS w)) (.va (.int r)) x9 x10 x11 x12 x13) rfl (ev_bin (op := .sub) (ix bs2 P x9).1 t4 b_sub)
        have m2 := ev_mm (cf := cf) (mx := false) (a := .v 4) (i := (s : Int) - 1) (e := MV bs3 s L k P x5 (.va (.lst (S.map encS))) (.va (encS w)) (.va (.int r)) x9 x10 x11 x12 x13) rfl (ev_bin (op := .add) (ix bs3 P x9).2 u4 b_add)
        have mt := ev_tup (evs_cons m1 (evs_cons m2 evs_nil)) (by show 2 ≤ _; omega)
        obtain ⟨f, hf, hfe⟩ : ∃ f : Int × Int, f ∈ spansL s ∧ D.tup [.int (if true then (if w.1 - t > 0 then w.1 - t else 0) else if w.1 - t < 0 then w.1 - t else 0), .int (if false then (if w.2 + u > (s : Int) - 1 then w.2 + u else (s : Int) - 1) else if w.2 + u < (s : Int) - 1 then w.2 + u else (s : Int) - 1)] = encS f := by
          refine ⟨(if w.1 - t > 0 then w.1 - t else 0, if w.2 + u < (s : Int) - 1 then w.2 + u else (s : Int) - 1), mem_spansL.mpr (decide_eq_true ?_), rfl⟩
          have := ok w wS
          refine ⟨?_, ?_, ?_⟩
          · show 0 ≤ if w.1 - t > 0 then w.1 - t else 0
            split <;> omega
          · show (if w.1 - t > 0 then w.1 - t else 0) ≤ if w.2 + u < (s : Int) - 1 then w.2 + u else (s : Int) - 1
            split <;> split <;> omega
          · show (if w.2 + u < (s : Int) - 1 then w.2 + u else (s : Int) - 1) < (s : Int)
            split <;> omega
        rw [hfe] at mt
        have a1 : ex cf (nthS (iteT (BVF it io is itb imd)) 1) (MV bs2 s L k P x5 (.va (.lst (S.map encS))) (.va (encS w)) (.va (.int r)) x9 x10 x11 x12 x13) = .nx (MV bs4 s L k P x5 (.va (.lst (S.map encS))) (.va (encS w)) (.va (.int r)) (.va (encS f)) x10 x11 x12 x13) := ex_asg (i := 9) mt
        have g1 := ev_ixoP (cf := cf) (i := 3) (k := .v 7) (e := MV bs4 s L k P x5 (.va (.lst (S.map encS))) (.va (encS w)) (.va (.int r)) (.va (encS f)) x10 x11 x12 x13) (P := P) (q := w) rfl rfl (hP.mem wS)
        have a2 := ex_setiP (cf := cf) (i := 3) (k := .v 7) (P := P) (q := w) (ev_bin (op := .sub) (b := .ci 1) (y := .int 1) g1 rfl b_sub) rfl rfl rfl (by omega)
        have hP2 := hP.put wS (getP P w - 1)
        generalize putP P w (getP P w - 1) = P2 at a2 hP2
        have g2 := ev_ixoP (cf := cf) (i := 3) (k := .v 9) (e := MV bs4 s L k P2 x5 (.va (.lst (S.map encS))) (.va (encS w)) (.va (.int r)) (.va (encS f)) x10 x11 x12 x13) (P := P2) (q := f) rfl rfl (hP2.mem hf)
        have a3 := ex_setiP (cf := cf) (i := 3) (k := .v 9) (P := P2) (q := f) (ev_bin (op := .add) (b := .ci 1) (y := .int 1) g2 rfl b_add) rfl rfl rfl (by have := hP2.len h1 h2; omega)
        exact ⟨bs4, _, _, _, _, _, _, _, _, _, rfl, hP2.put hf _, u3.mono (by omega), pre2 ((ex_ite c2).trans (by rw [if_pos (decide_eq_true z2)]; exact (ex_nx a0).trans ((ex_nx a1).trans ((ex_nx a2).trans ((ex_nx a3).trans rfl)))))⟩
      · -- two that cross
        obtain ⟨v, bs3, v1, v2, v3⟩ := H.pick (e := MV bs2 s L k P x5 (.va (.lst (S.map encS))) x7 (.va (.int r)) x9 x10 x11 x12 x13) (a := .v 6) w2 (by omega) hSne hSl rfl rfl
        have vS := hS v v1
        have b0 : ex cf (nthS (iteE (BVF it io is itb imd)) 0) (MV bs1 s L k P x5 (.va (.lst (S.map encS))) x7 (.va (.int r)) x9 x10 x11 x12 x13) = .nx (MV bs3 s L k P x5 (.va (.lst (S.map encS))) x7 (.va (.int r)) x9 (.va (encS w)) (.va (encS v)) x12 x13) := by
          show ((ev cf (.callo io 0 (.cons (.v 6) .nil)) _).thn fun x e => (ev cf (.callo io 0 (.cons (.v 6) .nil)) e).thn fun y e => match slot false x, slot false y with | some s, some s' => RS.nx ((e.set 10 s).set 11 s') | _, _ => .no) = _
          rw [w3, thn_ok]
          show ((ev cf (.callo io 0 (.cons (.v 6) .nil)) (MV bs2 s L k P x5 (.va (.lst (S.map encS))) x7 (.va (.int r)) x9 x10 x11 x12 x13)).thn fun y e => match slot false (encS w), slot false y with | some s, some s' => RS.nx ((e.set 10 s).set 11 s') | _, _ => .no) = _
          rw [v3]
          rfl
        have i10 : ev cf (.ix (.v 10) (.ci 0)) (MV bs3 s L k P x5 (.va (.lst (S.map encS))) x7 (.va (.int r)) x9 (.va (encS w)) (.va (encS v)) x12 x13) = .ok (.int w.1) _ := ev_ixI (ev_name (d := encS w) rfl) (i := 0) rfl rfl
        have i11 : ev cf (.ix (.v 10) (.ci 1)) (MV bs3 s L k P x5 (.va (.lst (S.map encS))) x7 (.va (.int r)) x9 (.va (encS w)) (.va (encS v)) x12 x13) = .ok (.int w.2) _ := ev_ixI (ev_name (d := encS w) rfl) (i := 1) rfl rfl
        have j10 : ev cf (.ix (.v 11) (.ci 0)) (MV bs3 s L k P x5 (.va (.lst (S.map encS))) x7 (.va (.int r)) x9 (.va (encS w)) (.va (encS v)) x12 x13) = .ok (.int v.1) _ := ev_ixI (ev_name (d := encS v) rfl) (i := 0) rfl rfl
        have j11 : ev cf (.ix (.v 11) (.ci 1)) (MV bs3 s L k P x5 (.va (.lst (S.map encS))) x7 (.va (.int r)) x9 (.va (encS w)) (.va (encS v)) x12 x13) = .ok (.int v.2) _ := ev_ixI (ev_name (d := encS v) rfl) (i := 1) rfl rfl
        have c3 := ev_and3 (ev_cmp (cf := cf) (op := .ne) (a := .v 10) (b := .v 11) (e := MV bs3 s L k P x5 (.va (.lst (S.map encS))) x7 (.va (.int r)) x9 (.va (encS w)) (.va (encS v)) x12 x13) (x := encS w) (y := encS v) rfl rfl (ne_enc w v)) (ev_cmp (op := .le) i10 j11 c_le) (ev_cmp (op := .le) j10 i11 c_le)
        have fin3 : ∀ {e'}, ex cf (BVX it io is itb imd) (MV bs3 s L k P x5 (.va (.lst (S.map encS))) x7 (.va (.int r)) x9 (.va (encS w)) (.va (encS v)) x12 x13) = .nx e' → ex cf (BV it io is itb imd) (MV bs s L k P x5 x6 x7 x8 x9 x10 x11 x12 x13) = .nx e' := fun h => pre2 ((ex_ite c2).trans (by rw [if_neg (fun w => z2 (of_decide_eq_true w))]; exact (ex_nx b0).trans ((ex_nx h).trans rfl)))
        by_cases z3 : (!decide (w = v) && (decide (w.1 ≤ v.2) && decide (v.1 ≤ w.2))) = true
        · have z3' := z3
          rw [Bool.and_eq_true, Bool.and_eq_true, decide_eq_true_eq, decide_eq_true_eq] at z3'
          obtain ⟨_, y1, y2⟩ := z3'
          have n1 := ev_tup (evs_cons i10 (evs_cons j11 evs_nil)) (by show 2 ≤ _; omega)
          have n2 := ev_tup (evs_cons j10 (evs_cons i11 evs_nil)) (by show 2 ≤ _; omega)
          have d0 : ex cf (nthS (iteT (BVX it io is itb imd)) 0) (MV bs3 s L k P x5 (.va (.lst (S.map encS))) x7 (.va (.int r)) x9 (.va (encS w)) (.va (encS v)) x12 x13) = .nx (MV bs3 s L k P x5 (.va (.lst (S.map encS))) x7 (.va (.int r)) (.va (encS (v.1, w.2))) (.va (encS w)) (.va (encS v)) (.va (encS (w.1, v.2))) x13) := by
            show ((ev cf (.tup (.cons (.ix (.v 10) (.ci 0)) (.cons (.ix (.v 11) (.ci 1)) .nil))) _).thn fun x e => (ev cf (.tup (.cons (.ix (.v 11) (.ci 0)) (.cons (.ix (.v 10) (.ci 1)) .nil))) e).thn fun y e => match slot false x, slot false y with | some s, some s' => RS.nx ((e.set 12 s).set 9 s') | _, _ => .no) = _
            rw [n1, thn_ok, n2]
            rfl
          have hv : evI cf (.seq (.tup (.cons (.tup (.cons (.v 10) (.cons (.neg (.ci 1)) .nil))) (.cons (.tup (.cons (.v 11) (.cons (.neg (.ci 1)) .nil))) (.cons (.tup (.cons (.v 12) (.cons (.ci 1) .nil))) (.cons (.tup (.cons (.v 9) (.cons (.ci 1) .nil))) .nil)))))) (MV bs3 s L k P x5 (.va (.lst (S.map encS))) x7 (.va (.int r)) (.va (encS (v.1, w.2))) (.va (encS w)) (.va (encS v)) (.va (encS (w.1, v.2))) x13) = .ok (([(w, -1), (v, -1), ((w.1, v.2), 1), ((v.1, w.2), 1)] : Ps).map encE) _ :=
            evI_seq (ev_tup (evs_cons (ev_tup rfl (by show 2 ≤ _; omega)) (evs_cons (ev_tup rfl (by show 2 ≤ _; omega)) (evs_cons (ev_tup rfl (by show 2 ≤ _; omega)) (evs_cons (ev_tup rfl (by show 2 ≤ _; omega)) evs_nil)))) (by show 4 ≤ _; omega)) rfl
          obtain ⟨P', y7, y13, p1, p2, p3⟩ := loopSg (cf := cf) h1 h2 (it := it) (io := io) (is := is) (itb := itb) (imd := imd) (bs := bs3) (L := L) (k := k) (x5 := x5) (x6 := .va (.lst (S.map encS))) (x8 := .va (.int r)) (x9 := .va (encS (v.1, w.2))) (x10 := .va (encS w)) (x11 := .va (encS v)) (x12 := .va (encS (w.1, v.2))) [(w, -1), (v, -1), ((w.1, v.2), 1), ((v.1, w.2), 1)] P x7 x13 h7 hP (fun p hp => by
            have o1 := ok w wS
            have o2 := ok v vS
            simp only [List.mem_cons, List.not_mem_nil, or_false] at hp
            rcases hp with rfl | rfl | rfl | rfl
            · exact wS
            · exact vS
            · exact mem_spansL.mpr (decide_eq_true ⟨o1.1, y1, o2.2.2⟩)
            · exact mem_spansL.mpr (decide_eq_true ⟨o2.1, y2, o1.2.2⟩))
          exact ⟨bs3, P', _, y7, _, _, _, _, _, y13, p1, p2, v2.mono (by omega), fin3 ((ex_ite c3).trans (by rw [if_pos z3]; exact (ex_nx d0).trans ((ex_nx ((ex_for hv).trans p3)).trans rfl)))⟩
        · exact ⟨bs3, P, _, x7, _, _, _, _, _, _, h7, hP, v2.mono (by omega), fin3 ((ex_ite c3).trans (by rw [if_neg z3]; rfl))⟩
theorem loopV {cf : CF} {it io is itb imd s : Nat} (H : Mh cf it io is s) (h1 : 1 ≤ s) (h2 : s ≤ 8) {L : Ps} {k : Int} : ∀ (xs : List D) (P : Ps) (bs : List D) (c : Int) (x5 x6 x7 x8 x9 x10 x11 x12 x13 : Sl), TabOk s P → Box bs c → c + 10 * xs.length < 700000 → isOwn x7 = false →
    ∃ (bs' : List D) (P' : Ps) (y5 y6 y7 y8 y9 y10 y11 y12 y13 : Sl), TabOk s P' ∧ Box bs' (c + 10 * xs.length) ∧ loopS (fun e => ex cf (BV it io is itb imd) e) (.nm 5) xs (MV bs s L k P x5 x6 x7 x8 x9 x10 x11 x12 x13) = .nx (MV bs' s L k P' y5 y6 y7 y8 y9 y10 y11 y12 y13)
  | [], P, bs, c, x5, x6, x7, x8, x9, x10, x11, x12, x13, hP, hb, _, _ => ⟨bs, P, x5, x6, x7, x8, x9, x10, x11, x12, x13, hP, hb.mono (by simp), rfl⟩
  | x :: xs, P, bs, c, x5, x6, x7, x8, x9, x10, x11, x12, x13, hP, hb, hc, h7 => by
    rw [List.length_cons] at hc
    obtain ⟨bs1, P1, y6, y7, y8, y9, y10, y11, y12, y13, b1, b2, b3, b4⟩ := bodyV (itb := itb) (imd := imd) H h1 h2 (L := L) (k := k) hP hb (by omega) (x5 := .va x) (x6 := x6) (x8 := x8) (x9 := x9) (x10 := x10) (x11 := x11) (x12 := x12) (x13 := x13) h7
    obtain ⟨bs', P', z5, z6, z7, z8, z9, z10, z11, z12, z13, q1, q2, q3⟩ := loopV H h1 h2 (L := L) (k := k) (itb := itb) (imd := imd) xs P1 bs1 (c + 10) (.va x) y6 y7 y8 y9 y10 y11 y12 y13 b2 b3 (by omega) b1
    refine ⟨bs', P', z5, z6, z7, z8, z9, z10, z11, z12, z13, q1, q2.mono (by rw [List.length_cons]; omega), ?_⟩
    rw [loop_nx (e1 := MV bs s L k P (.va x) x6 x7 x8 x9 x10 x11 x12 x13) rfl b4]
    exact q3
theorem moved_spec {defs : List Def} {i it io is itb imd : Nat} (hd : defs[i]? = some (dMoved it io is itb imd)) (ht : defs[it]? = some dTake) (ho : defs[io]? = some (dOf it)) (hs : defs[is]? = some dSpans) (htb : defs[itb]? = some (dLTable2 is)) (hmd : defs[imd]? = some dLMade) (n s : Nat) (h1 : 1 ≤ s) (h2 : s ≤ 8) {L : Ps} (hL : L.length ≤ 36) (hm : ∀ p ∈ L, p.1 ∈ spansL s) (k : Nat) (hk : k ≤ 100) {bs : List D} {c : Int} (hb : Box bs c) (hc : c < 600000) :
    ∃ (f : Int × Int → Int) (bs' : List D), Box bs' (c + 1000) ∧ callF defs (n + 3) i (some bs) [lotD s L, .int k] = .ok (lotD s (canonL s f)) bs' := by
  have sz := thousand
  have hTb := ltable2_spec htb hs n s h1 h2 (L := L) (by omega)
  have hMd : ∀ P, KeyOk s P → callF defs (n + 2) imd none [.int s, (dP P).toD] = .ok (lotD s (canonL s (getP P))) [] := fun P hP => lmade_spec hmd (n + 1) s h2 hP _ rfl
  have H : Mh (callF defs (n + 2)) it io is s := {
    take := fun hb hc h1 h2 => take_spec ht (n + 1) hb (by omega) h1 (Int.lt_trans h2 (by decide))
    of := fun hb hc h1 h2 => of_spec ho ht n hb (by omega) h1 (by omega)
    spans := spans hs (n + 1) s h1 h2 }
  rw [call_d hd ⟨rfl, rfl, by show 3 ≤ 14; decide, rfl⟩]
  show ∃ f bs', _ ∧ fin true false (ex (callF defs (n + 2)) (bMoved it io is itb imd) [.ow bs, .va (lotD s L), .va (.int k), .em, .em, .em, .em, .em, .em, .em, .em, .em, .em, .em]) = _
  generalize callF defs (n + 2) = cf at hTb hMd H
  have ct := ev_call (cf := cf) (f := itb) (as := .cons (.v 1) .nil) (e := [.ow bs, .va (lotD s L), .va (.int k), .em, .em, .em, .em, .em, .em, .em, .em, .em, .em, .em]) (ds := [lotD s L]) rfl hTb
  have cl := ev_bin (cf := cf) (op := .sub) (b := .ci 1) (y := .int 1) (ix0L (i := 1) (b := true) (s := s) (L := L) (e := [.ow bs, .va (lotD s L), .va (.int k), .em, .em, .em, .em, .em, .em, .em, .em, .em, .em, .em]) rfl) rfl b_sub
  have st0 : ex cf (nthS (bMoved it io is itb imd) 0) [.ow bs, .va (lotD s L), .va (.int k), .em, .em, .em, .em, .em, .em, .em, .em, .em, .em, .em] = .nx (MV bs s L k (tabL s L) .em .em .em .em .em .em .em .em .em) := by
    show ((ev cf (.call itb (.cons (.v 1) .nil)) _).thn fun x e => (ev cf (.bin .sub (.ix (.v 1) (.ci 0)) (.ci 1)) e).thn fun y e => match slot true x, slot false y with | some s, some s' => RS.nx ((e.set 3 s).set 4 s') | _, _ => .no) = _
    rw [ct, thn_ok, cl]
    rfl
  have hv := range1_of (cf := cf) (a := .v 2) (e := MV bs s L k (tabL s L) .em .em .em .em .em .em .em .em .em) (i := (k : Int)) rfl (by omega)
  rw [Int.toNat_natCast] at hv
  obtain ⟨bs', P', y5, y6, y7, y8, y9, y10, y11, y12, y13, q1, q2, q3⟩ := loopV H h1 h2 (L := L) (k := k) (itb := itb) (imd := imd) (rangeD 0 k) (tabL s L) bs c .em .em .em .em .em .em .em .em .em ⟨ok_tabL h2 hm, keys_tabL hm⟩ hb (by rw [range_len]; omega) rfl
  rw [range_len] at q2
  have mk : ev cf (.call imd (.cons (.ix (.v 1) (.ci 0)) (.cons (.v 3) .nil))) (MV bs' s L k P' y5 y6 y7 y8 y9 y10 y11 y12 y13) = .ok (lotD s (canonL s (getP P'))) [.ow bs', .va (lotD s L), .va (.int k), .va (dP P').toD, .va (.int ((s : Int) - 1)), y5, y6, y7, y8, y9, y10, y11, y12, y13] :=
    ev_call (f := imd) (evs_cons (ix0L (i := 1) (b := true) (s := s) (L := L) rfl) (evs_cons (a := .v 3) (x := (dP P').toD) rfl evs_nil)) (hMd P' q1.k)
  have go : ex cf (bMoved it io is itb imd) [.ow bs, .va (lotD s L), .va (.int k), .em, .em, .em, .em, .em, .em, .em, .em, .em, .em, .em] = .rt (lotD s (canonL s (getP P'))) _ := (ex_nx st0).trans ((ex_nx ((ex_for hv).trans q3)).trans (ex_rt (ss := .nil) (ex_ret mk)))
  refine ⟨getP P', bs', q2.mono (by omega), ?_⟩
  rw [go]
  rfl
end Lib
end
section
namespace Lib
open Ev L2
/-! ### two lots stretch by stretch -/
theorem ev_lz3 {cf : CF} {as : E} {e e1 : Env} {x y z : D} {xs ys zs : List D} (h : evs cf as e = .ok [x, y, z] e1) (hx : items? x = some xs) (hy : items? y = some ys) (hz : items? z = some zs) (l1 : xs.length = ys.length) (l2 : xs.length = zs.length) : ev cf (.lz3 as) e = .ok (.lst (zip3D xs ys zs)) e1 := by
  show ((evs cf as e).bind fun ds e => match ds with
    | [x, y, z] => (lift (items? x) e).bind fun xs e => (lift (items? y) e).bind fun ys e => (lift (items? z) e).bind fun zs e => if xs.length = ys.length ∧ xs.length = zs.length then R.ok (D.lst (zip3D xs ys zs)) e else .no
    | _ => .no) = _
  rw [h, bind_ok]
  show ((lift (items? x) e1).bind fun xs e => (lift (items? y) e).bind fun ys e => (lift (items? z) e).bind fun zs e => if xs.length = ys.length ∧ xs.length = zs.length then R.ok (D.lst (zip3D xs ys zs)) e else .no) = _
  rw [hx, lift_some, bind_ok, hy, lift_some, bind_ok, hz, lift_some, bind_ok, if_pos ⟨l1, l2⟩]
theorem zip3_map {α : Type} (f g h : α → D) : ∀ S : List α, zip3D (S.map f) (S.map g) (S.map h) = S.map fun q => D.tup [f q, g q, h q]
  | [] => rfl
  | q :: S => by
    show D.tup [f q, g q, h q] :: zip3D (S.map f) (S.map g) (S.map h) = _
    rw [zip3_map f g h S]
    rfl
def dAlike (c mk : Nat) : Def := ⟨2, 2, false, false, (.cons (.ite (.cmp .ne (.ix (.v 0) (.ci 0)) (.ix (.v 1) (.ci 0)))
    (.cons (.rais c mk .nil)
    .nil)
    .nil)
    .nil), 0⟩
theorem alike_spec {defs : List Def} {i c mk : Nat} (hd : defs[i]? = some (dAlike c mk)) (n : Nat) (hm : callF defs n mk none [] = .ok (.tup []) []) (b : Bool) (s s' : Nat) (L L' : Ps) : callF defs (n + 1) i none [lotM b s L, lotM b s' L'] = if s = s' then .ok .non [] else .ex c [] [] := by
  rw [call_d hd ⟨rfl, rfl, by show 2 ≤ 2; decide, rfl⟩]
  generalize callF defs n = cf at hm
  show fin false false (ex cf (dAlike c mk).body [.va (lotM b s L), .va (lotM b s' L')]) = _
  have q := ev_cmp (cf := cf) (op := .ne) (ix0L (i := 0) (b := b) (s := s) (L := L) (e := [.va (lotM b s L), .va (lotM b s' L')]) rfl) (ix0L (i := 1) (b := b) (s := s') (L := L') rfl) c_ne
  by_cases h : s = s'
  · rw [decide_eq_true (show (s : Int) = (s' : Int) by omega)] at q
    rw [if_pos h]
    have go : ex cf (dAlike c mk).body [.va (lotM b s L), .va (lotM b s' L')] = .nx _ := (ex_nx ((ex_ite q).trans rfl)).trans rfl
    rw [go]
    rfl
  · rw [decide_eq_false (show ¬ (s : Int) = (s' : Int) by omega)] at q
    rw [if_neg h]
    have rz : ex cf (.cons (.rais c mk .nil) .nil) [.va (lotM b s L), .va (lotM b s' L')] = .exn c [] [.va (lotM b s L), .va (lotM b s' L')] := by
      refine ex_xn ?_
      show (match cf mk none [] with | .ok (.tup fs) _ => RS.exn c fs _ | _ => .no) = _
      rw [hm]
    have go : ex cf (dAlike c mk).body [.va (lotM b s L), .va (lotM b s' L')] = .exn c [] _ := ex_xn ((ex_ite q).trans rz)
    rw [go]
    rfl
def ovrL (s : Nat) (L L' : Ps) : List (Int × Int) := (spansL s).filter fun q => decide (askI L' q.1 q.2 < askI L q.1 q.2)
def ovrD (s : Nat) (L L' : Ps) : D := .lst ((ovrL s L L').map fun q => .tup [.int q.1, .int q.2, .int (askI L q.1 q.2 - askI L' q.1 q.2)])
def bOver (ial is io it : Nat) : S := (.cons (.exp (.call ial (.cons (.v 0) (.cons (.v 1) .nil))))
    (.cons (.asg (.nm 2) (.lz3 (.cons (.call is (.cons (.call io (.cons (.v 0) .nil)) .nil)) (.cons (.call it (.cons (.v 0) .nil)) (.cons (.call it (.cons (.v 1) .nil)) .nil)))))
    (.cons (.ret (.lc (.tup (.cons (.v 3) (.cons (.v 4) (.cons (.bin .sub (.v 5) (.v 6)) .nil)))) (.tp (.cons (.tp (.cons (.nm 3) (.cons (.nm 4) .nil))) (.cons (.nm 5) (.cons (.nm 6) .nil)))) (.seq (.v 2)) (.cmp .gt (.v 5) (.v 6)) [3, 4, 5, 6]))
    .nil)))
def dOver (ial is io it : Nat) : Def := ⟨2, 7, false, true, bOver ial is io it, 0⟩
theorem over_cf {cf : CF} {ial is io it : Nat} (b : Bool) {s : Nat} (h1 : 1 ≤ s) (h2 : s ≤ 8) (L L' : Ps) (ca : cf ial none [lotM b s L, lotM b s L'] = .ok .non []) (ch : cf io none [lotM b s L] = .ok (.int s) []) (cs : cf is none [.int s] = .ok (.lst ((spansL s).map encS)) [])
    (ct : cf it none [lotM b s L] = .ok (.tup ((spansL s).map fun p => .int (askI L p.1 p.2))) []) (ct' : cf it none [lotM b s L'] = .ok (.tup ((spansL s).map fun p => .int (askI L' p.1 p.2))) []) :
    fin false true (ex cf (bOver ial is io it) [.va (lotM b s L), .va (lotM b s L'), .em, .em, .em, .em, .em]) = .ok (ovrD s L L') [] := by
  have sz := thousand
  have sl := (spans_ok s h1 h2).2
  have st0 : ex cf (nthS (bOver ial is io it) 0) [.va (lotM b s L), .va (lotM b s L'), .em, .em, .em, .em, .em] = .nx [.va (lotM b s L), .va (lotM b s L'), .em, .em, .em, .em, .em] := ex_exp (ev_call (ds := [lotM b s L, lotM b s L']) rfl ca)
  have z := ev_lz3 (cf := cf) (as := (.cons (.call is (.cons (.call io (.cons (.v 0) .nil)) .nil)) (.cons (.call it (.cons (.v 0) .nil)) (.cons (.call it (.cons (.v 1) .nil)) .nil)))) (e := [.va (lotM b s L), .va (lotM b s L'), .em, .em, .em, .em, .em])
    (evs_cons (ev_call (evs_cons (ev_call (ds := [lotM b s L]) rfl ch) evs_nil) cs) (evs_cons (ev_call (ds := [lotM b s L]) rfl ct) (evs_cons (ev_call (ds := [lotM b s L']) rfl ct') evs_nil))) rfl rfl rfl (by rw [List.length_map, List.length_map]) (by rw [List.length_map, List.length_map])
  rw [zip3_map] at z
  have st1 := ex_asg (i := 2) z
  have lc := ev_lcf (cf := cf) (el := .tup (.cons (.v 3) (.cons (.v 4) (.cons (.bin .sub (.v 5) (.v 6)) .nil)))) (c := .cmp .gt (.v 5) (.v 6)) (it := .seq (.v 2)) (t := .tp (.cons (.tp (.cons (.nm 3) (.cons (.nm 4) .nil))) (.cons (.nm 5) (.cons (.nm 6) .nil)))) (own := [3, 4, 5, 6])
    (e := [.va (lotM b s L), .va (lotM b s L'), .va (.lst ((spansL s).map fun q => D.tup [encS q, .int (askI L q.1 q.2), .int (askI L' q.1 q.2)])), .em, .em, .em, .em]) (xs := spansL s) (h := fun q => D.tup [encS q, .int (askI L q.1 q.2), .int (askI L' q.1 q.2)])
    (g := fun q => D.tup [.int q.1, .int q.2, .int (askI L q.1 q.2 - askI L' q.1 q.2)]) (p := fun q => decide (askI L' q.1 q.2 < askI L q.1 q.2)) rfl rfl rfl rfl (by omega) fun q hq => by
    refine ⟨[.va (lotM b s L), .va (lotM b s L'), .va (.lst ((spansL s).map fun q => D.tup [encS q, .int (askI L q.1 q.2), .int (askI L' q.1 q.2)])), .va (.int q.1), .va (.int q.2), .va (.int (askI L q.1 q.2)), .va (.int (askI L' q.1 q.2))], [.va (lotM b s L), .va (lotM b s L'), .va (.lst ((spansL s).map fun q => D.tup [encS q, .int (askI L q.1 q.2), .int (askI L' q.1 q.2)])), .va (.int q.1), .va (.int q.2), .va (.int (askI L q.1 q.2)), .va (.int (askI L' q.1 q.2))], [.va (lotM b s L), .va (lotM b s L'), .va (.lst ((spansL s).map fun q => D.tup [encS q, .int (askI L q.1 q.2), .int (askI L' q.1 q.2)])), .va (.int q.1), .va (.int q.2), .va (.int (askI L q.1 q.2)), .va (.int (askI L' q.1 q.2))], rfl, ?_, fun _ => ?_, rfl, rfl⟩
    · exact ev_cmp (op := .gt) rfl rfl c_gt
    · refine ev_tup (xs := [.int q.1, .int q.2, .int (askI L q.1 q.2 - askI L' q.1 q.2)]) (evs_cons rfl (evs_cons rfl (evs_cons (ev_bin rfl rfl b_sub) evs_nil))) ?_
      show 3 ≤ _
      omega
  have go : ex cf (bOver ial is io it) [.va (lotM b s L), .va (lotM b s L'), .em, .em, .em, .em, .em] = .rt (ovrD s L L') _ := (ex_nx st0).trans ((ex_nx st1).trans (ex_rt (ss := .nil) (ex_ret lc)))
  rw [go]
  rfl
end Lib
end
section
namespace Lib
open Ev L2
/-! ### the table of a lot tells the lot -/
theorem ask_cons (p : (Int × Int) × Int) (R : Ps) (f l : Int) : askI (p :: R) f l = (if f ≤ p.1.1 ∧ p.1.2 ≤ l then p.2 else 0) + askI R f l := by
  unfold askI
  have e : within f l p.1 = decide (f ≤ p.1.1 ∧ p.1.2 ≤ l) := by
    unfold within
    by_cases h1 : f ≤ p.1.1 <;> by_cases h2 : p.1.2 ≤ l <;> simp [h1, h2]
  by_cases h : f ≤ p.1.1 ∧ p.1.2 ≤ l
  · rw [List.filter_cons_of_pos (by rw [e]; exact decide_eq_true h), if_pos h, List.map_cons, List.sum_cons]
  · rw [List.filter_cons_of_neg (by rw [e]; simpa using h), if_neg h, Int.zero_add]
theorem mob (f l : Int) : ∀ L : Ps, workI L (f, l) = askI L f l - askI L (f + 1) l - askI L f (l - 1) + askI L (f + 1) (l - 1)
  | [] => rfl
  | p :: R => by
    rw [work_cons, ask_cons, ask_cons, ask_cons, ask_cons, mob f l R]
    obtain ⟨⟨a, b⟩, w⟩ := p
    show (if (a, b) = (f, l) then w else 0) + _ = ((if f ≤ a ∧ b ≤ l then w else 0) + _) - ((if f + 1 ≤ a ∧ b ≤ l then w else 0) + _) - ((if f ≤ a ∧ b ≤ l - 1 then w else 0) + _) + ((if f + 1 ≤ a ∧ b ≤ l - 1 then w else 0) + _)
    have e : ((a, b) = (f, l)) ↔ (a = f ∧ b = l) := by rw [Prod.mk.injEq]
    rw [ite_congr (propext e) (fun _ => rfl) fun _ => rfl]
    by_cases h1 : f ≤ a <;> by_cases h2 : f + 1 ≤ a <;> by_cases h3 : b ≤ l <;> by_cases h4 : b ≤ l - 1 <;> by_cases h5 : a = f <;> by_cases h6 : b = l <;> simp only [h1, h2, h3, h4, h5, h6, and_self, and_true, and_false, true_and, false_and, if_true, if_false] <;> omega
theorem ask_none {L : Ps} {f l : Int} (h : ∀ p ∈ L, p.1.1 ≤ p.1.2) (hl : l < f) : askI L f l = 0 := by
  induction L with
  | nil => rfl
  | cons p R ih =>
    rw [ask_cons, ih fun q hq => h q (List.mem_cons_of_mem _ hq), if_neg fun z => ?_]
    · rfl
    · have := h p List.mem_cons_self
      omega
theorem work_of_ask {s : Nat} {L L' : Ps} (hL : ∀ p ∈ L, p.1 ∈ spansL s) (hL' : ∀ p ∈ L', p.1 ∈ spansL s) (h : ∀ q ∈ spansL s, askI L q.1 q.2 = askI L' q.1 q.2) : ∀ q ∈ spansL s, workI L q = workI L' q := by
  have up : ∀ {M : Ps}, (∀ p ∈ M, p.1 ∈ spansL s) → ∀ p ∈ M, p.1.1 ≤ p.1.2 := fun hM p hp => by
    have := of_decide_eq_true (mem_spansL.mp (hM p hp))
    exact this.2.1
  have all : ∀ f l : Int, 0 ≤ f → l < (s : Int) → askI L f l = askI L' f l := fun f l h1 h2 => by
    by_cases h3 : f ≤ l
    · exact h (f, l) (mem_spansL.mpr (decide_eq_true ⟨h1, h3, h2⟩))
    · rw [ask_none (up hL) (by omega), ask_none (up hL') (by omega)]
  rintro ⟨f, l⟩ hq
  have k : 0 ≤ f ∧ f ≤ l ∧ l < (s : Int) := of_decide_eq_true (mem_spansL.mp hq)
  rw [mob, mob, all f l (by omega) (by omega), all (f + 1) l (by omega) (by omega), all f (l - 1) (by omega) (by omega), all (f + 1) (l - 1) (by omega) (by omega)]
/-- as a lot is laid: in order, nothing twice, nothing without work -/
structure Nrm (s : Nat) (L : Ps) : Prop where
  sub : (keysP L).Sublist (spansL s)
  pos : ∀ p ∈ L, 1 ≤ p.2
theorem Nrm.mem {s : Nat} {L : Ps} (h : Nrm s L) : ∀ p ∈ L, p.1 ∈ spansL s := fun p hp => h.sub.subset (List.mem_map_of_mem hp)
theorem work_zero {q : Int × Int} : ∀ {L : Ps}, q ∉ keysP L → workI L q = 0
  | [], _ => rfl
  | p :: R, h => by
    rw [work_cons, if_neg fun z => h (by rw [← z]; exact List.mem_cons_self), work_zero fun z => h (List.mem_cons_of_mem _ z)]
    rfl
theorem work_mem : ∀ {L : Ps}, (keysP L).Nodup → ∀ p ∈ L, workI L p.1 = p.2
  | p :: R, nd, q, hq => by
    have nd' := List.nodup_cons.mp nd
    rw [work_cons]
    rcases List.mem_cons.mp hq with hq | hq
    · subst hq
      rw [if_pos rfl, work_zero nd'.1]
      omega
    · rw [if_neg fun z => nd'.1 (by show p.1 ∈ _; rw [z]; exact List.mem_map_of_mem hq), work_mem nd'.2 q hq]
      omega
theorem canon_go (f : Int × Int → Int) : ∀ {S K : List (Int × Int)}, K.Sublist S → S.Nodup → ∀ L : Ps, keysP L = K → (∀ p ∈ L, 1 ≤ p.2) → (∀ p ∈ L, f p.1 = p.2) → (∀ q ∈ S, q ∉ K → f q = 0) → (S.filter fun q => decide (0 < f q)).map (fun q => (q, f q)) = L := fun {S K} h => by
  induction h with
  | slnil =>
    intro _ L e _ _ _
    rw [List.map_eq_nil_iff.mp e]
    rfl
  | @cons K S a hs ih =>
    intro nd L e h1 h2 h3
    have nd' := List.nodup_cons.mp nd
    have ha : f a = 0 := h3 a List.mem_cons_self fun z => nd'.1 (hs.subset z)
    rw [List.filter_cons_of_neg (by rw [ha]; decide)]
    exact ih nd'.2 L e h1 h2 fun q hq => h3 q (List.mem_cons_of_mem _ hq)
  | @cons_cons K S a hs ih =>
    intro nd L e h1 h2 h3
    have nd' := List.nodup_cons.mp nd
    cases L with
    | nil => cases e
    | cons p R =>
      have e1 : p.1 = a := (List.cons.inj e).1
      have e2 : keysP R = K := (List.cons.inj e).2
      subst e1
      have hp := h2 p List.mem_cons_self
      rw [List.filter_cons_of_pos (by rw [hp]; exact decide_eq_true (by have := h1 p List.mem_cons_self; omega)), List.map_cons, ih nd'.2 R e2 (fun q hq => h1 q (List.mem_cons_of_mem _ hq)) (fun q hq => h2 q (List.mem_cons_of_mem _ hq)) (fun q hq hk => h3 q (List.mem_cons_of_mem _ hq) fun z => ?_), hp]
      rcases List.mem_cons.mp z with z | z
      · exact nd'.1 (by rw [← z]; exact hq)
      · exact hk z
theorem Nrm.canon {s : Nat} (h2 : s ≤ 8) {L : Ps} (h : Nrm s L) : canonL s (workI L) = L := by
  have nd := (spans_pw s h2).2.1
  exact canon_go (workI L) h.sub nd L rfl h.pos (work_mem (nd.sublist h.sub)) fun q _ hk => work_zero hk
theorem lot_same {s : Nat} (h2 : s ≤ 8) {L L' : Ps} (h : Nrm s L) (h' : Nrm s L') (e : ∀ q ∈ spansL s, askI L q.1 q.2 = askI L' q.1 q.2) : L = L' := by
  rw [← h.canon h2, ← h'.canon h2]
  exact canon_on (work_of_ask h.mem h'.mem e)
theorem nrm_canon (s : Nat) (f : Int × Int → Int) : Nrm s (canonL s f) := by
  refine ⟨?_, fun p hp => ?_⟩
  · unfold keysP canonL
    rw [List.map_map]
    show (List.map (fun q => q) _).Sublist _
    rw [List.map_id']
    exact List.filter_sublist
  · obtain ⟨q, hq, rfl⟩ := List.mem_map.mp hp
    have := of_decide_eq_true (List.mem_filter.mp hq).2
    show 1 ≤ f q
    omega
theorem eqv_lots : ∀ L L' : Ps, D.eqvs (L.map encE) (L'.map encE) = decide (L = L')
  | [], [] => rfl
  | [], _ :: _ => rfl
  | _ :: _, [] => rfl
  | p :: L, p' :: L' => by
    have ih := eqv_lots L L'
    obtain ⟨⟨a, b⟩, w⟩ := p
    obtain ⟨⟨a', b'⟩, w'⟩ := p'
    show ((((a == a') && ((b == b') && true)) && ((w == w') && true)) && D.eqvs (L.map encE) (L'.map encE)) = _
    rw [ih]
    by_cases h1 : a = a' <;> by_cases h2 : b = b' <;> by_cases h3 : w = w' <;> by_cases h4 : L = L' <;> simp [h1, h2, h3, h4]
theorem eq_lot {s s' : Nat} {L L' : Ps} (hL : L.length ≤ 1000) (hL' : L'.length ≤ 1000) : cmpop .eq (lotD s L) (lotD s' L') = some (decide (s = s' ∧ L = L')) := by
  have p := enc_pl true s L hL
  have p' := enc_pl true s' L' hL'
  show (if (D.lay (lotM true s L) && D.lay (lotM true s' L') && decide (min (lotM true s L).dep (lotM true s' L').dep ≤ 64)) = true then some (D.eqv (lotD s L) (lotD s' L')) else none) = _
  rw [pl_lay p.1, pl_lay p'.1, decide_eq_true (Nat.le_trans (Nat.min_le_left _ _) (Nat.le_trans p.2 (by decide))), if_pos (by decide)]
  show some (((s : Int) == (s' : Int)) && (D.eqvs (L.map encE) (L'.map encE) && true)) = _
  rw [eqv_lots]
  by_cases h1 : s = s'
  · by_cases h2 : L = L' <;> simp [h1, h2]
  · have h3 : ¬ (s : Int) = (s' : Int) := by omega
    by_cases h2 : L = L' <;> simp [h1, h2, h3]
end Lib
end
section
namespace K05
open PySem PySem.Spec L2 Ev
open PyProof.Rows hiding St
/-! ### the text, by places -/
def top (i : Nat) : Stmt := PySem.Challenge.pw_anyhands_k05_never_more_by_stretches.main.body.getD i (.Pass ⟨0, 0, 0, 0⟩)
/-- with_tuples -/
def b0 : S := (.cons (.ite (.isis (.v 0) [.list, .tuple])
    (.cons (.ret (.bi .tuple (.lc (.call 0 (.cons (.v 1) .nil)) (.nm 1) (.seq (.v 0)) .absent [1])))
    .nil)
    .nil)
    (.cons (.ret (.v 0))
    .nil))
def n0 : List Str := ["value", "part"]
def d0 : Def := ⟨1, 2, false, false, b0, 0⟩
/-- has_stretch -/
def b1 : S := (.cons (.ret (.cmp3 .le .le .lt (.ci 0) (.v 1) (.v 2) (.v 0)))
    .nil)
def n1 : List Str := ["hours", "first", "last"]
def d1 : Def := ⟨3, 3, false, false, b1, 0⟩
/-- need_stretch -/
def b2 : S := (.cons (.ite (.not (.call 1 (.cons (.v 0) (.cons (.v 1) (.cons (.v 2) .nil)))))
    (.cons (.rais 1 35 (.cons (.v 1) (.cons (.v 2) .nil)))
    .nil)
    .nil)
    .nil)
def n2 : List Str := ["hours", "first", "last"]
def d2 : Def := ⟨3, 3, false, false, b2, 0⟩
/-- need_alike -/
def b3 : S := (.cons (.ite (.cmp .ne (.ix (.v 0) (.ci 0)) (.ix (.v 1) (.ci 0)))
    (.cons (.rais 0 33 .nil)
    .nil)
    .nil)
    .nil)
def n3 : List Str := ["one", "other"]
def d3 : Def := ⟨2, 2, false, false, b3, 0⟩
/-- hours_of -/
def b4 : S := (.cons (.ret (.ix (.v 0) (.ci 0)))
    .nil)
def n4 : List Str := ["lot"]
def d4 : Def := ⟨1, 1, false, false, b4, 0⟩
/-- all_stretches -/
def b5 : S := (.cons (.ret (.lc2 (.tup (.cons (.v 1) (.cons (.v 2) .nil))) (.nm 1) (.range1 (.v 0)) (.nm 2) (.range2 (.v 1) (.v 0)) .absent [1, 2] [2]))
    .nil)
def n5 : List Str := ["hours", "first", "last"]
def d5 : Def := ⟨1, 3, false, true, b5, 0⟩
/-- lies_within -/
def b6 : S := (.cons (.ret (.band (.cons (.cmp .le (.ix (.v 1) (.ci 0)) (.ix (.v 0) (.ci 0))) (.cons (.cmp .le (.ix (.v 0) (.ci 1)) (.ix (.v 1) (.ci 1))) .nil))))
    .nil)
def n6 : List Str := ["one", "other"]
def d6 : Def := ⟨2, 2, false, false, b6, 0⟩
/-- asked -/
def b7 : S := (.cons (.asg (.tp (.cons (.nm 3) (.cons (.nm 4) .nil))) (.v 0))
    (.cons (.exp (.call 2 (.cons (.v 3) (.cons (.v 1) (.cons (.v 2) .nil)))))
    (.cons (.ret (.bi .sum (.lc (.v 6) (.tp (.cons (.nm 5) (.cons (.nm 6) .nil))) (.seq (.v 4)) (.call 6 (.cons (.v 5) (.cons (.tup (.cons (.v 1) (.cons (.v 2) .nil))) .nil))) [5, 6])))
    .nil)))
def n7 : List Str := ["lot", "first", "last", "hours", "errands", "window", "work"]
def d7 : Def := ⟨3, 7, false, false, b7, 0⟩
/-- table_of -/
def b8 : S := (.cons (.ret (.bi .tuple (.lc (.call 7 (.cons (.v 0) (.cons (.v 1) (.cons (.v 2) .nil)))) (.tp (.cons (.nm 1) (.cons (.nm 2) .nil))) (.seq (.call 5 (.cons (.call 4 (.cons (.v 0) .nil)) .nil))) .absent [1, 2])))
    .nil)
def n8 : List Str := ["lot", "first", "last"]
def d8 : Def := ⟨1, 3, false, false, b8, 0⟩
/-- never_more -/
def b9 : S := (.cons (.ret (.not (.call 11 (.cons (.v 0) (.cons (.v 1) .nil)))))
    .nil)
def n9 : List Str := ["one", "other"]
def d9 : Def := ⟨2, 2, false, false, b9, 0⟩
/-- compare -/
def b10 : S := (.cons (.ite (.cmp .eq (.call 0 (.cons (.v 0) .nil)) (.call 0 (.cons (.v 1) .nil)))
    (.cons (.ret (.cs "alike"))
    .nil)
    .nil)
    (.cons (.ite (.call 9 (.cons (.v 0) (.cons (.v 1) .nil)))
    (.cons (.ret (.cs "lighter"))
    .nil)
    .nil)
    (.cons (.ret (.ite (.call 9 (.cons (.v 1) (.cons (.v 0) .nil))) (.cs "heavier") (.cs "neither")))
    .nil)))
def n10 : List Str := ["one", "other"]
def d10 : Def := ⟨2, 2, false, false, b10, 0⟩
/-- over -/
def b11 : S := (.cons (.exp (.call 3 (.cons (.v 0) (.cons (.v 1) .nil))))
    (.cons (.asg (.nm 2) (.lz3 (.cons (.call 5 (.cons (.call 4 (.cons (.v 0) .nil)) .nil)) (.cons (.call 8 (.cons (.v 0) .nil)) (.cons (.call 8 (.cons (.v 1) .nil)) .nil)))))
    (.cons (.ret (.lc (.tup (.cons (.v 3) (.cons (.v 4) (.cons (.bin .sub (.v 5) (.v 6)) .nil)))) (.tp (.cons (.tp (.cons (.nm 3) (.cons (.nm 4) .nil))) (.cons (.nm 5) (.cons (.nm 6) .nil)))) (.seq (.v 2)) (.cmp .gt (.v 5) (.v 6)) [3, 4, 5, 6]))
    .nil)))
def n11 : List Str := ["one", "other", "rows", "first", "last", "more", "less"]
def d11 : Def := ⟨2, 7, false, true, b11, 0⟩
/-- _law_box -/
def b12 : S := (.cons (.asg (.nm 2) (.ite (.cmp .lt (.v 1) (.bi .len (.v 0))) (.ix (.v 0) (.v 1)) (.ci 0)))
    (.cons (.ret (.lst (.cons (.bin .mul (.bi .abs (.v 2)) (.bi .int (.cmp .ge (.bi .abs (.v 2)) (.bin .pow (.ci 10) (.ci 18))))) (.cons (.bin .add (.bin .add (.bin .mod (.bi .int (.v 2)) (.ci 2305843009213693951)) (.bin .mul (.ci 39373) (.v 1))) (.ci 6865)) (.cons (.ci 0) .nil)))))
    .nil))
def n12 : List Str := ["_law_script", "_law_k", "_law_cell"]
def d12 : Def := ⟨2, 3, false, true, b12, 0⟩
/-- _law_take -/
def b13 : S := (.cons (.ite (.cmp .gt (.ixo 0 (.ci 0)) (.ci 0))
    (.cons (.asg (.nm 2) (.bin .mod (.bi .int (.ixo 0 (.ci 0))) (.v 1)))
    (.cons (.seti 0 (.ci 0) (.bin .fdiv (.ixo 0 (.ci 0)) (.v 1)))
    (.cons (.ret (.v 2))
    .nil)))
    .nil)
    (.cons (.seti 0 (.ci 2) (.bin .add (.ixo 0 (.ci 2)) (.ci 1)))
    (.cons (.asg (.nm 3) (.bin .mod (.bi .int (.bin .mul (.bin .add (.ixo 0 (.ci 1)) (.bin .mul (.ci 48271) (.ixo 0 (.ci 2)))) (.bin .add (.ci 39373) (.ixo 0 (.ci 2))))) (.ci 2147483647)))
    (.cons (.asg (.nm 4) (.bin .add (.bin .mod (.bi .int (.v 3)) (.ci 40009)) (.ci 7)))
    (.cons (.asg (.nm 5) (.bin .mod (.bi .int (.bin .mul (.bin .add (.bin .add (.v 3) (.ixo 0 (.ci 2))) (.bin .fdiv (.ixo 0 (.ci 1)) (.ci 1000003))) (.v 4))) (.ci 2147483629)))
    (.cons (.ret (.bin .mod (.bi .int (.bin .fdiv (.bin .mod (.bi .int (.bin .add (.bin .mul (.v 5) (.ci 48271)) (.v 3))) (.ci 2147483587)) (.ci 64))) (.v 1)))
    .nil))))))
def n13 : List Str := ["_law_box_here", "_law_below_so", "_law_drawn_so", "_law_once", "_law_far_so", "_law_twice_so"]
def d13 : Def := ⟨2, 6, true, false, b13, 0⟩
/-- _law_cells -/
def b14 : S := (.cons (.asgo 2 (.orf (.bi .list (.sl (.v 0) .absent (.v 1))) (.lst (.cons (.ci 0) .nil))))
    (.cons (.for_ (.tp (.cons (.nm 3) (.cons (.nm 4) .nil))) (.enum (.sl (.v 0) (.v 1) (.ci 63)))
    (.cons (.asg (.nm 5) (.bin .mod (.bi .int (.v 3)) (.v 1)))
    (.cons (.seti 2 (.v 5) (.bin .add (.ixo 2 (.v 5)) (.bin .mul (.v 4) (.bin .add (.v 3) (.ci 2)))))
    .nil)))
    (.cons (.ret (.v 2))
    .nil)))
def n14 : List Str := ["_law_script", "_law_most_so", "_law_cells_here", "_law_k", "_law_cell", "_law_at_so"]
def d14 : Def := ⟨2, 6, false, false, b14, 0⟩
/-- _law_of -/
def b15 : S := (.cons (.ret (.ix (.v 1) (.callo 13 0 (.cons (.bi .len (.v 1)) .nil))))
    .nil)
def n15 : List Str := ["_law_box_here", "_law_pool_so"]
def d15 : Def := ⟨2, 2, true, false, b15, 0⟩
/-- _law_lists -/
def b16 : S := (.cons (.ret (.ite (.isis (.v 0) [.list, .tuple]) (.lc (.call 16 (.cons (.v 1) .nil)) (.nm 1) (.seq (.v 0)) .absent [1]) (.v 0)))
    .nil)
def n16 : List Str := ["_law_matter", "_law_bit"]
def d16 : Def := ⟨1, 2, false, false, b16, 0⟩
/-- _law_same -/
def b17 : S := (.cons (.ite (.isis (.v 1) [.list, .tuple])
    (.cons (.ite (.bor (.cons (.cmp .ne (.isi (.v 0) .list) (.isi (.v 1) .list)) (.cons (.cmp .ne (.isi (.v 0) .tuple) (.isi (.v 1) .tuple)) .nil)))
    (.cons (.ret (.cb false))
    .nil)
    .nil)
    (.cons (.ret (.band (.cons (.cmp .eq (.bi .len (.v 0)) (.bi .len (.v 1))) (.cons (.bi .all (.lc (.call 17 (.cons (.v 2) (.cons (.v 3) .nil))) (.tp (.cons (.nm 2) (.cons (.nm 3) .nil))) (.zip (.v 0) (.v 1)) .absent [2, 3])) .nil))))
    .nil))
    .nil)
    (.cons (.ite (.bor (.cons (.cmp .isn (.v 1) .cn) (.cons (.isis (.v 1) [.bool, .str]) .nil)))
    (.cons (.ret (.band (.cons (.cmp .eq (.v 0) (.v 1)) (.cons (.cmp .eq (.isi (.v 0) .bool) (.isi (.v 1) .bool)) (.cons (.cmp .eq (.cmp .isn (.v 0) .cn) (.cmp .isn (.v 1) .cn)) .nil)))))
    .nil)
    .nil)
    (.cons (.ret (.band (.cons (.isi (.v 0) .int) (.cons (.not (.isi (.v 0) .bool)) (.cons (.cmp .eq (.v 0) (.v 1)) .nil)))))
    .nil)))
def n17 : List Str := ["_law_got", "_law_due_so", "_law_mine", "_law_its"]
def d17 : Def := ⟨2, 4, false, false, b17, 0⟩
/-- _law_spans -/
def b18 : S := (.cons (.asg (.nm 1) (.lst .nil))
    (.cons (.for_ (.nm 2) (.range1 (.v 0))
    (.cons (.asg (.nm 1) (.bin .add (.v 1) (.lc (.tup (.cons (.v 2) (.cons (.v 3) .nil))) (.nm 3) (.range2 (.v 2) (.v 0)) .absent [3])))
    .nil))
    (.cons (.ret (.v 1))
    .nil)))
def n18 : List Str := ["_law_size_so", "_law_found", "_law_near_so", "_law_far_so"]
def d18 : Def := ⟨1, 4, false, false, b18, 0⟩
/-- _law_lot -/
def b19 : S := (.cons (.par 3 4 false true (.callo 13 0 (.cons (.ci 4) .nil)) (.lst .nil))
    (.cons (.for_ (.nm 5) (.seq (.call 18 (.cons (.v 1) .nil)))
    (.cons (.asg (.nm 6) (.ite (.bor (.cons (.cmp .lt (.v 3) (.ci 1)) (.cons (.cmp .eq (.callo 13 0 (.cons (.bin .add (.ci 1) (.v 3)) .nil)) (.ci 0)) .nil))) (.callo 13 0 (.cons (.bin .add (.v 2) (.ci 1)) .nil)) (.ci 0)))
    (.cons (.ite (.cmp .gt (.v 6) (.ci 0))
    (.cons (.app 4 (.tup (.cons (.v 5) (.cons (.v 6) .nil))))
    .nil)
    .nil)
    .nil)))
    (.cons (.ret (.tup (.cons (.v 1) (.cons (.bi .tuple (.v 4)) .nil))))
    .nil)))
def n19 : List Str := ["_law_box_here", "_law_size_so", "_law_top_so", "_law_sort_so", "_law_found", "_law_span_so", "_law_many_so"]
def d19 : Def := ⟨3, 7, true, false, b19, 0⟩
/-- _law_great -/
def b20 : S := (.cons (.asgo 2 (.lst .nil))
    (.cons (.for_ (.nm 3) (.seq (.call 18 (.cons (.v 1) .nil)))
    (.cons (.asg (.nm 4) (.callo 13 0 (.cons (.callo 15 0 (.cons (.lst (.cons (.ci 1) (.cons (.ci 2) (.cons (.ci 10) (.cons (.bin .pow (.ci 10) (.ci 6)) (.cons (.bin .pow (.ci 10) (.ci 38)) .nil)))))) .nil)) .nil)))
    (.cons (.ite (.cmp .gt (.v 4) (.ci 0))
    (.cons (.app 2 (.tup (.cons (.v 3) (.cons (.v 4) .nil))))
    .nil)
    .nil)
    .nil)))
    (.cons (.ret (.tup (.cons (.v 1) (.cons (.bi .tuple (.v 2)) .nil))))
    .nil)))
def n20 : List Str := ["_law_box_here", "_law_size_so", "_law_found", "_law_span_so", "_law_many_so"]
def d20 : Def := ⟨2, 5, true, false, b20, 0⟩
/-- _law_table -/
def b21 : S := (.cons (.asgo 1 (.dct (.lc (.tup (.cons (.v 2) (.cons (.ci 0) .nil))) (.nm 2) (.seq (.call 18 (.cons (.ix (.v 0) (.ci 0)) .nil))) .absent [2])))
    (.cons (.for_ (.tp (.cons (.nm 2) (.cons (.nm 3) .nil))) (.seq (.ix (.v 0) (.ci 1)))
    (.cons (.seti 1 (.v 2) (.v 3))
    .nil))
    (.cons (.reto 1)
    .nil)))
def n21 : List Str := ["_law_lot_so", "_law_found", "_law_span_so", "_law_many_so"]
def d21 : Def := ⟨1, 4, false, true, b21, 0⟩
/-- _law_made -/
def b22 : S := (.cons (.ret (.tup (.cons (.v 0) (.cons (.bi .tuple (.lc (.tup (.cons (.v 2) (.cons (.ix (.v 1) (.v 2)) .nil))) (.nm 2) (.seq (.srt (.v 1))) (.cmp .gt (.ix (.v 1) (.v 2)) (.ci 0)) [2])) .nil))))
    .nil)
def n22 : List Str := ["_law_size_so", "_law_table_so", "_law_own"]
def d22 : Def := ⟨2, 3, false, false, b22, 0⟩
/-- _law_asked -/
def b23 : S := (.cons (.asg (.nm 2) (.lc (.v 4) (.tp (.cons (.nm 3) (.cons (.nm 4) .nil))) (.seq (.ix (.v 0) (.ci 1))) (.band (.cons (.cmp .le (.ix (.v 1) (.ci 0)) (.ix (.v 3) (.ci 0))) (.cons (.cmp .le (.ix (.v 3) (.ci 1)) (.ix (.v 1) (.ci 1))) .nil))) [3, 4]))
    (.cons (.ret (.bi .sum (.v 2)))
    .nil))
def n23 : List Str := ["_law_lot_so", "_law_span_so", "_law_some", "_law_own", "_law_many_so"]
def d23 : Def := ⟨2, 5, false, false, b23, 0⟩
/-- _law_over -/
def b24 : S := (.cons (.ret (.lc (.bin .sub (.call 23 (.cons (.v 0) (.cons (.v 2) .nil))) (.call 23 (.cons (.v 1) (.cons (.v 2) .nil)))) (.nm 2) (.seq (.call 18 (.cons (.ix (.v 0) (.ci 0)) .nil))) .absent [2]))
    .nil)
def n24 : List Str := ["_law_mine_so", "_law_its_so", "_law_own"]
def d24 : Def := ⟨2, 3, false, true, b24, 0⟩
/-- _law_moved -/
def b25 : S := (.cons (.par 3 4 true false (.call 21 (.cons (.v 1) .nil)) (.bin .sub (.ix (.v 1) (.ci 0)) (.ci 1)))
    (.cons (.for_ (.nm 5) (.range1 (.v 2))
    (.cons (.asg (.nm 6) (.lc (.v 7) (.nm 7) (.seq (.srto 3)) (.cmp .gt (.ixo 3 (.v 7)) (.ci 0)) [7]))
    (.cons (.asg (.nm 8) (.callo 13 0 (.cons (.ci 5) .nil)))
    (.cons (.ite (.bor (.cons (.cmp .eq (.v 6) (.lst .nil)) (.cons (.cmp .eq (.v 8) (.ci 0)) .nil)))
    (.cons (.asg (.nm 7) (.callo 15 0 (.cons (.call 18 (.cons (.ix (.v 1) (.ci 0)) .nil)) .nil)))
    (.cons (.seti 3 (.v 7) (.bin .add (.bin .add (.ixo 3 (.v 7)) (.ci 1)) (.callo 13 0 (.cons (.ci 2) .nil))))
    .nil))
    (.cons (.ite (.cmp .eq (.v 8) (.ci 1))
    (.cons (.asg (.nm 7) (.callo 15 0 (.cons (.v 6) .nil)))
    (.cons (.seti 3 (.v 7) (.bin .sub (.ixo 3 (.v 7)) (.ci 1)))
    .nil))
    (.cons (.ite (.cmp .eq (.v 8) (.ci 2))
    (.cons (.asg (.nm 7) (.callo 15 0 (.cons (.v 6) .nil)))
    (.cons (.asg (.nm 9) (.tup (.cons (.mm true (.ci 0) (.bin .sub (.ix (.v 7) (.ci 0)) (.callo 13 0 (.cons (.ci 2) .nil)))) (.cons (.mm false (.v 4) (.bin .add (.ix (.v 7) (.ci 1)) (.callo 13 0 (.cons (.ci 2) .nil)))) .nil))))
    (.cons (.seti 3 (.v 7) (.bin .sub (.ixo 3 (.v 7)) (.ci 1)))
    (.cons (.seti 3 (.v 9) (.bin .add (.ixo 3 (.v 9)) (.ci 1)))
    .nil))))
    (.cons (.par 10 11 false false (.callo 15 0 (.cons (.v 6) .nil)) (.callo 15 0 (.cons (.v 6) .nil)))
    (.cons (.ite (.band (.cons (.cmp .ne (.v 10) (.v 11)) (.cons (.cmp .le (.ix (.v 10) (.ci 0)) (.ix (.v 11) (.ci 1))) (.cons (.cmp .le (.ix (.v 11) (.ci 0)) (.ix (.v 10) (.ci 1))) .nil))))
    (.cons (.par 12 9 false false (.tup (.cons (.ix (.v 10) (.ci 0)) (.cons (.ix (.v 11) (.ci 1)) .nil))) (.tup (.cons (.ix (.v 11) (.ci 0)) (.cons (.ix (.v 10) (.ci 1)) .nil))))
    (.cons (.for_ (.tp (.cons (.nm 7) (.cons (.nm 13) .nil))) (.seq (.tup (.cons (.tup (.cons (.v 10) (.cons (.neg (.ci 1)) .nil))) (.cons (.tup (.cons (.v 11) (.cons (.neg (.ci 1)) .nil))) (.cons (.tup (.cons (.v 12) (.cons (.ci 1) .nil))) (.cons (.tup (.cons (.v 9) (.cons (.ci 1) .nil))) .nil))))))
    (.cons (.seti 3 (.v 7) (.bin .add (.ixo 3 (.v 7)) (.v 13)))
    .nil))
    .nil))
    .nil)
    .nil)))
    .nil))
    .nil))
    .nil))))
    (.cons (.ret (.call 22 (.cons (.ix (.v 1) (.ci 0)) (.cons (.v 3) .nil))))
    .nil)))
def n25 : List Str := ["_law_box_here", "_law_lot_so", "_law_laps_so", "_law_table_so", "_law_last_so", "_law_turn", "_law_some", "_law_own", "_law_sort_so", "_law_far_so", "_law_one_so", "_law_two_so", "_law_near_so", "_law_sign_so"]
def d25 : Def := ⟨3, 14, true, false, b25, 0⟩
/-- _law_heard -/
def b26 : S := (.cons (.asg (.tp (.cons (.nm 3) (.cons (.nm 4) .nil))) (.tup (.cons .cn (.cons .cn .nil))))
    (.cons (.try_ (.cons (.asg (.nm 3) (.ite (.cmp .eq (.v 0) (.ci 0)) (.callk 9 .nil (.cons (.v 2) (.cons (.v 1) .nil)) [1, 0]) (.callk 10 .nil (.cons (.v 2) (.cons (.v 1) .nil)) [1, 0])))
    .nil) 0 [] 5 (.cons (.asg (.nm 4) (.v 5))
    .nil))
    (.cons (.ret (.ite (.cmp .isn (.v 4) .cn) (.v 3) (.lst (.cons (.cs "unlike") (.cons (.isx (.v 4) [0]) .nil)))))
    .nil)))
def n26 : List Str := ["_law_door_so", "_law_one_so", "_law_other_so", "_law_told", "_law_caught", "error_so"]
def d26 : Def := ⟨3, 6, false, false, b26, 0⟩
/-- _law_due -/
def b27 : S := (.cons (.ite (.cmp .ne (.ix (.v 0) (.ci 0)) (.ix (.v 1) (.ci 0)))
    (.cons (.ret (.bin .mul (.lst (.cons (.lst (.cons (.cs "unlike") (.cons (.cb true) .nil))) .nil)) (.ci 2)))
    .nil)
    .nil)
    (.cons (.asg (.nm 2) (.call 24 (.cons (.v 0) (.cons (.v 1) .nil))))
    (.cons (.ite (.band (.cons (.cmp .eq (.bi .min (.v 2)) (.ci 0)) (.cons (.cmp .eq (.bi .max (.v 2)) (.ci 0)) .nil)))
    (.cons (.ret (.lst (.cons (.cb true) (.cons (.cs "alike") .nil))))
    .nil)
    .nil)
    (.cons (.ite (.cmp .le (.bi .max (.v 2)) (.ci 0))
    (.cons (.ret (.lst (.cons (.cb true) (.cons (.cs "lighter") .nil))))
    .nil)
    .nil)
    (.cons (.ret (.lst (.cons (.cb false) (.cons (.ite (.cmp .ge (.bi .min (.v 2)) (.ci 0)) (.cs "heavier") (.cs "neither")) .nil))))
    .nil)))))
def n27 : List Str := ["_law_one_so", "_law_other_so", "_law_some"]
def d27 : Def := ⟨2, 3, false, false, b27, 0⟩
/-- _law_case_right -/
def b28 : S := (.cons (.asg (.tp (.cons (.nm 2) (.cons (.nm 3) .nil))) (.tup (.cons (.call 16 (.cons (.v 0) .nil)) (.cons (.call 16 (.cons (.v 1) .nil)) .nil))))
    (.cons (.asg (.nm 4) (.call 27 (.cons (.v 0) (.cons (.v 1) .nil))))
    (.cons (.asgo 5 (.lst (.cons (.lc (.call 26 (.cons (.v 6) (.cons (.v 0) (.cons (.v 1) .nil)))) (.nm 6) (.range1 (.ci 2)) .absent [6]) .nil)))
    (.cons (.app 5 (.lc (.call 26 (.cons (.v 6) (.cons (.v 2) (.cons (.v 3) .nil)))) (.nm 6) (.range1 (.ci 2)) .absent [6]))
    (.cons (.ite (.not (.call 17 (.cons (.v 5) (.cons (.lst (.cons (.v 4) (.cons (.v 4) .nil))) .nil))))
    (.cons (.ret (.cb false))
    .nil)
    .nil)
    (.cons (.ret (.band (.cons (.cmp .eq (.v 2) (.call 16 (.cons (.v 0) .nil))) (.cons (.cmp .eq (.v 3) (.call 16 (.cons (.v 1) .nil))) .nil))))
    .nil))))))
def n28 : List Str := ["_law_one_so", "_law_other_so", "_law_soft_so", "_law_its_so", "_law_due_so", "_law_got", "_law_door_so"]
def d28 : Def := ⟨2, 7, false, false, b28, 0⟩
/-- _law_by_hand_right -/
def b29 : S := (.cons (.asgo 0 (.lst (.cons (.tup (.cons (.ci 3) (.cons (.tup (.cons (.tup (.cons (.tup (.cons (.ci 0) (.cons (.ci 1) .nil))) (.cons (.ci 1) .nil))) (.cons (.tup (.cons (.tup (.cons (.ci 1) (.cons (.ci 2) .nil))) (.cons (.ci 1) .nil))) .nil))) .nil))) (.cons (.tup (.cons (.ci 3) (.cons (.tup (.cons (.tup (.cons (.tup (.cons (.ci 0) (.cons (.ci 2) .nil))) (.cons (.ci 1) .nil))) (.cons (.tup (.cons (.tup (.cons (.ci 1) (.cons (.ci 1) .nil))) (.cons (.ci 1) .nil))) .nil))) .nil))) (.cons (.tup (.cons (.ci 3) (.cons (.tup (.cons (.tup (.cons (.tup (.cons (.ci 0) (.cons (.ci 2) .nil))) (.cons (.ci 2) .nil))) .nil)) .nil))) (.cons (.tup (.cons (.ci 3) (.cons (.tup (.cons (.tup (.cons (.tup (.cons (.ci 0) (.cons (.ci 0) .nil))) (.cons (.ci 1) .nil))) .nil)) .nil))) .nil))))))
    (.cons (.app 0 (.tup (.cons (.ci 3) (.cons (.tup .nil) .nil))))
    (.cons (.par 1 2 true true (.lst .nil) (.lst .nil))
    (.cons (.for_ (.nm 3) (.seq (.v 0))
    (.cons (.app 1 (.lc (.call 10 (.cons (.v 3) (.cons (.v 4) .nil))) (.nm 4) (.seq (.v 0)) .absent [4]))
    (.cons (.app 2 (.lc (.call 9 (.cons (.v 3) (.cons (.v 4) .nil))) (.nm 4) (.seq (.v 0)) .absent [4]))
    .nil)))
    (.cons (.asgo 5 (.lst (.cons (.lst (.cons (.cs "alike") (.cons (.cs "lighter") (.cons (.cs "heavier") (.cons (.cs "neither") (.cons (.cs "heavier") .nil)))))) .nil)))
    (.cons (.app 5 (.lst (.cons (.cs "heavier") (.cons (.cs "alike") (.cons (.cs "heavier") (.cons (.cs "neither") (.cons (.cs "heavier") .nil)))))))
    (.cons (.app 5 (.lst (.cons (.cs "lighter") (.cons (.cs "lighter") (.cons (.cs "alike") (.cons (.cs "neither") (.cons (.cs "heavier") .nil)))))))
    (.cons (.app 5 (.lst (.cons (.cs "neither") (.cons (.cs "neither") (.cons (.cs "neither") (.cons (.cs "alike") (.cons (.cs "heavier") .nil)))))))
    (.cons (.app 5 (.lst (.cons (.cs "lighter") (.cons (.cs "lighter") (.cons (.cs "lighter") (.cons (.cs "lighter") (.cons (.cs "alike") .nil)))))))
    (.cons (.ite (.not (.call 17 (.cons (.v 1) (.cons (.v 5) .nil))))
    (.cons (.ret (.cb false))
    .nil)
    .nil)
    (.cons (.for_ (.tp (.cons (.nm 6) (.cons (.nm 7) .nil))) (.enum (.v 5))
    (.cons (.ite (.not (.call 17 (.cons (.ixo 2 (.v 6)) (.cons (.lc (.cmp .inn (.v 3) (.tup (.cons (.cs "alike") (.cons (.cs "lighter") .nil)))) (.nm 3) (.seq (.v 7)) .absent [3]) .nil))))
    (.cons (.ret (.cb false))
    .nil)
    .nil)
    .nil))
    (.cons (.asg (.nm 8) (.bin .pow (.ci 10) (.ci 40)))
    (.cons (.asg (.nm 9) (.tup (.cons (.ci 8) (.cons (.tup (.cons (.tup (.cons (.tup (.cons (.ci 0) (.cons (.ci 7) .nil))) (.cons (.v 8) .nil))) (.cons (.tup (.cons (.tup (.cons (.ci 3) (.cons (.ci 4) .nil))) (.cons (.v 8) .nil))) .nil))) .nil))))
    (.cons (.asg (.nm 10) (.tup (.cons (.ci 8) (.cons (.tup (.cons (.tup (.cons (.tup (.cons (.ci 0) (.cons (.ci 4) .nil))) (.cons (.ci 1) .nil))) (.cons (.tup (.cons (.tup (.cons (.ci 0) (.cons (.ci 7) .nil))) (.cons (.bin .sub (.v 8) (.ci 1)) .nil))) (.cons (.tup (.cons (.tup (.cons (.ci 3) (.cons (.ci 4) .nil))) (.cons (.bin .sub (.v 8) (.ci 1)) .nil))) (.cons (.tup (.cons (.tup (.cons (.ci 3) (.cons (.ci 7) .nil))) (.cons (.ci 1) .nil))) .nil))))) .nil))))
    (.cons (.asgo 1 (.lst (.cons (.call 10 (.cons (.v 10) (.cons (.v 9) .nil))) (.cons (.call 9 (.cons (.v 9) (.cons (.v 10) .nil))) (.cons (.call 10 (.cons (.tup (.cons (.ci 1) (.cons (.tup (.cons (.tup (.cons (.tup (.cons (.ci 0) (.cons (.ci 0) .nil))) (.cons (.ci 1) .nil))) .nil)) .nil))) (.cons (.tup (.cons (.ci 1) (.cons (.tup .nil) .nil))) .nil))) .nil)))))
    (.cons (.asgo 1 (.ladd (.v 1) (.lc (.call 26 (.cons (.v 11) (.cons (.ixo 0 (.ci 0)) (.cons (.tup (.cons (.ci 2) (.cons (.tup .nil) .nil))) .nil)))) (.nm 11) (.range1 (.ci 2)) .absent [11])))
    (.cons (.ret (.call 17 (.cons (.v 1) (.cons (.lst (.cons (.cs "lighter") (.cons (.cb false) (.cons (.cs "heavier") (.cons (.lst (.cons (.cs "unlike") (.cons (.cb true) .nil))) (.cons (.lst (.cons (.cs "unlike") (.cons (.cb true) .nil))) .nil)))))) .nil))))
    .nil)))))))))))))))))
def n29 : List Str := ["_law_some", "_law_got", "_law_its_so", "_law_own", "_law_other_so", "_law_due_so", "_law_k", "_law_row_so", "_law_high_so", "_law_wide_so", "_law_less_so", "_law_door_so"]
def d29 : Def := ⟨0, 12, false, false, b29, 0⟩
/-- _law_right -/
def b30 : S := (.cons (.for_ (.nm 1) (.range1 (.ci 10))
    (.cons (.asg (.nm 2) (.bin .add (.ci 1) (.callo 13 0 (.cons (.ci 7) .nil))))
    (.cons (.asg (.nm 3) (.ite (.cmp .lt (.v 1) (.ci 2)) (.callo 20 0 (.cons (.v 2) .nil)) (.callo 19 0 (.cons (.v 2) (.cons (.ci 4) .nil)))))
    (.cons (.asg (.nm 4) (.callo 25 0 (.cons (.v 3) (.cons (.bin .add (.ci 1) (.callo 13 0 (.cons (.ci 5) .nil))) .nil))))
    (.cons (.ite (.cmp .eq (.callo 13 0 (.cons (.ci 5) .nil)) (.ci 0))
    (.cons (.asg (.nm 4) (.callo 19 0 (.cons (.bin .add (.ci 1) (.callo 13 0 (.cons (.ci 7) .nil))) (.cons (.ci 3) .nil))))
    .nil)
    .nil)
    (.cons (.ite (.not (.call 28 (.cons (.v 3) (.cons (.v 4) .nil))))
    (.cons (.ret (.cb false))
    .nil)
    .nil)
    (.cons (.ite (.not (.call 28 (.cons (.v 4) (.cons (.v 3) .nil))))
    (.cons (.ret (.cb false))
    .nil)
    .nil)
    .nil)))))))
    (.cons (.ret (.cb true))
    .nil))
def n30 : List Str := ["_law_box_here", "_law_turn", "_law_size_so", "_law_one_so", "_law_other_so"]
def d30 : Def := ⟨1, 5, true, false, b30, 0⟩
/-- law -/
def b31 : S := (.cons (.ite (.not (.call 29 .nil))
    (.cons (.ret (.cb false))
    .nil)
    .nil)
    (.cons (.asg (.nm 1) (.call 14 (.cons (.v 0) (.cons (.ci 3) .nil))))
    (.cons (.ret (.bi .all (.lc (.callf 30 (.call 12 (.cons (.v 1) (.cons (.v 2) .nil))) .nil) (.nm 2) (.range1 (.bi .len (.v 1))) .absent [2])))
    .nil)))
def n31 : List Str := ["_law_script", "_law_cells_here", "_law_k"]
def d31 : Def := ⟨1, 3, false, false, b31, 0⟩
def i0 : Def := ⟨1, 1, false, false, .cons (.ret (.tup .nil)) .nil, 1⟩
def g0 : Def := ⟨32, 0, false, false, .nil, 2⟩
def ie1 : E := (.cons (.call 0 (.cons (.v 1) .nil)) (.cons (.call 0 (.cons (.v 2) .nil)) .nil))
def i1 : Def := ⟨3, 3, false, false, .cons (.ret (.tup ie1)) .nil, 1⟩
def g1 : Def := ⟨34, 0, false, false, .nil, 2⟩
def dfs : List Def := [d0, d1, d2, d3, d4, d5, d6, d7, d8, d9, d10, d11, d12, d13, d14, d15, d16, d17, d18, d19, d20, d21, d22, d23, d24, d25, d26, d27, d28, d29, d30, d31]
def ext : List Def := [i0, g0, i1, g1]
def defs : List Def := [d0, d1, d2, d3, d4, d5, d6, d7, d8, d9, d10, d11, d12, d13, d14, d15, d16, d17, d18, d19, d20, d21, d22, d23, d24, d25, d26, d27, d28, d29, d30, d31, i0, g0, i1, g1]
def tb : Tab := ⟨("with_tuples", false) :: ("has_stretch", false) :: ("need_stretch", false) :: ("need_alike", false) :: ("hours_of", false) :: ("all_stretches", true) :: ("lies_within", false) :: ("asked", false) :: ("table_of", false) :: ("never_more", false) :: ("compare", false) :: ("over", true) :: ("_law_box", true) :: ("_law_take", false) :: ("_law_cells", false) :: ("_law_of", false) :: ("_law_lists", false) :: ("_law_same", false) :: ("_law_spans", false) :: ("_law_lot", false) :: ("_law_great", false) :: ("_law_table", true) :: ("_law_made", false) :: ("_law_asked", false) :: ("_law_over", true) :: ("_law_moved", false) :: ("_law_heard", false) :: ("_law_due", false) :: ("_law_case_right", false) :: ("_law_by_hand_right", false) :: ("_law_right", false) :: ("law", false) :: [], [("Unlike", 0, 33, []), ("NoStretch", 1, 35, ["first", "last"])], [("ValueError", [0])]⟩
def kws : List (Nat × Nat × List Str × List Nat) := [(9, 0, ["other", "one"], [1, 0]), (10, 0, ["other", "one"], [1, 0])]
abbrev si1 : Stmt := classAt (top 4) 0
theorem im1 : mtIni ⟨["self", "first", "last"], tb.fns, [], tb.cls, tb.xis, false, false⟩ (defScope si1) "self" ie1 (defBody si1) ["first", "last"] = true := by decide +kernel
theorem isc1 : FnScope ["self", "first", "last"] ["self", "first", "last"] (defScope si1) := ⟨by decide +kernel, by decide +kernel, by decide +kernel, by decide +kernel, by decide +kernel, by decide +kernel, by decide +kernel⟩
abbrev s0 : Stmt := top 1
theorem m0 : mtSs ⟨n0, tb.fns, kws, tb.cls, tb.xis, false, false⟩ (defScope s0) b0 (defBody s0) = true := by decide +kernel
theorem sc0 : FnScope n0 ["value"] (defScope s0) := ⟨by decide +kernel, by decide +kernel, by decide +kernel, by decide +kernel, by decide +kernel, by decide +kernel, by decide +kernel⟩
abbrev s1 : Stmt := top 6
theorem m1 : mtSs ⟨n1, tb.fns, kws, tb.cls, tb.xis, false, false⟩ (defScope s1) b1 (defBody s1) = true := by decide +kernel
theorem sc1 : FnScope n1 ["hours", "first", "last"] (defScope s1) := ⟨by decide +kernel, by decide +kernel, by decide +kernel, by decide +kernel, by decide +kernel, by decide +kernel, by decide +kernel⟩
abbrev s2 : Stmt := top 7
theorem m2 : mtSs ⟨n2, tb.fns, kws, tb.cls, tb.xis, false, false⟩ (defScope s2) b2 (defBody s2) = true := by decide +kernel
theorem sc2 : FnScope n2 ["hours", "first", "last"] (defScope s2) := ⟨by decide +kernel, by decide +kernel, by decide +kernel, by decide +kernel, by decide +kernel, by decide +kernel, by decide +kernel⟩
abbrev s3 : Stmt := top 8
theorem m3 : mtSs ⟨n3, tb.fns, kws, tb.cls, tb.xis, false, false⟩ (defScope s3) b3 (defBody s3) = true := by decide +kernel
theorem sc3 : FnScope n3 ["one", "other"] (defScope s3) := ⟨by decide +kernel, by decide +kernel, by decide +kernel, by decide +kernel, by decide +kernel, by decide +kernel, by decide +kernel⟩
abbrev s4 : Stmt := top 10
theorem m4 : mtSs ⟨n4, tb.fns, kws, tb.cls, tb.xis, false, false⟩ (defScope s4) b4 (defBody s4) = true := by decide +kernel
theorem sc4 : FnScope n4 ["lot"] (defScope s4) := ⟨by decide +kernel, by decide +kernel, by decide +kernel, by decide +kernel, by decide +kernel, by decide +kernel, by decide +kernel⟩
abbrev s5 : Stmt := top 12
theorem m5 : mtSs ⟨n5, tb.fns, kws, tb.cls, tb.xis, false, true⟩ (defScope s5) b5 (defBody s5) = true := by decide +kernel
theorem sc5 : FnScope n5 ["hours"] (defScope s5) := ⟨by decide +kernel, by decide +kernel, by decide +kernel, by decide +kernel, by decide +kernel, by decide +kernel, by decide +kernel⟩
abbrev s6 : Stmt := top 13
theorem m6 : mtSs ⟨n6, tb.fns, kws, tb.cls, tb.xis, false, false⟩ (defScope s6) b6 (defBody s6) = true := by decide +kernel
theorem sc6 : FnScope n6 ["one", "other"] (defScope s6) := ⟨by decide +kernel, by decide +kernel, by decide +kernel, by decide +kernel, by decide +kernel, by decide +kernel, by decide +kernel⟩
abbrev s7 : Stmt := top 14
theorem m7 : mtSs ⟨n7, tb.fns, kws, tb.cls, tb.xis, false, false⟩ (defScope s7) b7 (defBody s7) = true := by decide +kernel
theorem sc7 : FnScope n7 ["lot", "first", "last"] (defScope s7) := ⟨by decide +kernel, by decide +kernel, by decide +kernel, by decide +kernel, by decide +kernel, by decide +kernel, by decide +kernel⟩
abbrev s8 : Stmt := top 15
theorem m8 : mtSs ⟨n8, tb.fns, kws, tb.cls, tb.xis, false, false⟩ (defScope s8) b8 (defBody s8) = true := by decide +kernel
theorem sc8 : FnScope n8 ["lot"] (defScope s8) := ⟨by decide +kernel, by decide +kernel, by decide +kernel, by decide +kernel, by decide +kernel, by decide +kernel, by decide +kernel⟩
abbrev s9 : Stmt := top 17
theorem m9 : mtSs ⟨n9, tb.fns, kws, tb.cls, tb.xis, false, false⟩ (defScope s9) b9 (defBody s9) = true := by decide +kernel
theorem sc9 : FnScope n9 ["one", "other"] (defScope s9) := ⟨by decide +kernel, by decide +kernel, by decide +kernel, by decide +kernel, by decide +kernel, by decide +kernel, by decide +kernel⟩
abbrev s10 : Stmt := top 18
theorem m10 : mtSs ⟨n10, tb.fns, kws, tb.cls, tb.xis, false, false⟩ (defScope s10) b10 (defBody s10) = true := by decide +kernel
theorem sc10 : FnScope n10 ["one", "other"] (defScope s10) := ⟨by decide +kernel, by decide +kernel, by decide +kernel, by decide +kernel, by decide +kernel, by decide +kernel, by decide +kernel⟩
abbrev s11 : Stmt := top 19
theorem m11 : mtSs ⟨n11, tb.fns, kws, tb.cls, tb.xis, false, true⟩ (defScope s11) b11 (defBody s11) = true := by decide +kernel
theorem sc11 : FnScope n11 ["one", "other"] (defScope s11) := ⟨by decide +kernel, by decide +kernel, by decide +kernel, by decide +kernel, by decide +kernel, by decide +kernel, by decide +kernel⟩
abbrev s12 : Stmt := top 21
theorem m12 : mtSs ⟨n12, tb.fns, kws, tb.cls, tb.xis, false, true⟩ (defScope s12) b12 (defBody s12) = true := by decide +kernel
theorem sc12 : FnScope n12 ["_law_script", "_law_k"] (defScope s12) := ⟨by decide +kernel, by decide +kernel, by decide +kernel, by decide +kernel, by decide +kernel, by decide +kernel, by decide +kernel⟩
abbrev s13 : Stmt := top 22
theorem m13 : mtSs ⟨n13, tb.fns, kws, tb.cls, tb.xis, true, false⟩ (defScope s13) b13 (defBody s13) = true := by decide +kernel
theorem sc13 : FnScope n13 ["_law_box_here", "_law_below_so"] (defScope s13) := ⟨by decide +kernel, by decide +kernel, by decide +kernel, by decide +kernel, by decide +kernel, by decide +kernel, by decide +kernel⟩
abbrev s14 : Stmt := top 23
theorem m14 : mtSs ⟨n14, tb.fns, kws, tb.cls, tb.xis, false, false⟩ (defScope s14) b14 (defBody s14) = true := by decide +kernel
theorem sc14 : FnScope n14 ["_law_script", "_law_most_so"] (defScope s14) := ⟨by decide +kernel, by decide +kernel, by decide +kernel, by decide +kernel, by decide +kernel, by decide +kernel, by decide +kernel⟩
abbrev s15 : Stmt := top 24
theorem m15 : mtSs ⟨n15, tb.fns, kws, tb.cls, tb.xis, true, false⟩ (defScope s15) b15 (defBody s15) = true := by decide +kernel
theorem sc15 : FnScope n15 ["_law_box_here", "_law_pool_so"] (defScope s15) := ⟨by decide +kernel, by decide +kernel, by decide +kernel, by decide +kernel, by decide +kernel, by decide +kernel, by decide +kernel⟩
abbrev s16 : Stmt := top 25
theorem m16 : mtSs ⟨n16, tb.fns, kws, tb.cls, tb.xis, false, false⟩ (defScope s16) b16 (defBody s16) = true := by decide +kernel
theorem sc16 : FnScope n16 ["_law_matter"] (defScope s16) := ⟨by decide +kernel, by decide +kernel, by decide +kernel, by decide +kernel, by decide +kernel, by decide +kernel, by decide +kernel⟩
abbrev s17 : Stmt := top 26
theorem m17 : mtSs ⟨n17, tb.fns, kws, tb.cls, tb.xis, false, false⟩ (defScope s17) b17 (defBody s17) = true := by decide +kernel
theorem sc17 : FnScope n17 ["_law_got", "_law_due_so"] (defScope s17) := ⟨by decide +kernel, by decide +kernel, by decide +kernel, by decide +kernel, by decide +kernel, by decide +kernel, by decide +kernel⟩
abbrev s18 : Stmt := top 27
theorem m18 : mtSs ⟨n18, tb.fns, kws, tb.cls, tb.xis, false, false⟩ (defScope s18) b18 (defBody s18) = true := by decide +kernel
theorem sc18 : FnScope n18 ["_law_size_so"] (defScope s18) := ⟨by decide +kernel, by decide +kernel, by decide +kernel, by decide +kernel, by decide +kernel, by decide +kernel, by decide +kernel⟩
abbrev s19 : Stmt := top 28
theorem m19 : mtSs ⟨n19, tb.fns, kws, tb.cls, tb.xis, true, false⟩ (defScope s19) b19 (defBody s19) = true := by decide +kernel
theorem sc19 : FnScope n19 ["_law_box_here", "_law_size_so", "_law_top_so"] (defScope s19) := ⟨by decide +kernel, by decide +kernel, by decide +kernel, by decide +kernel, by decide +kernel, by decide +kernel, by decide +kernel⟩
abbrev s20 : Stmt := top 29
theorem m20 : mtSs ⟨n20, tb.fns, kws, tb.cls, tb.xis, true, false⟩ (defScope s20) b20 (defBody s20) = true := by decide +kernel
theorem sc20 : FnScope n20 ["_law_box_here", "_law_size_so"] (defScope s20) := ⟨by decide +kernel, by decide +kernel, by decide +kernel, by decide +kernel, by decide +kernel, by decide +kernel, by decide +kernel⟩
abbrev s21 : Stmt := top 30
theorem m21 : mtSs ⟨n21, tb.fns, kws, tb.cls, tb.xis, false, true⟩ (defScope s21) b21 (defBody s21) = true := by decide +kernel
theorem sc21 : FnScope n21 ["_law_lot_so"] (defScope s21) := ⟨by decide +kernel, by decide +kernel, by decide +kernel, by decide +kernel, by decide +kernel, by decide +kernel, by decide +kernel⟩
abbrev s22 : Stmt := top 31
theorem m22 : mtSs ⟨n22, tb.fns, kws, tb.cls, tb.xis, false, false⟩ (defScope s22) b22 (defBody s22) = true := by decide +kernel
theorem sc22 : FnScope n22 ["_law_size_so", "_law_table_so"] (defScope s22) := ⟨by decide +kernel, by decide +kernel, by decide +kernel, by decide +kernel, by decide +kernel, by decide +kernel, by decide +kernel⟩
abbrev s23 : Stmt := top 32
theorem m23 : mtSs ⟨n23, tb.fns, kws, tb.cls, tb.xis, false, false⟩ (defScope s23) b23 (defBody s23) = true := by decide +kernel
theorem sc23 : FnScope n23 ["_law_lot_so", "_law_span_so"] (defScope s23) := ⟨by decide +kernel, by decide +kernel, by decide +kernel, by decide +kernel, by decide +kernel, by decide +kernel, by decide +kernel⟩
abbrev s24 : Stmt := top 33
theorem m24 : mtSs ⟨n24, tb.fns, kws, tb.cls, tb.xis, false, true⟩ (defScope s24) b24 (defBody s24) = true := by decide +kernel
theorem sc24 : FnScope n24 ["_law_mine_so", "_law_its_so"] (defScope s24) := ⟨by decide +kernel, by decide +kernel, by decide +kernel, by decide +kernel, by decide +kernel, by decide +kernel, by decide +kernel⟩
abbrev s25 : Stmt := top 34
theorem m25 : mtSs ⟨n25, tb.fns, kws, tb.cls, tb.xis, true, false⟩ (defScope s25) b25 (defBody s25) = true := by decide +kernel
theorem sc25 : FnScope n25 ["_law_box_here", "_law_lot_so", "_law_laps_so"] (defScope s25) := ⟨by decide +kernel, by decide +kernel, by decide +kernel, by decide +kernel, by decide +kernel, by decide +kernel, by decide +kernel⟩
abbrev s26 : Stmt := top 35
theorem m26 : mtSs ⟨n26, tb.fns, kws, tb.cls, tb.xis, false, false⟩ (defScope s26) b26 (defBody s26) = true := by decide +kernel
theorem sc26 : FnScope n26 ["_law_door_so", "_law_one_so", "_law_other_so"] (defScope s26) := ⟨by decide +kernel, by decide +kernel, by decide +kernel, by decide +kernel, by decide +kernel, by decide +kernel, by decide +kernel⟩
abbrev s27 : Stmt := top 36
theorem m27 : mtSs ⟨n27, tb.fns, kws, tb.cls, tb.xis, false, false⟩ (defScope s27) b27 (defBody s27) = true := by decide +kernel
theorem sc27 : FnScope n27 ["_law_one_so", "_law_other_so"] (defScope s27) := ⟨by decide +kernel, by decide +kernel, by decide +kernel, by decide +kernel, by decide +kernel, by decide +kernel, by decide +kernel⟩
abbrev s28 : Stmt := top 37
theorem m28 : mtSs ⟨n28, tb.fns, kws, tb.cls, tb.xis, false, false⟩ (defScope s28) b28 (defBody s28) = true := by decide +kernel
theorem sc28 : FnScope n28 ["_law_one_so", "_law_other_so"] (defScope s28) := ⟨by decide +kernel, by decide +kernel, by decide +kernel, by decide +kernel, by decide +kernel, by decide +kernel, by decide +kernel⟩
abbrev s29 : Stmt := top 38
theorem m29 : mtSs ⟨n29, tb.fns, kws, tb.cls, tb.xis, false, false⟩ (defScope s29) b29 (defBody s29) = true := by decide +kernel
theorem sc29 : FnScope n29 [] (defScope s29) := ⟨by decide +kernel, by decide +kernel, by decide +kernel, by decide +kernel, by decide +kernel, by decide +kernel, by decide +kernel⟩
abbrev s30 : Stmt := top 39
theorem m30 : mtSs ⟨n30, tb.fns, kws, tb.cls, tb.xis, true, false⟩ (defScope s30) b30 (defBody s30) = true := by decide +kernel
theorem sc30 : FnScope n30 ["_law_box_here"] (defScope s30) := ⟨by decide +kernel, by decide +kernel, by decide +kernel, by decide +kernel, by decide +kernel, by decide +kernel, by decide +kernel⟩
abbrev s31 : Stmt := top 40
theorem m31 : mtSs ⟨n31, tb.fns, kws, tb.cls, tb.xis, false, false⟩ (defScope s31) b31 (defBody s31) = true := by decide +kernel
theorem sc31 : FnScope n31 ["_law_script"] (defScope s31) := ⟨by decide +kernel, by decide +kernel, by decide +kernel, by decide +kernel, by decide +kernel, by decide +kernel, by decide +kernel⟩
/-! ### the end -/
theorem all_mk (hl : ∀ ns : List Int, ns.length ≤ 63 → ∃ o, callF defs 40 31 none [.scr (ns.map D.int)] = .ok (.bl true) o) {P : Program} {w : World} {K : PySem.W.Frag} {h : Heap} {mg : Str → Option Value} {fa f0 f1 f2 f3 f4 f5 f6 f7 f8 f9 f10 f11 f12 f13 f14 f15 f16 f17 f18 f19 f20 f21 f22 f23 f24 f25 f26 f27 f28 f29 f30 f31 : Addr} (X : K.In h) (G : h.Ns mainGlobals mg) (hfa : mg "law" = some (.ref fa))
    {od0 an0 od1 an1 od2 an2 od3 an3 od4 an4 od5 an5 od6 an6 od7 an7 od8 an8 od9 an9 od10 an10 od11 an11 od12 an12 od13 an13 od14 an14 od15 an15 od16 an16 od17 an17 od18 an18 od19 an19 od20 an20 od21 an21 od22 an22 od23 an23 od24 an24 od25 an25 od26 an26 od27 an27 od28 an28 od29 an29 od30 an30 od31 an31 : Option Addr} {sl0 sl1 sl2 sl3 sl4 sl5 sl6 sl7 sl8 sl9 sl10 sl11 sl12 sl13 sl14 sl15 sl16 sl17 sl18 sl19 sl20 sl21 sl22 sl23 sl24 sl25 sl26 sl27 sl28 sl29 sl30 sl31 : Array (Option Value)} {oc0 kV0 dc0 pm0 cd0 ct0 oc1 kV1 dc1 pm1 cd1 ct1 oc2 kV2 dc2 pm2 cd2 ct2 oc3 kV3 dc3 pm3 cd3 ct3 oc4 kV4 dc4 pm4 cd4 ct4 oc5 kV5 dc5 pm5 cd5 ct5 oc6 kV6 dc6 pm6 cd6 ct6 oc7 kV7 dc7 pm7 cd7 ct7 oc8 kV8 dc8 pm8 cd8 ct8 oc9 kV9 dc9 pm9 cd9 ct9 oc10 kV10 dc10 pm10 cd10 ct10 oc11 kV11 dc11 pm11 cd11 ct11 oc12 kV12 dc12 pm12 cd12 ct12 oc13 kV13 dc13 pm13 cd13 ct13 oc14 kV14 dc14 pm14 cd14 ct14 oc15 kV15 dc15 pm15 cd15 ct15 oc16 kV16 dc16 pm16 cd16 ct16 oc17 kV17 dc17 pm17 cd17 ct17 oc18 kV18 dc18 pm18 cd18 ct18 oc19 kV19 dc19 pm19 cd19 ct19 oc20 kV20 dc20 pm20 cd20 ct20 oc21 kV21 dc21 pm21 cd21 ct21 oc22 kV22 dc22 pm22 cd22 ct22 oc23 kV23 dc23 pm23 cd23 ct23 oc24 kV24 dc24 pm24 cd24 ct24 oc25 kV25 dc25 pm25 cd25 ct25 oc26 kV26 dc26 pm26 cd26 ct26 oc27 kV27 dc27 pm27 cd27 ct27 oc28 kV28 dc28 pm28 cd28 ct28 oc29 kV29 dc29 pm29 cd29 ct29 oc30 kV30 dc30 pm30 cd30 ct30 oc31 kV31 dc31 pm31 cd31 ct31 : Value}
    (a0 : PySem.W.nsIn K mainGlobals "with_tuples" = some (some (.ref f0))) (l0 : K.lookup f0 = some ⟨oc0, od0, .func (PySem.W.fnOf "with_tuples" "with_tuples" (defArgs s0) (defBody s0) (defScope s0) .none kV0 dc0 pm0 an0 cd0 ct0), sl0⟩) (c0 : PySem.W.codeIn K cd0 "with_tuples" = true) (k0 : PySem.W.keepIn K (.ref f0) = true)
    (a1 : PySem.W.nsIn K mainGlobals "has_stretch" = some (some (.ref f1))) (l1 : K.lookup f1 = some ⟨oc1, od1, .func (PySem.W.fnOf "has_stretch" "has_stretch" (defArgs s1) (defBody s1) (defScope s1) .none kV1 dc1 pm1 an1 cd1 ct1), sl1⟩) (c1 : PySem.W.codeIn K cd1 "has_stretch" = true) (k1 : PySem.W.keepIn K (.ref f1) = true)
    (a2 : PySem.W.nsIn K mainGlobals "need_stretch" = some (some (.ref f2))) (l2 : K.lookup f2 = some ⟨oc2, od2, .func (PySem.W.fnOf "need_stretch" "need_stretch" (defArgs s2) (defBody s2) (defScope s2) .none kV2 dc2 pm2 an2 cd2 ct2), sl2⟩) (c2 : PySem.W.codeIn K cd2 "need_stretch" = true) (k2 : PySem.W.keepIn K (.ref f2) = true)
    (a3 : PySem.W.nsIn K mainGlobals "need_alike" = some (some (.ref f3))) (l3 : K.lookup f3 = some ⟨oc3, od3, .func (PySem.W.fnOf "need_alike" "need_alike" (defArgs s3) (defBody s3) (defScope s3) .none kV3 dc3 pm3 an3 cd3 ct3), sl3⟩) (c3 : PySem.W.codeIn K cd3 "need_alike" = true) (k3 : PySem.W.keepIn K (.ref f3) = true)
    (a4 : PySem.W.nsIn K mainGlobals "hours_of" = some (some (.ref f4))) (l4 : K.lookup f4 = some ⟨oc4, od4, .func (PySem.W.fnOf "hours_of" "hours_of" (defArgs s4) (defBody s4) (defScope s4) .none kV4 dc4 pm4 an4 cd4 ct4), sl4⟩) (c4 : PySem.W.codeIn K cd4 "hours_of" = true) (k4 : PySem.W.keepIn K (.ref f4) = true)
    (a5 : PySem.W.nsIn K mainGlobals "all_stretches" = some (some (.ref f5))) (l5 : K.lookup f5 = some ⟨oc5, od5, .func (PySem.W.fnOf "all_stretches" "all_stretches" (defArgs s5) (defBody s5) (defScope s5) .none kV5 dc5 pm5 an5 cd5 ct5), sl5⟩) (c5 : PySem.W.codeIn K cd5 "all_stretches" = true) (k5 : PySem.W.keepIn K (.ref f5) = true)
    (a6 : PySem.W.nsIn K mainGlobals "lies_within" = some (some (.ref f6))) (l6 : K.lookup f6 = some ⟨oc6, od6, .func (PySem.W.fnOf "lies_within" "lies_within" (defArgs s6) (defBody s6) (defScope s6) .none kV6 dc6 pm6 an6 cd6 ct6), sl6⟩) (c6 : PySem.W.codeIn K cd6 "lies_within" = true) (k6 : PySem.W.keepIn K (.ref f6) = true)
    (a7 : PySem.W.nsIn K mainGlobals "asked" = some (some (.ref f7))) (l7 : K.lookup f7 = some ⟨oc7, od7, .func (PySem.W.fnOf "asked" "asked" (defArgs s7) (defBody s7) (defScope s7) .none kV7 dc7 pm7 an7 cd7 ct7), sl7⟩) (c7 : PySem.W.codeIn K cd7 "asked" = true) (k7 : PySem.W.keepIn K (.ref f7) = true)
    (a8 : PySem.W.nsIn K mainGlobals "table_of" = some (some (.ref f8))) (l8 : K.lookup f8 = some ⟨oc8, od8, .func (PySem.W.fnOf "table_of" "table_of" (defArgs s8) (defBody s8) (defScope s8) .none kV8 dc8 pm8 an8 cd8 ct8), sl8⟩) (c8 : PySem.W.codeIn K cd8 "table_of" = true) (k8 : PySem.W.keepIn K (.ref f8) = true)
    (a9 : PySem.W.nsIn K mainGlobals "never_more" = some (some (.ref f9))) (l9 : K.lookup f9 = some ⟨oc9, od9, .func (PySem.W.fnOf "never_more" "never_more" (defArgs s9) (defBody s9) (defScope s9) .none kV9 dc9 pm9 an9 cd9 ct9), sl9⟩) (c9 : PySem.W.codeIn K cd9 "never_more" = true) (k9 : PySem.W.keepIn K (.ref f9) = true)
    (a10 : PySem.W.nsIn K mainGlobals "compare" = some (some (.ref f10))) (l10 : K.lookup f10 = some ⟨oc10, od10, .func (PySem.W.fnOf "compare" "compare" (defArgs s10) (defBody s10) (defScope s10) .none kV10 dc10 pm10 an10 cd10 ct10), sl10⟩) (c10 : PySem.W.codeIn K cd10 "compare" = true) (k10 : PySem.W.keepIn K (.ref f10) = true)
    (a11 : PySem.W.nsIn K mainGlobals "over" = some (some (.ref f11))) (l11 : K.lookup f11 = some ⟨oc11, od11, .func (PySem.W.fnOf "over" "over" (defArgs s11) (defBody s11) (defScope s11) .none kV11 dc11 pm11 an11 cd11 ct11), sl11⟩) (c11 : PySem.W.codeIn K cd11 "over" = true) (k11 : PySem.W.keepIn K (.ref f11) = true)
    (a12 : PySem.W.nsIn K mainGlobals "_law_box" = some (some (.ref f12))) (l12 : K.lookup f12 = some ⟨oc12, od12, .func (PySem.W.fnOf "_law_box" "_law_box" (defArgs s12) (defBody s12) (defScope s12) .none kV12 dc12 pm12 an12 cd12 ct12), sl12⟩) (c12 : PySem.W.codeIn K cd12 "_law_box" = true) (k12 : PySem.W.keepIn K (.ref f12) = true)
    (a13 : PySem.W.nsIn K mainGlobals "_law_take" = some (some (.ref f13))) (l13 : K.lookup f13 = some ⟨oc13, od13, .func (PySem.W.fnOf "_law_take" "_law_take" (defArgs s13) (defBody s13) (defScope s13) .none kV13 dc13 pm13 an13 cd13 ct13), sl13⟩) (c13 : PySem.W.codeIn K cd13 "_law_take" = true) (k13 : PySem.W.keepIn K (.ref f13) = true)
    (a14 : PySem.W.nsIn K mainGlobals "_law_cells" = some (some (.ref f14))) (l14 : K.lookup f14 = some ⟨oc14, od14, .func (PySem.W.fnOf "_law_cells" "_law_cells" (defArgs s14) (defBody s14) (defScope s14) .none kV14 dc14 pm14 an14 cd14 ct14), sl14⟩) (c14 : PySem.W.codeIn K cd14 "_law_cells" = true) (k14 : PySem.W.keepIn K (.ref f14) = true)
    (a15 : PySem.W.nsIn K mainGlobals "_law_of" = some (some (.ref f15))) (l15 : K.lookup f15 = some ⟨oc15, od15, .func (PySem.W.fnOf "_law_of" "_law_of" (defArgs s15) (defBody s15) (defScope s15) .none kV15 dc15 pm15 an15 cd15 ct15), sl15⟩) (c15 : PySem.W.codeIn K cd15 "_law_of" = true) (k15 : PySem.W.keepIn K (.ref f15) = true)
    (a16 : PySem.W.nsIn K mainGlobals "_law_lists" = some (some (.ref f16))) (l16 : K.lookup f16 = some ⟨oc16, od16, .func (PySem.W.fnOf "_law_lists" "_law_lists" (defArgs s16) (defBody s16) (defScope s16) .none kV16 dc16 pm16 an16 cd16 ct16), sl16⟩) (c16 : PySem.W.codeIn K cd16 "_law_lists" = true) (k16 : PySem.W.keepIn K (.ref f16) = true)
    (a17 : PySem.W.nsIn K mainGlobals "_law_same" = some (some (.ref f17))) (l17 : K.lookup f17 = some ⟨oc17, od17, .func (PySem.W.fnOf "_law_same" "_law_same" (defArgs s17) (defBody s17) (defScope s17) .none kV17 dc17 pm17 an17 cd17 ct17), sl17⟩) (c17 : PySem.W.codeIn K cd17 "_law_same" = true) (k17 : PySem.W.keepIn K (.ref f17) = true)
    (a18 : PySem.W.nsIn K mainGlobals "_law_spans" = some (some (.ref f18))) (l18 : K.lookup f18 = some ⟨oc18, od18, .func (PySem.W.fnOf "_law_spans" "_law_spans" (defArgs s18) (defBody s18) (defScope s18) .none kV18 dc18 pm18 an18 cd18 ct18), sl18⟩) (c18 : PySem.W.codeIn K cd18 "_law_spans" = true) (k18 : PySem.W.keepIn K (.ref f18) = true)
    (a19 : PySem.W.nsIn K mainGlobals "_law_lot" = some (some (.ref f19))) (l19 : K.lookup f19 = some ⟨oc19, od19, .func (PySem.W.fnOf "_law_lot" "_law_lot" (defArgs s19) (defBody s19) (defScope s19) .none kV19 dc19 pm19 an19 cd19 ct19), sl19⟩) (c19 : PySem.W.codeIn K cd19 "_law_lot" = true) (k19 : PySem.W.keepIn K (.ref f19) = true)
    (a20 : PySem.W.nsIn K mainGlobals "_law_great" = some (some (.ref f20))) (l20 : K.lookup f20 = some ⟨oc20, od20, .func (PySem.W.fnOf "_law_great" "_law_great" (defArgs s20) (defBody s20) (defScope s20) .none kV20 dc20 pm20 an20 cd20 ct20), sl20⟩) (c20 : PySem.W.codeIn K cd20 "_law_great" = true) (k20 : PySem.W.keepIn K (.ref f20) = true)
    (a21 : PySem.W.nsIn K mainGlobals "_law_table" = some (some (.ref f21))) (l21 : K.lookup f21 = some ⟨oc21, od21, .func (PySem.W.fnOf "_law_table" "_law_table" (defArgs s21) (defBody s21) (defScope s21) .none kV21 dc21 pm21 an21 cd21 ct21), sl21⟩) (c21 : PySem.W.codeIn K cd21 "_law_table" = true) (k21 : PySem.W.keepIn K (.ref f21) = true)
    (a22 : PySem.W.nsIn K mainGlobals "_law_made" = some (some (.ref f22))) (l22 : K.lookup f22 = some ⟨oc22, od22, .func (PySem.W.fnOf "_law_made" "_law_made" (defArgs s22) (defBody s22) (defScope s22) .none kV22 dc22 pm22 an22 cd22 ct22), sl22⟩) (c22 : PySem.W.codeIn K cd22 "_law_made" = true) (k22 : PySem.W.keepIn K (.ref f22) = true)
    (a23 : PySem.W.nsIn K mainGlobals "_law_asked" = some (some (.ref f23))) (l23 : K.lookup f23 = some ⟨oc23, od23, .func (PySem.W.fnOf "_law_asked" "_law_asked" (defArgs s23) (defBody s23) (defScope s23) .none kV23 dc23 pm23 an23 cd23 ct23), sl23⟩) (c23 : PySem.W.codeIn K cd23 "_law_asked" = true) (k23 : PySem.W.keepIn K (.ref f23) = true)
    (a24 : PySem.W.nsIn K mainGlobals "_law_over" = some (some (.ref f24))) (l24 : K.lookup f24 = some ⟨oc24, od24, .func (PySem.W.fnOf "_law_over" "_law_over" (defArgs s24) (defBody s24) (defScope s24) .none kV24 dc24 pm24 an24 cd24 ct24), sl24⟩) (c24 : PySem.W.codeIn K cd24 "_law_over" = true) (k24 : PySem.W.keepIn K (.ref f24) = true)
    (a25 : PySem.W.nsIn K mainGlobals "_law_moved" = some (some (.ref f25))) (l25 : K.lookup f25 = some ⟨oc25, od25, .func (PySem.W.fnOf "_law_moved" "_law_moved" (defArgs s25) (defBody s25) (defScope s25) .none kV25 dc25 pm25 an25 cd25 ct25), sl25⟩) (c25 : PySem.W.codeIn K cd25 "_law_moved" = true) (k25 : PySem.W.keepIn K (.ref f25) = true)
    (a26 : PySem.W.nsIn K mainGlobals "_law_heard" = some (some (.ref f26))) (l26 : K.lookup f26 = some ⟨oc26, od26, .func (PySem.W.fnOf "_law_heard" "_law_heard" (defArgs s26) (defBody s26) (defScope s26) .none kV26 dc26 pm26 an26 cd26 ct26), sl26⟩) (c26 : PySem.W.codeIn K cd26 "_law_heard" = true) (k26 : PySem.W.keepIn K (.ref f26) = true)
    (a27 : PySem.W.nsIn K mainGlobals "_law_due" = some (some (.ref f27))) (l27 : K.lookup f27 = some ⟨oc27, od27, .func (PySem.W.fnOf "_law_due" "_law_due" (defArgs s27) (defBody s27) (defScope s27) .none kV27 dc27 pm27 an27 cd27 ct27), sl27⟩) (c27 : PySem.W.codeIn K cd27 "_law_due" = true) (k27 : PySem.W.keepIn K (.ref f27) = true)
    (a28 : PySem.W.nsIn K mainGlobals "_law_case_right" = some (some (.ref f28))) (l28 : K.lookup f28 = some ⟨oc28, od28, .func (PySem.W.fnOf "_law_case_right" "_law_case_right" (defArgs s28) (defBody s28) (defScope s28) .none kV28 dc28 pm28 an28 cd28 ct28), sl28⟩) (c28 : PySem.W.codeIn K cd28 "_law_case_right" = true) (k28 : PySem.W.keepIn K (.ref f28) = true)
    (a29 : PySem.W.nsIn K mainGlobals "_law_by_hand_right" = some (some (.ref f29))) (l29 : K.lookup f29 = some ⟨oc29, od29, .func (PySem.W.fnOf "_law_by_hand_right" "_law_by_hand_right" (defArgs s29) (defBody s29) (defScope s29) .none kV29 dc29 pm29 an29 cd29 ct29), sl29⟩) (c29 : PySem.W.codeIn K cd29 "_law_by_hand_right" = true) (k29 : PySem.W.keepIn K (.ref f29) = true)
    (a30 : PySem.W.nsIn K mainGlobals "_law_right" = some (some (.ref f30))) (l30 : K.lookup f30 = some ⟨oc30, od30, .func (PySem.W.fnOf "_law_right" "_law_right" (defArgs s30) (defBody s30) (defScope s30) .none kV30 dc30 pm30 an30 cd30 ct30), sl30⟩) (c30 : PySem.W.codeIn K cd30 "_law_right" = true) (k30 : PySem.W.keepIn K (.ref f30) = true)
    (a31 : PySem.W.nsIn K mainGlobals "law" = some (some (.ref f31))) (l31 : K.lookup f31 = some ⟨oc31, od31, .func (PySem.W.fnOf "law" "law" (defArgs s31) (defBody s31) (defScope s31) .none kV31 dc31 pm31 an31 cd31 ct31), sl31⟩) (c31 : PySem.W.codeIn K cd31 "law" = true) (k31 : PySem.W.keepIn K (.ref f31) = true)
    {C0 : Addr}
    (ga0 : PySem.W.nsIn K mainGlobals "Unlike" = some (some (.ref C0)))
    (gx0 : PySem.W.excIn K C0 [.type "ValueError", .type "Exception", .type "BaseException", .type "object"] "ValueError.__new__" = true)
    (kC0 : PySem.W.keepIn K (.ref C0) = true)
    (xC0 : PySem.W.subIn K (.ref C0) (.type "BaseException") = some true)
    (tC0 : PySem.W.typeIn K (.ref C0) = some (.type "type"))
    (dC0 : PySem.W.hasDictIn K C0 = true)
    (gaa0 : PySem.W.findIn K (.ref C0) "__getattribute__" = some (some (.builtin "BaseException.__getattribute__")))
    (gga0 : PySem.W.findIn K (.ref C0) "__getattr__" = some none)
    (gca0 : PySem.W.findIn K (.ref C0) "__class__" = some (some (.builtin "object.__class__")))
    (gmo0 : PySem.W.mroIn K C0 (.type "object") = some true)
    {C1 : Addr}
    (ga1 : PySem.W.nsIn K mainGlobals "NoStretch" = some (some (.ref C1)))
    {nm1 q1 : Str} {N1 : Addr} {bs1 : List Value} {sn1 : List Str} {sub1 : List Value} {ab1 : Bool} {col1 : Option Bool} {dd1 : Option Addr} {mq0_1 mq1_1 mq2_1 mq3_1 mq5_1 : Option Value} {fI1 : Addr} {ocI1 : Value} {odI1 anI1 : Option Addr} {kVI1 dcI1 pmI1 cdI1 ctI1 : Value} {slI1 : Array (Option Value)}
    (gl1 : K.lookup C1 = some (excClassObj nm1 q1 C1 N1 bs1 [.type "LookupError", .type "Exception", .type "BaseException", .type "object"] true sn1 sub1 ab1 col1 dd1 mq0_1 mq1_1 mq2_1 mq3_1 mq5_1 "LookupError.__new__"))
    (gs1 : PySem.W.findIn K (.ref C1) "__setattr__" = some (some (.builtin "object.__setattr__")))
    (gi1 : PySem.W.findIn K (.ref C1) "__init__" = some (some (.ref fI1)))
    (gt1 : PySem.W.typeIn K (.ref fI1) = some (.type "function"))
    (gf1 : K.lookup fI1 = some ⟨ocI1, odI1, .func (PySem.W.fnOf "__init__" "NoStretch.__init__" (defArgs si1) (defBody si1) (defScope si1) .none kVI1 dcI1 pmI1 anI1 cdI1 ctI1), slI1⟩)
    (gc1 : PySem.W.codeIn K cdI1 "NoStretch.__init__" = true)
    (gk1 : PySem.W.keepIn K (.ref fI1) = true)
    (gn1_0 : PySem.W.findIn K (.ref C1) "first" = some none)
    (gn1_1 : PySem.W.findIn K (.ref C1) "last" = some none)
    (kC1 : PySem.W.keepIn K (.ref C1) = true)
    (xC1 : PySem.W.subIn K (.ref C1) (.type "BaseException") = some true)
    (tC1 : PySem.W.typeIn K (.ref C1) = some (.type "type"))
    (dC1 : PySem.W.hasDictIn K C1 = true)
    (gaa1 : PySem.W.findIn K (.ref C1) "__getattribute__" = some (some (.builtin "BaseException.__getattribute__")))
    (gga1 : PySem.W.findIn K (.ref C1) "__getattr__" = some none)
    (gca1 : PySem.W.findIn K (.ref C1) "__class__" = some (some (.builtin "object.__class__")))
    (gmo1 : PySem.W.mroIn K C1 (.type "object") = some true)
    (sb0_0 : PySem.W.subIn K (.ref C0) (.ref C0) = some true)
    (sb0_1 : PySem.W.subIn K (.ref C0) (.ref C1) = some false)
    (sb1_0 : PySem.W.subIn K (.ref C1) (.ref C0) = some false)
    (sb1_1 : PySem.W.subIn K (.ref C1) (.ref C1) = some true)
    (hcg : PySem.W.specialIn K (.builtin "object.__class__") "__get__" = some (some (.builtin "getset_descriptor.__get__")))
    (hct : PySem.W.takesIn K (.builtin "object.__class__") = some true)
    (ki0_0 : PySem.W.kitOne K (.ref C0) (.type "ValueError") = some true)
    (ki0_1 : PySem.W.kitOne K (.ref C1) (.type "ValueError") = some false)
    (z0 : PySem.W.nsIn K mainGlobals "len" = some none)
    (z1 : PySem.W.nsIn K mainGlobals "abs" = some none)
    (z2 : PySem.W.nsIn K mainGlobals "int" = some none)
    (z3 : PySem.W.nsIn K mainGlobals "list" = some none)
    (z4 : PySem.W.nsIn K mainGlobals "tuple" = some none)
    (z5 : PySem.W.nsIn K mainGlobals "all" = some none)
    (z6 : PySem.W.nsIn K mainGlobals "sum" = some none)
    (z7 : PySem.W.nsIn K mainGlobals "min" = some none)
    (z8 : PySem.W.nsIn K mainGlobals "isinstance" = some none)
    (z9 : PySem.W.nsIn K mainGlobals "bool" = some none)
    (z10 : PySem.W.nsIn K mainGlobals "str" = some none)
    (z11 : PySem.W.nsIn K mainGlobals "range" = some none)
    (z12 : PySem.W.nsIn K mainGlobals "enumerate" = some none)
    (z13 : PySem.W.nsIn K mainGlobals "zip" = some none)
    (z14 : PySem.W.nsIn K mainGlobals "max" = some none)
    (z15 : PySem.W.nsIn K mainGlobals "any" = some none)
    (z16 : PySem.W.nsIn K mainGlobals "sorted" = some none)
    (z17 : PySem.W.nsIn K mainGlobals "dict" = some none)
    (z18 : PySem.W.nsIn K mainGlobals "reversed" = some none)
    (z19 : PySem.W.nsIn K mainGlobals "set" = some none)
    (y0 : PySem.W.nsIn K mainGlobals "ValueError" = some none)
    :
    ∃ fd : FuncData, (∀ (s : Shared) (v : Value), BindsTo s fd ⟨[v], []⟩ [("_law_script", v)]) ∧ ∀ base : Heap, K.In base → base.Ns mainGlobals mg → FnOk P w K mg base (L2.CX P w) 40 fa fd ["_law_script"] (spLaw K) := by
  have e := hfa.symm.trans (PySem.W.mg_of X G a31)
  obtain rfl : f31 = fa := by cases e; rfl
  letI : KF := ⟨K, ⟨fun k => match k with | 0 => .ref C0 | 1 => .ref C1 | _ => .none, fun k => match k with | 0 => [] | 1 => ["first", "last"] | _ => []⟩, 2⟩
  have F0 : FnAt K mg ⟨"with_tuples", f0, PySem.W.fnOf "with_tuples" "with_tuples" (defArgs s0) (defBody s0) (defScope s0) .none kV0 dc0 pm0 an0 cd0 ct0, ["value"], d0⟩ s0 := fnat X G a0 l0 c0 k0 fun us hl => match us, hl with | [_], _ => rfl
  have F1 : FnAt K mg ⟨"has_stretch", f1, PySem.W.fnOf "has_stretch" "has_stretch" (defArgs s1) (defBody s1) (defScope s1) .none kV1 dc1 pm1 an1 cd1 ct1, ["hours", "first", "last"], d1⟩ s1 := fnat X G a1 l1 c1 k1 fun us hl => match us, hl with | [_, _, _], _ => rfl
  have F2 : FnAt K mg ⟨"need_stretch", f2, PySem.W.fnOf "need_stretch" "need_stretch" (defArgs s2) (defBody s2) (defScope s2) .none kV2 dc2 pm2 an2 cd2 ct2, ["hours", "first", "last"], d2⟩ s2 := fnat X G a2 l2 c2 k2 fun us hl => match us, hl with | [_, _, _], _ => rfl
  have F3 : FnAt K mg ⟨"need_alike", f3, PySem.W.fnOf "need_alike" "need_alike" (defArgs s3) (defBody s3) (defScope s3) .none kV3 dc3 pm3 an3 cd3 ct3, ["one", "other"], d3⟩ s3 := fnat X G a3 l3 c3 k3 fun us hl => match us, hl with | [_, _], _ => rfl
  have F4 : FnAt K mg ⟨"hours_of", f4, PySem.W.fnOf "hours_of" "hours_of" (defArgs s4) (defBody s4) (defScope s4) .none kV4 dc4 pm4 an4 cd4 ct4, ["lot"], d4⟩ s4 := fnat X G a4 l4 c4 k4 fun us hl => match us, hl with | [_], _ => rfl
  have F5 : FnAt K mg ⟨"all_stretches", f5, PySem.W.fnOf "all_stretches" "all_stretches" (defArgs s5) (defBody s5) (defScope s5) .none kV5 dc5 pm5 an5 cd5 ct5, ["hours"], d5⟩ s5 := fnat X G a5 l5 c5 k5 fun us hl => match us, hl with | [_], _ => rfl
  have F6 : FnAt K mg ⟨"lies_within", f6, PySem.W.fnOf "lies_within" "lies_within" (defArgs s6) (defBody s6) (defScope s6) .none kV6 dc6 pm6 an6 cd6 ct6, ["one", "other"], d6⟩ s6 := fnat X G a6 l6 c6 k6 fun us hl => match us, hl with | [_, _], _ => rfl
  have F7 : FnAt K mg ⟨"asked", f7, PySem.W.fnOf "asked" "asked" (defArgs s7) (defBody s7) (defScope s7) .none kV7 dc7 pm7 an7 cd7 ct7, ["lot", "first", "last"], d7⟩ s7 := fnat X G a7 l7 c7 k7 fun us hl => match us, hl with | [_, _, _], _ => rfl
  have F8 : FnAt K mg ⟨"table_of", f8, PySem.W.fnOf "table_of" "table_of" (defArgs s8) (defBody s8) (defScope s8) .none kV8 dc8 pm8 an8 cd8 ct8, ["lot"], d8⟩ s8 := fnat X G a8 l8 c8 k8 fun us hl => match us, hl with | [_], _ => rfl
  have F9 : FnAt K mg ⟨"never_more", f9, PySem.W.fnOf "never_more" "never_more" (defArgs s9) (defBody s9) (defScope s9) .none kV9 dc9 pm9 an9 cd9 ct9, ["one", "other"], d9⟩ s9 := fnat X G a9 l9 c9 k9 fun us hl => match us, hl with | [_, _], _ => rfl
  have F10 : FnAt K mg ⟨"compare", f10, PySem.W.fnOf "compare" "compare" (defArgs s10) (defBody s10) (defScope s10) .none kV10 dc10 pm10 an10 cd10 ct10, ["one", "other"], d10⟩ s10 := fnat X G a10 l10 c10 k10 fun us hl => match us, hl with | [_, _], _ => rfl
  have F11 : FnAt K mg ⟨"over", f11, PySem.W.fnOf "over" "over" (defArgs s11) (defBody s11) (defScope s11) .none kV11 dc11 pm11 an11 cd11 ct11, ["one", "other"], d11⟩ s11 := fnat X G a11 l11 c11 k11 fun us hl => match us, hl with | [_, _], _ => rfl
  have F12 : FnAt K mg ⟨"_law_box", f12, PySem.W.fnOf "_law_box" "_law_box" (defArgs s12) (defBody s12) (defScope s12) .none kV12 dc12 pm12 an12 cd12 ct12, ["_law_script", "_law_k"], d12⟩ s12 := fnat X G a12 l12 c12 k12 fun us hl => match us, hl with | [_, _], _ => rfl
  have F13 : FnAt K mg ⟨"_law_take", f13, PySem.W.fnOf "_law_take" "_law_take" (defArgs s13) (defBody s13) (defScope s13) .none kV13 dc13 pm13 an13 cd13 ct13, ["_law_box_here", "_law_below_so"], d13⟩ s13 := fnat X G a13 l13 c13 k13 fun us hl => match us, hl with | [_, _], _ => rfl
  have F14 : FnAt K mg ⟨"_law_cells", f14, PySem.W.fnOf "_law_cells" "_law_cells" (defArgs s14) (defBody s14) (defScope s14) .none kV14 dc14 pm14 an14 cd14 ct14, ["_law_script", "_law_most_so"], d14⟩ s14 := fnat X G a14 l14 c14 k14 fun us hl => match us, hl with | [_, _], _ => rfl
  have F15 : FnAt K mg ⟨"_law_of", f15, PySem.W.fnOf "_law_of" "_law_of" (defArgs s15) (defBody s15) (defScope s15) .none kV15 dc15 pm15 an15 cd15 ct15, ["_law_box_here", "_law_pool_so"], d15⟩ s15 := fnat X G a15 l15 c15 k15 fun us hl => match us, hl with | [_, _], _ => rfl
  have F16 : FnAt K mg ⟨"_law_lists", f16, PySem.W.fnOf "_law_lists" "_law_lists" (defArgs s16) (defBody s16) (defScope s16) .none kV16 dc16 pm16 an16 cd16 ct16, ["_law_matter"], d16⟩ s16 := fnat X G a16 l16 c16 k16 fun us hl => match us, hl with | [_], _ => rfl
  have F17 : FnAt K mg ⟨"_law_same", f17, PySem.W.fnOf "_law_same" "_law_same" (defArgs s17) (defBody s17) (defScope s17) .none kV17 dc17 pm17 an17 cd17 ct17, ["_law_got", "_law_due_so"], d17⟩ s17 := fnat X G a17 l17 c17 k17 fun us hl => match us, hl with | [_, _], _ => rfl
  have F18 : FnAt K mg ⟨"_law_spans", f18, PySem.W.fnOf "_law_spans" "_law_spans" (defArgs s18) (defBody s18) (defScope s18) .none kV18 dc18 pm18 an18 cd18 ct18, ["_law_size_so"], d18⟩ s18 := fnat X G a18 l18 c18 k18 fun us hl => match us, hl with | [_], _ => rfl
  have F19 : FnAt K mg ⟨"_law_lot", f19, PySem.W.fnOf "_law_lot" "_law_lot" (defArgs s19) (defBody s19) (defScope s19) .none kV19 dc19 pm19 an19 cd19 ct19, ["_law_box_here", "_law_size_so", "_law_top_so"], d19⟩ s19 := fnat X G a19 l19 c19 k19 fun us hl => match us, hl with | [_, _, _], _ => rfl
  have F20 : FnAt K mg ⟨"_law_great", f20, PySem.W.fnOf "_law_great" "_law_great" (defArgs s20) (defBody s20) (defScope s20) .none kV20 dc20 pm20 an20 cd20 ct20, ["_law_box_here", "_law_size_so"], d20⟩ s20 := fnat X G a20 l20 c20 k20 fun us hl => match us, hl with | [_, _], _ => rfl
  have F21 : FnAt K mg ⟨"_law_table", f21, PySem.W.fnOf "_law_table" "_law_table" (defArgs s21) (defBody s21) (defScope s21) .none kV21 dc21 pm21 an21 cd21 ct21, ["_law_lot_so"], d21⟩ s21 := fnat X G a21 l21 c21 k21 fun us hl => match us, hl with | [_], _ => rfl
  have F22 : FnAt K mg ⟨"_law_made", f22, PySem.W.fnOf "_law_made" "_law_made" (defArgs s22) (defBody s22) (defScope s22) .none kV22 dc22 pm22 an22 cd22 ct22, ["_law_size_so", "_law_table_so"], d22⟩ s22 := fnat X G a22 l22 c22 k22 fun us hl => match us, hl with | [_, _], _ => rfl
  have F23 : FnAt K mg ⟨"_law_asked", f23, PySem.W.fnOf "_law_asked" "_law_asked" (defArgs s23) (defBody s23) (defScope s23) .none kV23 dc23 pm23 an23 cd23 ct23, ["_law_lot_so", "_law_span_so"], d23⟩ s23 := fnat X G a23 l23 c23 k23 fun us hl => match us, hl with | [_, _], _ => rfl
  have F24 : FnAt K mg ⟨"_law_over", f24, PySem.W.fnOf "_law_over" "_law_over" (defArgs s24) (defBody s24) (defScope s24) .none kV24 dc24 pm24 an24 cd24 ct24, ["_law_mine_so", "_law_its_so"], d24⟩ s24 := fnat X G a24 l24 c24 k24 fun us hl => match us, hl with | [_, _], _ => rfl
  have F25 : FnAt K mg ⟨"_law_moved", f25, PySem.W.fnOf "_law_moved" "_law_moved" (defArgs s25) (defBody s25) (defScope s25) .none kV25 dc25 pm25 an25 cd25 ct25, ["_law_box_here", "_law_lot_so", "_law_laps_so"], d25⟩ s25 := fnat X G a25 l25 c25 k25 fun us hl => match us, hl with | [_, _, _], _ => rfl
  have F26 : FnAt K mg ⟨"_law_heard", f26, PySem.W.fnOf "_law_heard" "_law_heard" (defArgs s26) (defBody s26) (defScope s26) .none kV26 dc26 pm26 an26 cd26 ct26, ["_law_door_so", "_law_one_so", "_law_other_so"], d26⟩ s26 := fnat X G a26 l26 c26 k26 fun us hl => match us, hl with | [_, _, _], _ => rfl
  have F27 : FnAt K mg ⟨"_law_due", f27, PySem.W.fnOf "_law_due" "_law_due" (defArgs s27) (defBody s27) (defScope s27) .none kV27 dc27 pm27 an27 cd27 ct27, ["_law_one_so", "_law_other_so"], d27⟩ s27 := fnat X G a27 l27 c27 k27 fun us hl => match us, hl with | [_, _], _ => rfl
  have F28 : FnAt K mg ⟨"_law_case_right", f28, PySem.W.fnOf "_law_case_right" "_law_case_right" (defArgs s28) (defBody s28) (defScope s28) .none kV28 dc28 pm28 an28 cd28 ct28, ["_law_one_so", "_law_other_so"], d28⟩ s28 := fnat X G a28 l28 c28 k28 fun us hl => match us, hl with | [_, _], _ => rfl
  have F29 : FnAt K mg ⟨"_law_by_hand_right", f29, PySem.W.fnOf "_law_by_hand_right" "_law_by_hand_right" (defArgs s29) (defBody s29) (defScope s29) .none kV29 dc29 pm29 an29 cd29 ct29, [], d29⟩ s29 := fnat X G a29 l29 c29 k29 fun us hl => match us, hl with | [], _ => rfl
  have F30 : FnAt K mg ⟨"_law_right", f30, PySem.W.fnOf "_law_right" "_law_right" (defArgs s30) (defBody s30) (defScope s30) .none kV30 dc30 pm30 an30 cd30 ct30, ["_law_box_here"], d30⟩ s30 := fnat X G a30 l30 c30 k30 fun us hl => match us, hl with | [_], _ => rfl
  have F31 : FnAt K mg ⟨"law", f31, PySem.W.fnOf "law" "law" (defArgs s31) (defBody s31) (defScope s31) .none kV31 dc31 pm31 an31 cd31 ct31, ["_law_script"], d31⟩ s31 := fnat X G a31 l31 c31 k31 fun us hl => match us, hl with | [_], _ => rfl
  have t : TextOk K mg tb defs [⟨"with_tuples", f0, PySem.W.fnOf "with_tuples" "with_tuples" (defArgs s0) (defBody s0) (defScope s0) .none kV0 dc0 pm0 an0 cd0 ct0, ["value"], d0⟩, ⟨"has_stretch", f1, PySem.W.fnOf "has_stretch" "has_stretch" (defArgs s1) (defBody s1) (defScope s1) .none kV1 dc1 pm1 an1 cd1 ct1, ["hours", "first", "last"], d1⟩, ⟨"need_stretch", f2, PySem.W.fnOf "need_stretch" "need_stretch" (defArgs s2) (defBody s2) (defScope s2) .none kV2 dc2 pm2 an2 cd2 ct2, ["hours", "first", "last"], d2⟩, ⟨"need_alike", f3, PySem.W.fnOf "need_alike" "need_alike" (defArgs s3) (defBody s3) (defScope s3) .none kV3 dc3 pm3 an3 cd3 ct3, ["one", "other"], d3⟩, ⟨"hours_of", f4, PySem.W.fnOf "hours_of" "hours_of" (defArgs s4) (defBody s4) (defScope s4) .none kV4 dc4 pm4 an4 cd4 ct4, ["lot"], d4⟩, ⟨"all_stretches", f5, PySem.W.fnOf "all_stretches" "all_stretches" (defArgs s5) (defBody s5) (defScope s5) .none kV5 dc5 pm5 an5 cd5 ct5, ["hours"], d5⟩, ⟨"lies_within", f6, PySem.W.fnOf "lies_within" "lies_within" (defArgs s6) (defBody s6) (defScope s6) .none kV6 dc6 pm6 an6 cd6 ct6, ["one", "other"], d6⟩, ⟨"asked", f7, PySem.W.fnOf "asked" "asked" (defArgs s7) (defBody s7) (defScope s7) .none kV7 dc7 pm7 an7 cd7 ct7, ["lot", "first", "last"], d7⟩, ⟨"table_of", f8, PySem.W.fnOf "table_of" "table_of" (defArgs s8) (defBody s8) (defScope s8) .none kV8 dc8 pm8 an8 cd8 ct8, ["lot"], d8⟩, ⟨"never_more", f9, PySem.W.fnOf "never_more" "never_more" (defArgs s9) (defBody s9) (defScope s9) .none kV9 dc9 pm9 an9 cd9 ct9, ["one", "other"], d9⟩, ⟨"compare", f10, PySem.W.fnOf "compare" "compare" (defArgs s10) (defBody s10) (defScope s10) .none kV10 dc10 pm10 an10 cd10 ct10, ["one", "other"], d10⟩, ⟨"over", f11, PySem.W.fnOf "over" "over" (defArgs s11) (defBody s11) (defScope s11) .none kV11 dc11 pm11 an11 cd11 ct11, ["one", "other"], d11⟩, ⟨"_law_box", f12, PySem.W.fnOf "_law_box" "_law_box" (defArgs s12) (defBody s12) (defScope s12) .none kV12 dc12 pm12 an12 cd12 ct12, ["_law_script", "_law_k"], d12⟩, ⟨"_law_take", f13, PySem.W.fnOf "_law_take" "_law_take" (defArgs s13) (defBody s13) (defScope s13) .none kV13 dc13 pm13 an13 cd13 ct13, ["_law_box_here", "_law_below_so"], d13⟩, ⟨"_law_cells", f14, PySem.W.fnOf "_law_cells" "_law_cells" (defArgs s14) (defBody s14) (defScope s14) .none kV14 dc14 pm14 an14 cd14 ct14, ["_law_script", "_law_most_so"], d14⟩, ⟨"_law_of", f15, PySem.W.fnOf "_law_of" "_law_of" (defArgs s15) (defBody s15) (defScope s15) .none kV15 dc15 pm15 an15 cd15 ct15, ["_law_box_here", "_law_pool_so"], d15⟩, ⟨"_law_lists", f16, PySem.W.fnOf "_law_lists" "_law_lists" (defArgs s16) (defBody s16) (defScope s16) .none kV16 dc16 pm16 an16 cd16 ct16, ["_law_matter"], d16⟩, ⟨"_law_same", f17, PySem.W.fnOf "_law_same" "_law_same" (defArgs s17) (defBody s17) (defScope s17) .none kV17 dc17 pm17 an17 cd17 ct17, ["_law_got", "_law_due_so"], d17⟩, ⟨"_law_spans", f18, PySem.W.fnOf "_law_spans" "_law_spans" (defArgs s18) (defBody s18) (defScope s18) .none kV18 dc18 pm18 an18 cd18 ct18, ["_law_size_so"], d18⟩, ⟨"_law_lot", f19, PySem.W.fnOf "_law_lot" "_law_lot" (defArgs s19) (defBody s19) (defScope s19) .none kV19 dc19 pm19 an19 cd19 ct19, ["_law_box_here", "_law_size_so", "_law_top_so"], d19⟩, ⟨"_law_great", f20, PySem.W.fnOf "_law_great" "_law_great" (defArgs s20) (defBody s20) (defScope s20) .none kV20 dc20 pm20 an20 cd20 ct20, ["_law_box_here", "_law_size_so"], d20⟩, ⟨"_law_table", f21, PySem.W.fnOf "_law_table" "_law_table" (defArgs s21) (defBody s21) (defScope s21) .none kV21 dc21 pm21 an21 cd21 ct21, ["_law_lot_so"], d21⟩, ⟨"_law_made", f22, PySem.W.fnOf "_law_made" "_law_made" (defArgs s22) (defBody s22) (defScope s22) .none kV22 dc22 pm22 an22 cd22 ct22, ["_law_size_so", "_law_table_so"], d22⟩, ⟨"_law_asked", f23, PySem.W.fnOf "_law_asked" "_law_asked" (defArgs s23) (defBody s23) (defScope s23) .none kV23 dc23 pm23 an23 cd23 ct23, ["_law_lot_so", "_law_span_so"], d23⟩, ⟨"_law_over", f24, PySem.W.fnOf "_law_over" "_law_over" (defArgs s24) (defBody s24) (defScope s24) .none kV24 dc24 pm24 an24 cd24 ct24, ["_law_mine_so", "_law_its_so"], d24⟩, ⟨"_law_moved", f25, PySem.W.fnOf "_law_moved" "_law_moved" (defArgs s25) (defBody s25) (defScope s25) .none kV25 dc25 pm25 an25 cd25 ct25, ["_law_box_here", "_law_lot_so", "_law_laps_so"], d25⟩, ⟨"_law_heard", f26, PySem.W.fnOf "_law_heard" "_law_heard" (defArgs s26) (defBody s26) (defScope s26) .none kV26 dc26 pm26 an26 cd26 ct26, ["_law_door_so", "_law_one_so", "_law_other_so"], d26⟩, ⟨"_law_due", f27, PySem.W.fnOf "_law_due" "_law_due" (defArgs s27) (defBody s27) (defScope s27) .none kV27 dc27 pm27 an27 cd27 ct27, ["_law_one_so", "_law_other_so"], d27⟩, ⟨"_law_case_right", f28, PySem.W.fnOf "_law_case_right" "_law_case_right" (defArgs s28) (defBody s28) (defScope s28) .none kV28 dc28 pm28 an28 cd28 ct28, ["_law_one_so", "_law_other_so"], d28⟩, ⟨"_law_by_hand_right", f29, PySem.W.fnOf "_law_by_hand_right" "_law_by_hand_right" (defArgs s29) (defBody s29) (defScope s29) .none kV29 dc29 pm29 an29 cd29 ct29, [], d29⟩, ⟨"_law_right", f30, PySem.W.fnOf "_law_right" "_law_right" (defArgs s30) (defBody s30) (defScope s30) .none kV30 dc30 pm30 an30 cd30 ct30, ["_law_box_here"], d30⟩, ⟨"law", f31, PySem.W.fnOf "law" "law" (defArgs s31) (defBody s31) (defScope s31) .none kV31 dc31 pm31 an31 cd31 ct31, ["_law_script"], d31⟩] := by
    refine text_of (kws := kws) (ext := ext) rfl rfl ?_ ?_ ?_ ?_ ?_ ?_ ?_
    · exact ⟨PySem.W.mg_none_of X G z0, PySem.W.mg_none_of X G z1, PySem.W.mg_none_of X G z2, PySem.W.mg_none_of X G z3, PySem.W.mg_none_of X G z4, PySem.W.mg_none_of X G z5, PySem.W.mg_none_of X G z6, PySem.W.mg_none_of X G z7, PySem.W.mg_none_of X G z8, PySem.W.mg_none_of X G z9, PySem.W.mg_none_of X G z10, PySem.W.mg_none_of X G z11, PySem.W.mg_none_of X G z12, PySem.W.mg_none_of X G z13, PySem.W.mg_none_of X G z14, PySem.W.mg_none_of X G z15, PySem.W.mg_none_of X G z16, PySem.W.mg_none_of X G z17, PySem.W.mg_none_of X G z18, PySem.W.mg_none_of X G z19, trivial⟩
    · refine ⟨?_, ?_, trivial⟩
      · intro d' hd
        cases hd
        exact kwR fun us ws hu hw => match us, ws, hu, hw with | [], [_, _], _, _ => rfl
      · intro d' hd
        cases hd
        exact kwR fun us ws hu hw => match us, ws, hu, hw with | [], [_, _], _, _ => rfl
    · exact ⟨⟨_, _, F0, sc0, rfl, rfl, rfl, m0⟩, ⟨_, _, F1, sc1, rfl, rfl, rfl, m1⟩, ⟨_, _, F2, sc2, rfl, rfl, rfl, m2⟩, ⟨_, _, F3, sc3, rfl, rfl, rfl, m3⟩, ⟨_, _, F4, sc4, rfl, rfl, rfl, m4⟩, ⟨_, _, F5, sc5, rfl, rfl, rfl, m5⟩, ⟨_, _, F6, sc6, rfl, rfl, rfl, m6⟩, ⟨_, _, F7, sc7, rfl, rfl, rfl, m7⟩, ⟨_, _, F8, sc8, rfl, rfl, rfl, m8⟩, ⟨_, _, F9, sc9, rfl, rfl, rfl, m9⟩, ⟨_, _, F10, sc10, rfl, rfl, rfl, m10⟩, ⟨_, _, F11, sc11, rfl, rfl, rfl, m11⟩, ⟨_, _, F12, sc12, rfl, rfl, rfl, m12⟩, ⟨_, _, F13, sc13, rfl, rfl, rfl, m13⟩, ⟨_, _, F14, sc14, rfl, rfl, rfl, m14⟩, ⟨_, _, F15, sc15, rfl, rfl, rfl, m15⟩, ⟨_, _, F16, sc16, rfl, rfl, rfl, m16⟩, ⟨_, _, F17, sc17, rfl, rfl, rfl, m17⟩, ⟨_, _, F18, sc18, rfl, rfl, rfl, m18⟩, ⟨_, _, F19, sc19, rfl, rfl, rfl, m19⟩, ⟨_, _, F20, sc20, rfl, rfl, rfl, m20⟩, ⟨_, _, F21, sc21, rfl, rfl, rfl, m21⟩, ⟨_, _, F22, sc22, rfl, rfl, rfl, m22⟩, ⟨_, _, F23, sc23, rfl, rfl, rfl, m23⟩, ⟨_, _, F24, sc24, rfl, rfl, rfl, m24⟩, ⟨_, _, F25, sc25, rfl, rfl, rfl, m25⟩, ⟨_, _, F26, sc26, rfl, rfl, rfl, m26⟩, ⟨_, _, F27, sc27, rfl, rfl, rfl, m27⟩, ⟨_, _, F28, sc28, rfl, rfl, rfl, m28⟩, ⟨_, _, F29, sc29, rfl, rfl, rfl, m29⟩, ⟨_, _, F30, sc30, rfl, rfl, rfl, m30⟩, ⟨_, _, F31, sc31, rfl, rfl, rfl, m31⟩, trivial⟩
    · intro k hk
      match k, hk with
      | 0, _ => exact cla_of rfl gaa0 gga0 xC0 dC0 gca0 hcg hct gmo0 trivial
      | 1, _ => exact cla_of rfl gaa1 gga1 xC1 dC1 gca1 hcg hct gmo1 ⟨gn1_0, gn1_1, trivial⟩
    · refine ⟨?_, ?_, trivial⟩
      · exact .zer (gi := 32) base_VE.f gx0 kC0 xC0 tC0 (PySem.W.mg_of X G ga0) (show 0 < 2 by decide) rfl rfl rfl rfl rfl
      · exact .ini (gi := 34) base_LE ⟨⟨_, _, _, _, _, _, _, _, _, _, _, _, _, _, gl1⟩, gs1, xC1, tC1, kC1⟩ gi1 gt1 (fun_mk (st := si1) gf1 gc1 gk1) isc1 (by decide +kernel) (by decide +kernel) (by decide +kernel) (kws := []) (fun q hq => nomatch hq) im1 (.all fun us hl => match us, hl with | [_, _, _], _ => rfl) (PySem.W.mg_of X G ga1) (show 1 < 2 by decide) rfl rfl (by decide +kernel) (by decide) (fun f hf => allP_mem (p := fun f => PySem.W.findIn K (.ref C1) f = some none) (l := ["first", "last"]) ⟨gn1_0, gn1_1, trivial⟩ hf) (by decide) (by decide) (by decide) rfl rfl
    · refine ⟨?_, trivial⟩
      · refine ⟨.type "ValueError", fun k hk => ?_, ?_⟩
        · match k, hk with
          | 0, _ => exact ki0_0
          | 1, _ => exact ki0_1
        · exact .inr ⟨_, rfl, PySem.W.mg_none_of X G y0, by decide +kernel, by decide⟩
    · refine ⟨?_, ?_, trivial⟩
      · intro j hj
        match j, hj with
        | 0, _ => exact PySem.W.exm_ref xC0 dC0 tC0 sb0_0
        | 1, _ => exact PySem.W.exm_ref xC0 dC0 tC0 sb1_0
      · intro j hj
        match j, hj with
        | 0, _ => exact PySem.W.exm_ref xC1 dC1 tC1 sb0_1
        | 1, _ => exact PySem.W.exm_ref xC1 dC1 tC1 sb1_1
  exact ⟨PySem.W.fnOf "law" "law" (defArgs s31) (defBody s31) (defScope s31) .none kV31 dc31 pm31 an31 cd31 ct31, fun s v => .of_eq rfl, fun base _ _ => law_fn rfl t (i := 31) rfl rfl rfl rfl hl⟩
theorem walk (hl : ∀ ns : List Int, ns.length ≤ 63 → ∃ o, callF defs 40 31 none [.scr (ns.map D.int)] = .ok (.bl true) o) {l : PySem.W.OpenLaw} {q : Program} {loose : List Str} {XP : (Str → Option Value) → Heap → Prop} {YP : World → Heap → Prop} {d : DefRec} {K : Params → PySem.W.Frag} (hn : l.most = some 63) (hdf : d.params.defaults = [])
    (hY : ∀ (w : World) (h : Heap), YP w h → (K w.params).In h)
    (F : ∀ (w : World) (mg : Str → Option Value) (fa : Addr) (h : Heap), (K w.params).In h → h.Ns mainGlobals mg → mg d.name = some (.ref fa) →
      ∃ fd : FuncData, (∀ (s : Shared) (u : Value), BindsTo s fd ⟨[u], []⟩ [("_law_script", u)]) ∧ ∀ base : Heap, (K w.params).In base → base.Ns mainGlobals mg → FnOk l.prog w (K w.params) mg base (L2.CX l.prog w) 40 fa fd ["_law_script"] (spLaw (K w.params))) :
    PySem.W.WalkO q loose XP YP l.row.toRowW d [] (fun f vs => PySem.call f vs) :=
  L2.walk_of (n := 63) (k := 40) (x := "_law_script") (CX := fun w => L2.CX l.prog w) (sp := fun w => spLaw (K w.params)) hn (by decide) hdf ⟨rfl, by decide, by decide⟩ hY F (fun _ _ a ns hl _ hS => ⟨a, ns, rfl, hS, hl, fun _ => rfl⟩) fun _ _ _ _ _ h => by obtain ⟨_, _, _, _, _, _, _, _, _, _, _, _, z⟩ := h; exact z
end K05
end
section
namespace K05
open Ev L2 Lib
def leB (s : Nat) (L L' : Ps) : Bool := (spansL s).all fun q => decide (askI L q.1 q.2 ≤ askI L' q.1 q.2)
theorem leB_iff {s : Nat} {L L' : Ps} : leB s L L' = true ↔ ∀ q ∈ spansL s, askI L q.1 q.2 ≤ askI L' q.1 q.2 := by
  unfold leB
  rw [List.all_eq_true]
  exact ⟨fun h q hq => of_decide_eq_true (h q hq), fun h q hq => decide_eq_true (h q hq)⟩
theorem ovr_truthy (s : Nat) (L L' : Ps) : truthy (ovrD s L L') = some (!leB s L L') := by
  show some (!(List.map _ (ovrL s L L')).isEmpty) = _
  rw [List.isEmpty_map]
  congr 2
  rw [Bool.eq_iff_iff, leB_iff, List.isEmpty_iff]
  unfold ovrL
  rw [List.filter_eq_nil_iff]
  constructor
  · intro h q hq
    have := h q hq
    rw [decide_eq_true_eq] at this
    omega
  · intro h q hq
    have := h q hq
    rw [decide_eq_true_eq]
    omega
theorem over_s (n : Nat) (b : Bool) {s s' : Nat} (h1 : 1 ≤ s) (h2 : s ≤ 8) {L L' : Ps} (hL : L.length ≤ 1000) (hL' : L'.length ≤ 1000) : callF defs (n + 7) 11 none [lotM b s L, lotM b s' L'] = if s = s' then .ok (ovrD s L L') [] else .ex 0 [] [] := by
  rw [call_d (d := d11) rfl ⟨rfl, rfl, by decide, rfl⟩]
  have ca := alike_spec (defs := defs) (i := 3) (c := 0) (mk := 33) rfl (n + 5) rfl b s s' L L'
  have ch := hours_spec (defs := defs) (i := 4) rfl (n + 5) b s L
  have cs := allS_spec (defs := defs) (i := 5) rfl (n + 5) s h1 h2
  have ct := fun (M : Ps) (hM : M.length ≤ 1000) => table_spec (c := 1) (i := 8) (ia := 7) (is := 5) (io := 4) (ine := 2) (il := 6) (ih := 1) (im := 35) (ii := 34) (iw := 0) (defs := defs) rfl rfl rfl rfl rfl rfl rfl rfl rfl rfl n b s h1 h2 M hM
  generalize callF defs (n + 6) = cf at ca ch cs ct
  show fin false true (ex cf (bOver 3 5 4 8) [.va (lotM b s L), .va (lotM b s' L'), .em, .em, .em, .em, .em]) = _
  by_cases h : s = s'
  · subst h
    rw [if_pos rfl] at ca ⊢
    exact over_cf b h1 h2 L L' ca ch cs (ct L hL) (ct L' hL')
  · rw [if_neg h] at ca ⊢
    have st0 : ex cf (nthS (bOver 3 5 4 8) 0) [.va (lotM b s L), .va (lotM b s' L'), .em, .em, .em, .em, .em] = .exn 0 [] [.va (lotM b s L), .va (lotM b s' L'), .em, .em, .em, .em, .em] := by
      show ((outC (cf 3 none [lotM b s L, lotM b s' L']) [.va (lotM b s L), .va (lotM b s' L'), .em, .em, .em, .em, .em] fun _ => [.va (lotM b s L), .va (lotM b s' L'), .em, .em, .em, .em, .em]).thn fun _ e => .nx e) = _
      rw [ca]
      rfl
    have go : ex cf (bOver 3 5 4 8) [.va (lotM b s L), .va (lotM b s' L'), .em, .em, .em, .em, .em] = .exn 0 [] _ := ex_xn st0
    rw [go]
    rfl
theorem never_s (n : Nat) (b : Bool) {s s' : Nat} (h1 : 1 ≤ s) (h2 : s ≤ 8) {L L' : Ps} (hL : L.length ≤ 1000) (hL' : L'.length ≤ 1000) : callF defs (n + 8) 9 none [lotM b s L, lotM b s' L'] = if s = s' then .ok (.bl (leB s L L')) [] else .ex 0 [] [] := by
  rw [call_d (d := d9) rfl ⟨rfl, rfl, by decide, rfl⟩]
  have c := over_s n b h1 h2 (s' := s') hL hL'
  generalize callF defs (n + 7) = cf at c
  show fin false false (match ((outC (cf 11 none [lotM b s L, lotM b s' L']) [.va (lotM b s L), .va (lotM b s' L')] fun _ => [.va (lotM b s L), .va (lotM b s' L')]).bind fun x e => (lift (truthy x) e).bind fun k e => R.ok (D.bl (!k)) e).thn (fun d e => RS.rt d e) with | .nx e' => ex cf .nil e' | r => r) = _
  rw [c]
  by_cases h : s = s'
  · rw [if_pos h, if_pos h, outC_ok, bind_ok, ovr_truthy, lift_some, bind_ok, Bool.not_not]
    rfl
  · rw [if_neg h, if_neg h]
    rfl
def cmpS (s : Nat) (L L' : Ps) : D := if L = L' then .str "alike" else if leB s L L' = true then .str "lighter" else if leB s L' L = true then .str "heavier" else .str "neither"
theorem compare_s (n : Nat) (b : Bool) {s s' : Nat} (h1 : 1 ≤ s) (h2 : s ≤ 8) (h1' : 1 ≤ s') (h2' : s' ≤ 8) {L L' : Ps} (hL : L.length ≤ 1000) (hL' : L'.length ≤ 1000) : callF defs (n + 9) 10 none [lotM b s L, lotM b s' L'] = if s = s' then .ok (cmpS s L L') [] else .ex 0 [] [] := by
  rw [call_d (d := d10) rfl ⟨rfl, rfl, by decide, rfl⟩]
  have c1 := never_s n b h1 h2 (s' := s') hL hL'
  have c2 := never_s n b h1' h2' (s' := s) hL' hL
  have w := fun (t : Nat) (M : Ps) (hM : M.length ≤ 1000) => with_spec (defs := defs) (i := 0) rfl (n + 3) 4 (lotM b t M) (enc_pl b t M hM).1 (enc_pl b t M hM).2
  have w1 := w s L hL
  have w2 := w s' L' hL'
  rw [toT_lot] at w1 w2
  generalize callF defs (n + 8) = cf at c1 c2 w1 w2
  show fin false false (ex cf b10 [.va (lotM b s L), .va (lotM b s' L')]) = _
  have q0 := ev_cmp (cf := cf) (op := .eq) (ev_call (f := 0) (as := .cons (.v 0) .nil) (e := [.va (lotM b s L), .va (lotM b s' L')]) (ds := [lotM b s L]) rfl w1) (ev_call (f := 0) (as := .cons (.v 1) .nil) (ds := [lotM b s' L']) rfl w2) (eq_lot hL hL')
  by_cases h : s = s'
  · subst h
    rw [if_pos rfl] at c1 c2 ⊢
    have q1 := ev_call (cf := cf) (f := 9) (as := .cons (.v 0) (.cons (.v 1) .nil)) (e := [.va (lotM b s L), .va (lotM b s L')]) (ds := [lotM b s L, lotM b s L']) rfl c1
    have q2 := ev_call (cf := cf) (f := 9) (as := .cons (.v 1) (.cons (.v 0) .nil)) (e := [.va (lotM b s L), .va (lotM b s L')]) (ds := [lotM b s L', lotM b s L]) rfl c2
    unfold cmpS
    by_cases e : L = L'
    · rw [decide_eq_true ⟨rfl, e⟩] at q0
      rw [if_pos e]
      have go : ex cf b10 [.va (lotM b s L), .va (lotM b s L')] = .rt (.str "alike") _ := ex_rt ((ex_ite q0).trans rfl)
      rw [go]
      rfl
    · rw [decide_eq_false (fun z => e z.2)] at q0
      rw [if_neg e]
      have st0 : ex cf (nthS b10 0) [.va (lotM b s L), .va (lotM b s L')] = .nx [.va (lotM b s L), .va (lotM b s L')] := (ex_ite q0).trans rfl
      by_cases k : leB s L L' = true
      · rw [k] at q1
        rw [if_pos k]
        have st1 : ex cf (nthS b10 1) [.va (lotM b s L), .va (lotM b s L')] = .rt (.str "lighter") [.va (lotM b s L), .va (lotM b s L')] := (ex_ite q1).trans rfl
        have go : ex cf b10 [.va (lotM b s L), .va (lotM b s L')] = .rt (.str "lighter") _ := (ex_nx st0).trans (ex_rt st1)
        rw [go]
        rfl
      · have k' := Bool.not_eq_true _ ▸ k
        rw [k'] at q1
        rw [if_neg k]
        have st1 : ex cf (nthS b10 1) [.va (lotM b s L), .va (lotM b s L')] = .nx [.va (lotM b s L), .va (lotM b s L')] := (ex_ite q1).trans rfl
        have r2 := (ev_ite (a := .cs "heavier") (b := .cs "neither") q2)
        by_cases m : leB s L' L = true
        · rw [if_pos m] at r2 ⊢
          have st2 := ex_ret (r2.trans (show ev cf (.cs "heavier") [.va (lotM b s L), .va (lotM b s L')] = .ok (.str "heavier") [.va (lotM b s L), .va (lotM b s L')] from rfl))
          have go : ex cf b10 [.va (lotM b s L), .va (lotM b s L')] = .rt (.str "heavier") _ := (ex_nx st0).trans ((ex_nx st1).trans (ex_rt (ss := .nil) st2))
          rw [go]
          rfl
        · rw [if_neg m] at r2 ⊢
          have st2 := ex_ret (r2.trans (show ev cf (.cs "neither") [.va (lotM b s L), .va (lotM b s L')] = .ok (.str "neither") [.va (lotM b s L), .va (lotM b s L')] from rfl))
          have go : ex cf b10 [.va (lotM b s L), .va (lotM b s L')] = .rt (.str "neither") _ := (ex_nx st0).trans ((ex_nx st1).trans (ex_rt (ss := .nil) st2))
          rw [go]
          rfl
  · rw [if_neg h] at c1 ⊢
    rw [decide_eq_false (fun z => h z.1)] at q0
    have st0 : ex cf (nthS b10 0) [.va (lotM b s L), .va (lotM b s' L')] = .nx [.va (lotM b s L), .va (lotM b s' L')] := (ex_ite q0).trans rfl
    have st1 : ex cf (nthS b10 1) [.va (lotM b s L), .va (lotM b s' L')] = .exn 0 [] [.va (lotM b s L), .va (lotM b s' L')] := by
      show ((outC (cf 9 none [lotM b s L, lotM b s' L']) [.va (lotM b s L), .va (lotM b s' L')] fun _ => [.va (lotM b s L), .va (lotM b s' L')]).thn fun x e => (lift (truthy x) e).thn fun k e => _) = _
      rw [c1]
      rfl
    have go : ex cf b10 [.va (lotM b s L), .va (lotM b s' L')] = .exn 0 [] _ := (ex_nx st0).trans (ex_xn st1)
    rw [go]
    rfl
end K05
end
section
namespace K05
open Ev L2 Lib
/-! ### what is due -/
theorem asked_l (n : Nat) (s : Nat) {L : Ps} (hl : L.length ≤ 1000) (q : Int × Int) : callF defs (n + 1) 23 none [lotD s L, encS q] = .ok (.int (askI L q.1 q.2)) [] := by
  have sz := thousand
  rw [call_d (d := d23) rfl ⟨rfl, rfl, by decide, rfl⟩]
  generalize callF defs n = cf
  show fin false false (ex cf b23 [.va (lotD s L), .va (encS q), .em, .em, .em]) = _
  have lc := ev_lcf (cf := cf) (el := .v 4) (c := .band (.cons (.cmp .le (.ix (.v 1) (.ci 0)) (.ix (.v 3) (.ci 0))) (.cons (.cmp .le (.ix (.v 3) (.ci 1)) (.ix (.v 1) (.ci 1))) .nil))) (it := .seq (.ix (.v 0) (.ci 1))) (t := .tp (.cons (.nm 3) (.cons (.nm 4) .nil))) (own := [3, 4]) (e := [.va (lotD s L), .va (encS q), .em, .em, .em]) (xs := L) (h := encE) (g := fun p => D.int p.2) (p := fun p => within q.1 q.2 p.1) (evI_seq (ix1L (i := 0) (b := true) (s := s) (L := L) rfl) (mk_items true _)) rfl rfl rfl (by omega) fun p hp => by
    refine ⟨[.va (lotD s L), .va (encS q), .em, .va (encS p.1), .va (.int p.2)], [.va (lotD s L), .va (encS q), .em, .va (encS p.1), .va (.int p.2)], [.va (lotD s L), .va (encS q), .em, .va (encS p.1), .va (.int p.2)], rfl, ?_, fun _ => rfl, rfl, rfl⟩
    exact ev_and (ev_cmp (op := .le) (ev_ixI (a := .v 1) (k := .ci 0) (x := encS q) (i := 0) (z := .int q.1) rfl rfl rfl) (ev_ixI (a := .v 3) (k := .ci 0) (x := encS p.1) (i := 0) (z := .int p.1.1) rfl rfl rfl) c_le) (ev_cmp (op := .le) (ev_ixI (a := .v 3) (k := .ci 1) (x := encS p.1) (i := 1) (z := .int p.1.2) rfl rfl rfl) (ev_ixI (a := .v 1) (k := .ci 1) (x := encS q) (i := 1) (z := .int q.2) rfl rfl rfl) c_le)
  have st0 : ex cf (nthS b23 0) [.va (lotD s L), .va (encS q), .em, .em, .em] = .nx [.va (lotD s L), .va (encS q), .va (.lst ((L.filter fun p => within q.1 q.2 p.1).map fun p => D.int p.2)), .em, .em] := ex_asg (i := 2) lc
  have go : ex cf b23 [.va (lotD s L), .va (encS q), .em, .em, .em] = .rt (.int (askI L q.1 q.2)) _ := (ex_nx st0).trans (ex_rt (ss := .nil) (ex_ret (ev_bi (a := .v 2) rfl (sum_map _ _))))
  rw [go]
  rfl
def dif (s : Nat) (L L' : Ps) : List Int := (spansL s).map fun q => askI L q.1 q.2 - askI L' q.1 q.2
theorem lover_s (n : Nat) {s : Nat} (h1 : 1 ≤ s) (h2 : s ≤ 8) {L L' : Ps} (hl : L.length ≤ 1000) (hl' : L'.length ≤ 1000) (s' : Nat) : callF defs (n + 2) 24 none [lotD s L, lotD s' L'] = .ok (.lst ((dif s L L').map D.int)) [] := by
  have sz := thousand
  rw [call_d (d := d24) rfl ⟨rfl, rfl, by decide, rfl⟩]
  have c1 := fun q => asked_l n s hl q
  have c2 := fun q => asked_l n s' hl' q
  have c3 := spans (defs := defs) (i := 18) rfl n s h1 h2
  generalize callF defs (n + 1) = cf at c1 c2 c3
  show fin false true (ex cf b24 [.va (lotD s L), .va (lotD s' L'), .em]) = _
  have hv := evI_seq (cf := cf) (ev_call (f := 18) (evs_cons (ix0L (i := 0) (b := true) (s := s) (L := L) (e := [.va (lotD s L), .va (lotD s' L'), .em]) rfl) evs_nil) c3) rfl
  have lc := ev_lcm (cf := cf) (el := .bin .sub (.call 23 (.cons (.v 0) (.cons (.v 2) .nil))) (.call 23 (.cons (.v 1) (.cons (.v 2) .nil)))) (t := .nm 2) (own := [2]) (g := fun q => D.int (askI L q.1 q.2 - askI L' q.1 q.2)) hv rfl rfl (by have := (spans_ok s h1 h2).2; omega) fun q hq => ⟨[.va (lotD s L), .va (lotD s' L'), .va (encS q)], [.va (lotD s L), .va (lotD s' L'), .va (encS q)], rfl, ev_bin (ev_call (ds := [lotD s L, encS q]) rfl (c1 q)) (ev_call (ds := [lotD s' L', encS q]) rfl (c2 q)) b_sub, rfl⟩
  have e0 : (spansL s).map (fun q => D.int (askI L q.1 q.2 - askI L' q.1 q.2)) = (dif s L L').map D.int := by
    unfold dif
    rw [List.map_map]
    rfl
  rw [e0] at lc
  have go : ex cf b24 [.va (lotD s L), .va (lotD s' L'), .em] = .rt (.lst ((dif s L L').map D.int)) _ := ex_rt (ss := .nil) (ex_ret lc)
  rw [go]
  rfl
/-! ### the greatest -/
def maxL : List Int → Int
  | [] => 0
  | n :: ns => ns.foldl max n
def IsMax (m : Int) (xs : List Int) : Prop := m ∈ xs ∧ ∀ y ∈ xs, y ≤ m
theorem foldmax : ∀ (ns : List Int) (n : Int), ns.foldl max n ∈ n :: ns ∧ ∀ y ∈ n :: ns, y ≤ ns.foldl max n
  | [], n => ⟨List.mem_cons_self, fun y hy => by rw [List.mem_singleton.mp hy]; exact Int.le_refl _⟩
  | m :: ns, n => by
    obtain ⟨h1, h2⟩ := foldmax ns (max n m)
    refine ⟨?_, fun y hy => ?_⟩
    · rw [List.foldl_cons]
      rcases List.mem_cons.mp h1 with h | h
      · rw [h]
        by_cases hc : n ≤ m
        · rw [Int.max_eq_right hc]; exact List.mem_cons_of_mem _ List.mem_cons_self
        · rw [Int.max_eq_left (by omega)]; exact List.mem_cons_self
      · exact List.mem_cons_of_mem _ (List.mem_cons_of_mem _ h)
    · rw [List.foldl_cons]
      have h0 := h2 (max n m) List.mem_cons_self
      rcases List.mem_cons.mp hy with h | h
      · rw [h]; omega
      · rcases List.mem_cons.mp h with h | h
        · rw [h]; omega
        · exact h2 y (List.mem_cons_of_mem _ h)
theorem maxL_is {xs : List Int} (h : xs ≠ []) : IsMax (maxL xs) xs := by
  cases xs with
  | nil => exact (h rfl).elim
  | cons n ns => exact foldmax ns n
theorem bi_maxl {xs : List Int} (h : xs ≠ []) : builtin .max (.lst (xs.map D.int)) = some (.int (maxL xs)) := by
  show (ints? (xs.map D.int)).bind maxI = _
  rw [ints_D]
  cases xs with
  | nil => exact (h rfl).elim
  | cons n ns => rfl
theorem spans_ne {s : Nat} (h1 : 1 ≤ s) : spansL s ≠ [] := fun z => by
  have : ((0 : Int), (0 : Int)) ∈ spansL s := mem_spansL.mpr (decide_eq_true ⟨by omega, by omega, by show (0 : Int) < s; omega⟩)
  rw [z] at this
  cases this
theorem dif_ne {s : Nat} (h1 : 1 ≤ s) (L L' : Ps) : dif s L L' ≠ [] := fun z => spans_ne h1 (List.map_eq_nil_iff.mp z)
theorem mem_dif {s : Nat} {L L' : Ps} {y : Int} : y ∈ dif s L L' ↔ ∃ q ∈ spansL s, askI L q.1 q.2 - askI L' q.1 q.2 = y := List.mem_map
theorem max_le {s : Nat} (h1 : 1 ≤ s) (L L' : Ps) : decide (maxL (dif s L L') ≤ 0) = leB s L L' := by
  obtain ⟨m1, m2⟩ := maxL_is (dif_ne h1 L L')
  rw [Bool.eq_iff_iff, decide_eq_true_eq, leB_iff]
  constructor
  · intro h q hq
    have := m2 _ (mem_dif.mpr ⟨q, hq, rfl⟩)
    omega
  · intro h
    obtain ⟨q, hq, e⟩ := mem_dif.mp m1
    have := h q hq
    omega
theorem min_ge {s : Nat} (h1 : 1 ≤ s) (L L' : Ps) : decide (0 ≤ minL (dif s L L')) = leB s L' L := by
  obtain ⟨m1, m2⟩ := minL_is (dif_ne h1 L L')
  rw [Bool.eq_iff_iff, decide_eq_true_eq, leB_iff]
  constructor
  · intro h q hq
    have := m2 _ (mem_dif.mpr ⟨q, hq, rfl⟩)
    omega
  · intro h
    obtain ⟨q, hq, e⟩ := mem_dif.mp m1
    have := h q hq
    omega
theorem both_zero {s : Nat} (h1 : 1 ≤ s) (h2 : s ≤ 8) {L L' : Ps} (hn : Nrm s L) (hn' : Nrm s L') : (decide (minL (dif s L L') = 0) && decide (maxL (dif s L L') = 0)) = decide (L = L') := by
  obtain ⟨m1, m2⟩ := minL_is (dif_ne h1 L L')
  obtain ⟨n1, n2⟩ := maxL_is (dif_ne h1 L L')
  rw [Bool.eq_iff_iff, Bool.and_eq_true, decide_eq_true_eq, decide_eq_true_eq, decide_eq_true_eq]
  constructor
  · rintro ⟨a, b⟩
    refine lot_same h2 hn hn' fun q hq => ?_
    have k1 := m2 _ (mem_dif.mpr ⟨q, hq, rfl⟩)
    have k2 := n2 _ (mem_dif.mpr ⟨q, hq, rfl⟩)
    omega
  · rintro rfl
    obtain ⟨q, hq, e⟩ := mem_dif.mp m1
    obtain ⟨q', hq', e'⟩ := mem_dif.mp n1
    omega
theorem leB_refl (s : Nat) (L : Ps) : leB s L L = true := leB_iff.mpr fun _ _ => Int.le_refl _
def unlD : D := .lst [.str "unlike", .bl true]
def ansD (s : Nat) (L : Ps) (s' : Nat) (L' : Ps) : D := if s = s' then .lst [.bl (leB s L L'), cmpS s L L'] else .lst [unlD, unlD]
theorem due_s (n : Nat) {s s' : Nat} (h1 : 1 ≤ s) (h2 : s ≤ 8) {L L' : Ps} (hl : L.length ≤ 1000) (hl' : L'.length ≤ 1000) (hn : Nrm s L) (hn' : Nrm s' L') : callF defs (n + 3) 27 none [lotD s L, lotD s' L'] = .ok (ansD s L s' L') [] := by
  have sz := thousand
  have e2 : 2 ≤ PySem.sizeLine := by omega
  rw [call_d (d := d27) rfl ⟨rfl, rfl, by decide, rfl⟩]
  have c24 := lover_s n h1 h2 hl hl' s'
  generalize callF defs (n + 2) = cf at c24
  show fin false false (ex cf b27 [.va (lotD s L), .va (lotD s' L'), .em]) = _
  have q := ev_cmp (cf := cf) (op := .ne) (ix0L (i := 0) (b := true) (s := s) (L := L) (e := [.va (lotD s L), .va (lotD s' L'), .em]) rfl) (ix0L (i := 1) (b := true) (s := s') (L := L') rfl) c_ne
  unfold ansD
  by_cases h : s = s'
  · subst h
    rw [decide_eq_true rfl] at q
    rw [if_pos rfl]
    have st0 : ex cf (nthS b27 0) [.va (lotD s L), .va (lotD s L'), .em] = .nx [.va (lotD s L), .va (lotD s L'), .em] := (ex_ite q).trans rfl
    have st1 : ex cf (nthS b27 1) [.va (lotD s L), .va (lotD s L'), .em] = .nx [.va (lotD s L), .va (lotD s L'), .va (.lst ((dif s L L').map D.int))] := ex_asg (i := 2) (ev_call (cf := cf) (f := 24) (as := .cons (.v 0) (.cons (.v 1) .nil)) (e := [.va (lotD s L), .va (lotD s L'), .em]) (ds := [lotD s L, lotD s L']) rfl c24)
    have bn := ev_bi (cf := cf) (b := .min) (a := .v 2) (e := [.va (lotD s L), .va (lotD s L'), .va (.lst ((dif s L L').map D.int))]) rfl (bi_min false (dif_ne h1 L L'))
    have bx := ev_bi (cf := cf) (b := .max) (a := .v 2) (e := [.va (lotD s L), .va (lotD s L'), .va (.lst ((dif s L L').map D.int))]) rfl (bi_maxl (dif_ne h1 L L'))
    have z := ev_and (ev_cmp (op := .eq) bn (b := .ci 0) rfl c_eq) (ev_cmp (op := .eq) bx (b := .ci 0) rfl c_eq)
    rw [both_zero h1 h2 hn hn'] at z
    unfold cmpS
    by_cases e : L = L'
    · rw [decide_eq_true e] at z
      have lr : leB s L L' = true := by rw [e]; exact leB_refl s L'
      rw [if_pos e, lr]
      have st2 : ex cf (nthS b27 2) [.va (lotD s L), .va (lotD s L'), .va (.lst ((dif s L L').map D.int))] = .rt (.lst [.bl true, .str "alike"]) [.va (lotD s L), .va (lotD s L'), .va (.lst ((dif s L L').map D.int))] := by
        have r0 : ex cf (.cons (.ret (.lst (.cons (.cb true) (.cons (.cs "alike") .nil)))) .nil) [.va (lotD s L), .va (lotD s L'), .va (.lst ((dif s L L').map D.int))] = .rt (.lst [.bl true, .str "alike"]) [.va (lotD s L), .va (lotD s L'), .va (.lst ((dif s L L').map D.int))] := ex_rt (ex_ret (ev_lst (xs := [.bl true, .str "alike"]) rfl e2))
        exact (ex_ite z).trans r0
      have go : ex cf b27 [.va (lotD s L), .va (lotD s L'), .em] = .rt (.lst [.bl true, .str "alike"]) _ := (ex_nx st0).trans ((ex_nx st1).trans (ex_rt st2))
      rw [go]
      rfl
    · rw [decide_eq_false e] at z
      rw [if_neg e]
      have st2 : ex cf (nthS b27 2) [.va (lotD s L), .va (lotD s L'), .va (.lst ((dif s L L').map D.int))] = .nx [.va (lotD s L), .va (lotD s L'), .va (.lst ((dif s L L').map D.int))] := (ex_ite z).trans rfl
      have y := ev_cmp (op := .le) bx (b := .ci 0) rfl c_le
      rw [max_le h1] at y
      by_cases k : leB s L L' = true
      · rw [k] at y
        rw [if_pos k, k]
        have st3 : ex cf (nthS b27 3) [.va (lotD s L), .va (lotD s L'), .va (.lst ((dif s L L').map D.int))] = .rt (.lst [.bl true, .str "lighter"]) [.va (lotD s L), .va (lotD s L'), .va (.lst ((dif s L L').map D.int))] := by
          have r0 : ex cf (.cons (.ret (.lst (.cons (.cb true) (.cons (.cs "lighter") .nil)))) .nil) [.va (lotD s L), .va (lotD s L'), .va (.lst ((dif s L L').map D.int))] = .rt (.lst [.bl true, .str "lighter"]) [.va (lotD s L), .va (lotD s L'), .va (.lst ((dif s L L').map D.int))] := ex_rt (ex_ret (ev_lst (xs := [.bl true, .str "lighter"]) rfl e2))
          exact (ex_ite y).trans r0
        have go : ex cf b27 [.va (lotD s L), .va (lotD s L'), .em] = .rt (.lst [.bl true, .str "lighter"]) _ := (ex_nx st0).trans ((ex_nx st1).trans ((ex_nx st2).trans (ex_rt st3)))
        rw [go]
        rfl
      · have k' := Bool.not_eq_true _ ▸ k
        rw [k'] at y
        rw [if_neg k, k']
        have st3 : ex cf (nthS b27 3) [.va (lotD s L), .va (lotD s L'), .va (.lst ((dif s L L').map D.int))] = .nx [.va (lotD s L), .va (lotD s L'), .va (.lst ((dif s L L').map D.int))] := (ex_ite y).trans rfl
        have w := ev_cmp (op := .ge) bn (b := .ci 0) rfl c_ge
        rw [min_ge h1] at w
        have r2 := ev_ite (a := .cs "heavier") (b := .cs "neither") w
        have fin4 : ∀ d : D, ev cf (.ite (.cmp .ge (.bi .min (.v 2)) (.ci 0)) (.cs "heavier") (.cs "neither")) [.va (lotD s L), .va (lotD s L'), .va (.lst ((dif s L L').map D.int))] = .ok d [.va (lotD s L), .va (lotD s L'), .va (.lst ((dif s L L').map D.int))] → fin false false (ex cf b27 [.va (lotD s L), .va (lotD s L'), .em]) = .ok (.lst [.bl false, d]) [] := fun d hd => by
          have st4 := ex_ret (ev_lst (evs_cons (cf := cf) (a := .cb false) (x := .bl false) (e := [.va (lotD s L), .va (lotD s L'), .va (.lst ((dif s L L').map D.int))]) rfl (evs_cons hd evs_nil)) e2)
          have go : ex cf b27 [.va (lotD s L), .va (lotD s L'), .em] = .rt (.lst [.bl false, d]) _ := (ex_nx st0).trans ((ex_nx st1).trans ((ex_nx st2).trans ((ex_nx st3).trans (ex_rt (ss := .nil) st4))))
          rw [go]
          rfl
        by_cases m : leB s L' L = true
        · rw [if_pos m] at r2 ⊢
          exact fin4 _ r2
        · rw [if_neg m] at r2 ⊢
          exact fin4 _ r2
  · rw [decide_eq_false (show ¬ (s : Int) = (s' : Int) by omega)] at q
    rw [if_neg h]
    have st0 : ex cf (nthS b27 0) [.va (lotD s L), .va (lotD s' L'), .em] = .rt (.lst [unlD, unlD]) [.va (lotD s L), .va (lotD s' L'), .em] := by
      have m : ev cf (.bin .mul (.lst (.cons (.lst (.cons (.cs "unlike") (.cons (.cb true) .nil))) .nil)) (.ci 2)) [.va (lotD s L), .va (lotD s' L'), .em] = .ok (.lst [unlD, unlD]) [.va (lotD s L), .va (lotD s' L'), .em] := by
        refine ev_bin (ev_lst (xs := [unlD]) (evs_cons (ev_lst (xs := [.str "unlike", .bl true]) rfl e2) evs_nil) (by show 1 ≤ _; omega)) (b := .ci 2) (y := .int 2) rfl ((mul_lst ⟨by decide, by decide, ?_⟩).trans rfl)
        show 2 ≤ _
        exact e2
      have r0 : ex cf (.cons (.ret (.bin .mul (.lst (.cons (.lst (.cons (.cs "unlike") (.cons (.cb true) .nil))) .nil)) (.ci 2))) .nil) [.va (lotD s L), .va (lotD s' L'), .em] = .rt (.lst [unlD, unlD]) [.va (lotD s L), .va (lotD s' L'), .em] := ex_rt (ex_ret m)
      exact (ex_ite q).trans r0
    have go : ex cf b27 [.va (lotD s L), .va (lotD s' L'), .em] = .rt (.lst [unlD, unlD]) _ := ex_rt st0
    rw [go]
    rfl
end K05
end
section
namespace K05
open Ev L2 Lib
/-! ### what is heard at a door -/
def tryB : S → S
  | .try_ b _ _ _ _ => b
  | _ => .nil
def B26 : S := tryB (nthS b26 1)
abbrev HE (d : Int) (x y : D) (x3 x4 x5 : Sl) : Env := [.va (.int d), .va x, .va y, x3, x4, x5]
theorem heard_ok {cf : CF} {d : Int} {x y v : D} (h : ex cf B26 (HE d x y (.va .non) (.va .non) .em) = .nx (HE d x y (.va v) (.va .non) .em)) : fin false false (ex cf b26 (HE d x y .em .em .em)) = .ok v [] := by
  have sz := thousand
  have st0 : ex cf (nthS b26 0) (HE d x y .em .em .em) = .nx (HE d x y (.va .non) (.va .non) .em) := by
    have e2 : 2 ≤ PySem.sizeLine := by omega
    simp [nthS, b26, ex, ev, evs, e2, tset, tsets]
  have st1 : ex cf (nthS b26 1) (HE d x y (.va .non) (.va .non) .em) = .nx (HE d x y (.va v) (.va .non) .em) := by
    show (match ex cf B26 _ with | .exn k fs e' => _ | r => r) = _
    rw [h]
  have st2 : ex cf (nthS b26 2) (HE d x y (.va v) (.va .non) .em) = .rt v (HE d x y (.va v) (.va .non) .em) := by
    have c1 : cmpop .isn .non .non = some true := rfl
    simp [nthS, b26, ex, ev, c1]
  have go : ex cf b26 _ = _ := (ex_nx st0).trans ((ex_nx st1).trans (ex_rt (ss := .nil) st2))
  rw [go]
  rfl
theorem heard_ex {cf : CF} {d : Int} {x y : D} (h : ex cf B26 (HE d x y (.va .non) (.va .non) .em) = .exn 0 [] (HE d x y (.va .non) (.va .non) .em)) : fin false false (ex cf b26 (HE d x y .em .em .em)) = .ok unlD [] := by
  have sz := thousand
  have st0 : ex cf (nthS b26 0) (HE d x y .em .em .em) = .nx (HE d x y (.va .non) (.va .non) .em) := by
    have e2 : 2 ≤ PySem.sizeLine := by omega
    simp [nthS, b26, ex, ev, evs, e2, tset, tsets]
  have st1 : ex cf (nthS b26 1) (HE d x y (.va .non) (.va .non) .em) = .nx (HE d x y (.va .non) (.va (.err 0 [] [])) .em) := by
    show (match ex cf B26 _ with | .exn k fs e' => if k = 0 then unS 5 (ex cf (.cons (.asg (.nm 4) (.v 5)) .nil) (e'.set 5 (.va (.err 0 [] fs)))) else .exn k fs e' | r => r) = _
    rw [h]
    rfl
  have st2 : ex cf (nthS b26 2) (HE d x y (.va .non) (.va (.err 0 [] [])) .em) = .rt unlD (HE d x y (.va .non) (.va (.err 0 [] [])) .em) := by
    have c1 : cmpop .isn (.err 0 [] []) .non = some false := rfl
    have e2 : 2 ≤ PySem.sizeLine := by omega
    simp [nthS, b26, ex, ev, evs, c1, e2, unlD]
  have go : ex cf b26 _ = _ := (ex_nx st0).trans ((ex_nx st1).trans (ex_rt (ss := .nil) st2))
  rw [go]
  rfl
def A26 : E := .callk 9 .nil (.cons (.v 2) (.cons (.v 1) .nil)) [1, 0]
def C26 : E := .callk 10 .nil (.cons (.v 2) (.cons (.v 1) .nil)) [1, 0]
def I26 : E := .ite (.cmp .eq (.v 0) (.ci 0)) A26 C26
def outS (d : Int) (x y : D) : CR → RS
  | .ok v _ => .nx (HE d x y (.va v) (.va .non) .em)
  | .ex c fs _ => .exn c fs (HE d x y (.va .non) (.va .non) .em)
  | .no => .no
theorem asg_out {cf : CF} {d : Int} {x y : D} {r : CR} (h : ev cf I26 (HE d x y (.va .non) (.va .non) .em) = outC r (HE d x y (.va .non) (.va .non) .em) fun _ => HE d x y (.va .non) (.va .non) .em) : ex cf B26 (HE d x y (.va .non) (.va .non) .em) = outS d x y r := by
  show (match ((ev cf I26 (HE d x y (.va .non) (.va .non) .em)).thn fun d e => match tset (.nm 3) d e with | some e' => RS.nx e' | none => .no) with | .nx e' => RS.nx e' | r => r) = _
  rw [h]
  cases r <;> rfl
def doorD (d : Int) (s : Nat) (L L' : Ps) : D := if d = 0 then .bl (leB s L L') else cmpS s L L'
def hrdD (d : Int) (s : Nat) (L : Ps) (s' : Nat) (L' : Ps) : D := if s = s' then doorD d s L L' else unlD
theorem heard_s (n : Nat) (b : Bool) {s s' : Nat} (h1 : 1 ≤ s) (h2 : s ≤ 8) (h1' : 1 ≤ s') (h2' : s' ≤ 8) {L L' : Ps} (hl : L.length ≤ 1000) (hl' : L'.length ≤ 1000) (d : Int) : callF defs (n + 10) 26 none [.int d, lotM b s L, lotM b s' L'] = .ok (hrdD d s L s' L') [] := by
  rw [call_d (d := d26) rfl ⟨rfl, rfl, by decide, rfl⟩]
  have c9 := never_s (n + 1) b h1 h2 (s' := s') hl hl'
  have c10 := compare_s n b h1 h2 h1' h2' hl hl'
  generalize callF defs (n + 9) = cf at c9 c10
  show fin false false (ex cf b26 (HE d (lotM b s L) (lotM b s' L') .em .em .em)) = _
  have key : ∀ {v : D}, ev cf I26 (HE d (lotM b s L) (lotM b s' L') (.va .non) (.va .non) .em) = outC (if s = s' then .ok v [] else .ex 0 [] []) (HE d (lotM b s L) (lotM b s' L') (.va .non) (.va .non) .em) (fun _ => HE d (lotM b s L) (lotM b s' L') (.va .non) (.va .non) .em) → doorD d s L L' = v → fin false false (ex cf b26 (HE d (lotM b s L) (lotM b s' L') .em .em .em)) = .ok (hrdD d s L s' L') [] := by
    intro v h2 h3
    have h1 := asg_out h2
    unfold hrdD
    by_cases h : s = s'
    · rw [if_pos h] at h1 ⊢
      rw [h3]
      exact heard_ok h1
    · rw [if_neg h] at h1 ⊢
      exact heard_ex h1
  have c := ev_cmp (cf := cf) (op := .eq) (a := .v 0) (b := .ci 0) (e := HE d (lotM b s L) (lotM b s' L') (.va .non) (.va .non) .em) (x := .int d) (y := .int 0) rfl rfl c_eq
  by_cases z : d = 0
  · refine key (v := .bl (leB s L L')) ?_ (if_pos z)
    refine (ev_ite c).trans ?_
    rw [if_pos (decide_eq_true z)]
    show outC (cf 9 none [lotM b s L, lotM b s' L']) (HE d (lotM b s L) (lotM b s' L') (.va .non) (.va .non) .em) (fun _ => HE d (lotM b s L) (lotM b s' L') (.va .non) (.va .non) .em) = _
    rw [c9]
  · refine key (v := cmpS s L L') ?_ (if_neg z)
    refine (ev_ite c).trans ?_
    rw [if_neg (fun w => z (of_decide_eq_true w))]
    show outC (cf 10 none [lotM b s L, lotM b s' L']) (HE d (lotM b s L) (lotM b s' L') (.va .non) (.va .non) .em) (fun _ => HE d (lotM b s L) (lotM b s' L') (.va .non) (.va .non) .em) = _
    rw [c10]
theorem ans_hrd (s : Nat) (L : Ps) (s' : Nat) (L' : Ps) : ansD s L s' L' = .lst [hrdD 0 s L s' L', hrdD 1 s L s' L'] := by
  unfold ansD hrdD
  by_cases h : s = s'
  · rw [if_pos h, if_pos h, if_pos h]
    rfl
  · rw [if_neg h, if_neg h, if_neg h]
theorem cmp_pl (s : Nat) (L L' : Ps) : pl (cmpS s L L') = true ∧ (cmpS s L L').dep ≤ 0 := by
  unfold cmpS
  split
  · exact ⟨rfl, Nat.le_refl _⟩
  · split
    · exact ⟨rfl, Nat.le_refl _⟩
    · split
      · exact ⟨rfl, Nat.le_refl _⟩
      · exact ⟨rfl, Nat.le_refl _⟩
theorem ans_pl (s : Nat) (L : Ps) (s' : Nat) (L' : Ps) : pl (ansD s L s' L') = true ∧ (ansD s L s' L').dep ≤ 3 := by
  unfold ansD
  split
  · have a : ∀ x ∈ [D.bl (leB s L L'), cmpS s L L'], pl x = true ∧ x.dep ≤ 2 := fun x hx => by
      simp only [List.mem_cons, List.not_mem_nil, or_false] at hx
      rcases hx with rfl | rfl
      · exact ⟨rfl, Nat.zero_le _⟩
      · exact ⟨(cmp_pl s L L').1, Nat.le_trans (cmp_pl s L L').2 (by decide)⟩
    exact ⟨(pl_seq (by show 2 ≤ 2000; decide) fun x hx => (a x hx).1).2, (dep_seq (k := 2) fun x hx => (a x hx).2).2⟩
  · exact ⟨rfl, by show 2 ≤ 3; decide⟩
end K05
end
section
namespace K05
open Ev L2 Lib
/-! ### one pair of lots -/
theorem ex_app {cf : CF} {i : Nat} {v : E} {e e1 : Env} {d : D} {xs : List D} (hv : ev cf v e = .ok d e1) (hs : getS e1 i = .ow xs) (h0 : isOw (getS e i) = true) (hl : xs.length < PySem.sizeLine) : ex cf (.app i v) e = .nx (e1.set i (.ow (xs ++ [d]))) := by
  show (if isOw (getS e i) = true then (ev cf v e).thn fun d e => (lift (owS (getS e i)) e).thn fun xs e => if xs.length < PySem.sizeLine then RS.nx (e.set i (.ow (xs ++ [d]))) else .no else .no) = _
  rw [if_pos h0, hv, thn_ok, hs]
  show (if xs.length < PySem.sizeLine then RS.nx (e1.set i (.ow (xs ++ [d]))) else .no) = _
  rw [if_pos hl]
abbrev CE (x y : D) (x2 x3 x4 x5 x6 : Sl) : Env := [.va x, .va y, x2, x3, x4, x5, x6]
theorem case_s (n : Nat) {s s' : Nat} (h1 : 1 ≤ s) (h2 : s ≤ 8) (h1' : 1 ≤ s') (h2' : s' ≤ 8) {L L' : Ps} (hl : L.length ≤ 1000) (hl' : L'.length ≤ 1000) (hn : Nrm s L) (hn' : Nrm s' L') : callF defs (n + 12) 28 none [lotD s L, lotD s' L'] = .ok (.bl true) [] := by
  have sz := thousand
  rw [call_d (d := d28) rfl ⟨rfl, rfl, by decide, rfl⟩]
  have p1 := enc_pl true s L hl
  have p2 := enc_pl true s' L' hl'
  have f1 := enc_pl false s L hl
  have f2 := enc_pl false s' L' hl'
  have c27 := due_s (n + 8) h1 h2 hl hl' hn hn'
  have c16 : callF defs (n + 11) 16 none [lotD s L] = .ok (lotM false s L) [] := by
    have q := (lists_spec (i := 16) (defs := defs) rfl (n + 6) 4 (lotD s L) p1.1 p1.2).1
    rw [lotM_f] at q
    exact q
  have c16' : callF defs (n + 11) 16 none [lotD s' L'] = .ok (lotM false s' L') [] := by
    have q := (lists_spec (i := 16) (defs := defs) rfl (n + 6) 4 (lotD s' L') p2.1 p2.2).1
    rw [lotM_f] at q
    exact q
  have c26 := fun b d => heard_s (n + 1) b h1 h2 h1' h2' hl hl' d
  obtain ⟨a1, a2⟩ := ans_pl s L s' L'
  have c17 : callF defs (n + 11) 17 none [.lst [ansD s L s' L', ansD s L s' L'], .lst [ansD s L s' L', ansD s L s' L']] = .ok (.bl true) [] := by
    refine same_refl (i := 17) rfl (n + 6) 4 _ (pl_seq (by show 2 ≤ 2000; decide) fun x hx => ?_).2 (dep_seq (k := 3) fun x hx => ?_).2 (by decide)
    · simp only [List.mem_cons, List.not_mem_nil, or_false] at hx
      rcases hx with rfl | rfl <;> exact a1
    · simp only [List.mem_cons, List.not_mem_nil, or_false] at hx
      rcases hx with rfl | rfl <;> exact a2
  have ah := ans_hrd s L s' L'
  generalize callF defs (n + 11) = cf at c27 c16 c16' c26 c17
  generalize hA : ansD s L s' L' = A at c27 c17 ah
  show fin false false (ex cf b28 (CE (lotD s L) (lotD s' L') .em .em .em .em .em)) = _
  have l2 : 2 ≤ PySem.sizeLine := by omega
  have l1 : 1 ≤ PySem.sizeLine := by omega
  have t := ev_tup (evs_cons (ev_call (cf := cf) (f := 16) (as := .cons (.v 0) .nil) (e := CE (lotD s L) (lotD s' L') .em .em .em .em .em) (ds := [lotD s L]) rfl c16) (evs_cons (ev_call (cf := cf) (f := 16) (as := .cons (.v 1) .nil) (e := CE (lotD s L) (lotD s' L') .em .em .em .em .em) (ds := [lotD s' L']) rfl c16') evs_nil)) l2
  have st0 : ex cf (nthS b28 0) (CE (lotD s L) (lotD s' L') .em .em .em .em .em) = .nx (CE (lotD s L) (lotD s' L') (.va (lotM false s L)) (.va (lotM false s' L')) .em .em .em) := by
    show ((ev cf (.tup _) _).thn fun d e => match tset (.tp (.cons (.nm 2) (.cons (.nm 3) .nil))) d e with | some e' => RS.nx e' | none => .no) = _
    rw [t]
    rfl
  have st1 : ex cf (nthS b28 1) (CE (lotD s L) (lotD s' L') (.va (lotM false s L)) (.va (lotM false s' L')) .em .em .em) = .nx (CE (lotD s L) (lotD s' L') (.va (lotM false s L)) (.va (lotM false s' L')) (.va A) .em .em) := ex_asg (i := 4) (ev_call (cf := cf) (f := 27) (as := .cons (.v 0) (.cons (.v 1) .nil)) (e := CE (lotD s L) (lotD s' L') (.va (lotM false s L)) (.va (lotM false s' L')) .em .em .em) (ds := [lotD s L, lotD s' L']) rfl c27)
  have lc : ∀ (b : Bool) (i j : Nat) (x5 : Sl), i < 4 → j < 4 → getS (CE (lotD s L) (lotD s' L') (.va (lotM false s L)) (.va (lotM false s' L')) (.va A) x5 .em) i = .va (lotM b s L) → getS (CE (lotD s L) (lotD s' L') (.va (lotM false s L)) (.va (lotM false s' L')) (.va A) x5 .em) j = .va (lotM b s' L') →
      ev cf (.lc (.call 26 (.cons (.v 6) (.cons (.v i) (.cons (.v j) .nil)))) (.nm 6) (.range1 (.ci 2)) .absent [6]) (CE (lotD s L) (lotD s' L') (.va (lotM false s L)) (.va (lotM false s' L')) (.va A) x5 .em) = .ok A (CE (lotD s L) (lotD s' L') (.va (lotM false s L)) (.va (lotM false s' L')) (.va A) x5 .em) := by
    intro b i j x5 hi hj ei ej
    have hv : evI cf (.range1 (.ci 2)) (CE (lotD s L) (lotD s' L') (.va (lotM false s L)) (.va (lotM false s' L')) (.va A) x5 .em) = .ok ([(0 : Int), 1].map D.int) (CE (lotD s L) (lotD s' L') (.va (lotM false s L)) (.va (lotM false s' L')) (.va A) x5 .em) := range1_of (i := 2) rfl (by omega)
    have q := ev_lcm (cf := cf) (el := .call 26 (.cons (.v 6) (.cons (.v i) (.cons (.v j) .nil)))) (t := .nm 6) (own := [6]) (g := fun d : Int => hrdD d s L s' L') hv rfl rfl (by show 2 ≤ _; omega) fun d _ => by
      refine ⟨CE (lotD s L) (lotD s' L') (.va (lotM false s L)) (.va (lotM false s' L')) (.va A) x5 (.va (.int d)), CE (lotD s L) (lotD s' L') (.va (lotM false s L)) (.va (lotM false s' L')) (.va A) x5 (.va (.int d)), rfl, ev_call (evs_cons (a := .v 6) (x := .int d) rfl (evs_cons (ev_name (i := i) ?_) (evs_cons (ev_name (i := j) ?_) evs_nil))) (c26 b d), rfl⟩
      · match i, hi, ei with
        | 0, _, ei => exact ei
        | 1, _, ei => exact ei
        | 2, _, ei => exact ei
        | 3, _, ei => exact ei
      · match j, hj, ej with
        | 0, _, ej => exact ej
        | 1, _, ej => exact ej
        | 2, _, ej => exact ej
        | 3, _, ej => exact ej
    rw [q, ah]
    rfl
  have g0 := ev_lst (evs_cons (lc true 0 1 .em (by decide) (by decide) rfl rfl) evs_nil) l1
  have st2 : ex cf (nthS b28 2) (CE (lotD s L) (lotD s' L') (.va (lotM false s L)) (.va (lotM false s' L')) (.va A) .em .em) = .nx (CE (lotD s L) (lotD s' L') (.va (lotM false s L)) (.va (lotM false s' L')) (.va A) (.ow (.l [A])) .em) := by
    show ((ev cf (.lst (.cons (.lc (.call 26 (.cons (.v 6) (.cons (.v 0) (.cons (.v 1) .nil)))) (.nm 6) (.range1 (.ci 2)) .absent [6]) .nil)) _).thn fun d e => match d with | .lst xs => RS.nx (e.set 5 (.ow (.l xs))) | .dic ks xs => .nx (e.set 5 (.ow (.d ks xs))) | _ => .no) = _
    rw [g0]
    rfl
  have st3 : ex cf (nthS b28 3) (CE (lotD s L) (lotD s' L') (.va (lotM false s L)) (.va (lotM false s' L')) (.va A) (.ow (.l [A])) .em) = .nx (CE (lotD s L) (lotD s' L') (.va (lotM false s L)) (.va (lotM false s' L')) (.va A) (.ow (.l [A, A])) .em) :=
    ex_app (i := 5) (xs := [A]) (lc false 2 3 (.ow (.l [A])) (by decide) (by decide) rfl rfl) rfl rfl (by show 1 < _; omega)
  have g1 : ev cf (.v 5) (CE (lotD s L) (lotD s' L') (.va (lotM false s L)) (.va (lotM false s' L')) (.va A) (.ow (.l [A, A])) .em) = .ok (.lst [A, A]) (CE (lotD s L) (lotD s' L') (.va (lotM false s L)) (.va (lotM false s' L')) (.va A) (.va (.lst [A, A])) .em) := rfl
  have g2 : ev cf (.lst (.cons (.v 4) (.cons (.v 4) .nil))) (CE (lotD s L) (lotD s' L') (.va (lotM false s L)) (.va (lotM false s' L')) (.va A) (.va (.lst [A, A])) .em) = .ok (.lst [A, A]) (CE (lotD s L) (lotD s' L') (.va (lotM false s L)) (.va (lotM false s' L')) (.va A) (.va (.lst [A, A])) .em) := ev_lst (xs := [A, A]) rfl l2
  have st4 : ex cf (nthS b28 4) (CE (lotD s L) (lotD s' L') (.va (lotM false s L)) (.va (lotM false s' L')) (.va A) (.ow (.l [A, A])) .em) = .nx (CE (lotD s L) (lotD s' L') (.va (lotM false s L)) (.va (lotM false s' L')) (.va A) (.va (.lst [A, A])) .em) := ex_ifn (ev_call (f := 17) (evs_cons g1 (evs_cons g2 evs_nil)) c17)
  have z1 := ev_cmp (cf := cf) (op := .eq) (a := .v 2) (x := lotM false s L) (e := CE (lotD s L) (lotD s' L') (.va (lotM false s L)) (.va (lotM false s' L')) (.va A) (.va (.lst [A, A])) .em) rfl (ev_call (f := 16) (as := .cons (.v 0) .nil) (ds := [lotD s L]) rfl c16) (eq_refl f1.1 (Nat.le_trans f1.2 (by decide)))
  have z2 := ev_cmp (cf := cf) (op := .eq) (a := .v 3) (x := lotM false s' L') (e := CE (lotD s L) (lotD s' L') (.va (lotM false s L)) (.va (lotM false s' L')) (.va A) (.va (.lst [A, A])) .em) rfl (ev_call (f := 16) (as := .cons (.v 1) .nil) (ds := [lotD s' L']) rfl c16') (eq_refl f2.1 (Nat.le_trans f2.2 (by decide)))
  have st5 := ex_ret (ev_and z1 z2)
  have go : ex cf b28 (CE (lotD s L) (lotD s' L') .em .em .em .em .em) = .rt (.bl true) _ := (ex_nx st0).trans ((ex_nx st1).trans ((ex_nx st2).trans ((ex_nx st3).trans ((ex_nx st4).trans (ex_rt (ss := .nil) st5)))))
  rw [go]
  rfl
end K05
end
section
namespace K05
open Ev L2 Lib
structure Lt (s : Nat) (L : Ps) : Prop where
  h1 : 1 ≤ s
  h2 : s ≤ 8
  n : Nrm s L
theorem Lt.len {s : Nat} {L : Ps} (h : Lt s L) : L.length ≤ 36 := by
  have := h.n.sub.length_le
  unfold keysP at this
  rw [List.length_map] at this
  exact Nat.le_trans this (spans_ok s h.h1 h.h2).2
structure Cf (cf : CF) : Prop where
  h13 : ∀ {bs : List D} {c w : Int}, Box bs c → c < 900000 → 0 < w → w < 10 ^ 40 → ∃ (r : Int) (bs' : List D), 0 ≤ r ∧ r < w ∧ Box bs' (c + 1) ∧ cf 13 (some bs) [.int w] = .ok (.int r) bs'
  h19 : ∀ {bs : List D} {c : Int} (s : Nat) (top : Int), 0 ≤ top ∧ top < 10 → 1 ≤ s → s ≤ 8 → Box bs c → c < 900000 → ∃ (L : Ps) (bs' : List D), Box bs' (c + 100) ∧ Lt s L ∧ cf 19 (some bs) [.int s, .int top] = .ok (lotD s L) bs'
  h20 : ∀ {bs : List D} {c : Int} (s : Nat), 1 ≤ s → s ≤ 8 → Box bs c → c < 900000 → ∃ (L : Ps) (bs' : List D), Box bs' (c + 100) ∧ Lt s L ∧ cf 20 (some bs) [.int s] = .ok (lotD s L) bs'
  h25 : ∀ {bs : List D} {c : Int} {s : Nat} {L : Ps} (k : Nat), Lt s L → k ≤ 100 → Box bs c → c < 600000 → ∃ (L' : Ps) (bs' : List D), Box bs' (c + 1000) ∧ Lt s L' ∧ cf 25 (some bs) [lotD s L, .int k] = .ok (lotD s L') bs'
  h28 : ∀ {s s' : Nat} {L L' : Ps}, Lt s L → Lt s' L' → cf 28 none [lotD s L, lotD s' L'] = .ok (.bl true) []
theorem Cf.one {cf : CF} (H : Cf cf) {bs : List D} {c w : Int} (hb : Box bs c) (hc : c < 900000) (h0 : 0 < w) (h1 : w < 100) {x1 x2 x3 x4 : Sl} : ∃ (s : Nat) (bs' : List D), 1 ≤ s ∧ (s : Int) ≤ w ∧ Box bs' (c + 1) ∧ ev cf (.bin .add (.ci 1) (.callo 13 0 (.cons (.ci w) .nil))) [.ow (.l bs), x1, x2, x3, x4] = .ok (.int s) [.ow (.l bs'), x1, x2, x3, x4] := by
  obtain ⟨r, bs1, k1, k2, k3, k4⟩ := H.h13 hb hc h0 (Int.lt_trans h1 (by decide))
  obtain ⟨s, hs⟩ : ∃ s : Nat, 1 + r = (s : Int) := ⟨(1 + r).toNat, by omega⟩
  have b := ev_bin (cf := cf) (op := .add) (a := .ci 1) (x := .int 1) (e := [.ow (.l bs), x1, x2, x3, x4]) (e1 := [.ow (.l bs), x1, x2, x3, x4]) rfl (ev_callo (f := 13) (i := 0) (as := .cons (.ci w) .nil) (xs := bs) (e1 := [.ow (.l bs), x1, x2, x3, x4]) rfl rfl rfl k4) b_add
  rw [hs] at b
  exact ⟨s, bs1, by omega, by omega, k3, b⟩
def BT : S := forB (nthS b30 0)
theorem turn5 {cf : CF} (H : Cf cf) {bs : List D} {c : Int} (hb : Box bs c) (hc : c < 200000) {j : Int} {x2 x3 x4 : Sl} : ∃ (bs' : List D) (y2 y3 y4 : Sl), Box bs' (c + 2000) ∧ ex cf BT [.ow (.l bs), .va (.int j), x2, x3, x4] = .nx [.ow (.l bs'), .va (.int j), y2, y3, y4] := by
  have sz := thousand
  obtain ⟨s, bs1, a1, a2, a3, a4⟩ := H.one hb (by omega) (w := 7) (by decide) (by decide) (x1 := .va (.int j)) (x2 := x2) (x3 := x3) (x4 := x4)
  have st0 : ex cf (nthS BT 0) [.ow (.l bs), .va (.int j), x2, x3, x4] = .nx [.ow (.l bs1), .va (.int j), .va (.int s), x3, x4] := ex_asg (i := 2) a4
  have cj := ev_cmp (cf := cf) (op := .lt) (a := .v 1) (b := .ci 2) (e := [.ow (.l bs1), .va (.int j), .va (.int s), x3, x4]) (x := .int j) (y := .int 2) rfl rfl c_lt
  have st1 : ∃ (L : Ps) (bs2 : List D), Box bs2 (c + 101) ∧ Lt s L ∧ ex cf (nthS BT 1) [.ow (.l bs1), .va (.int j), .va (.int s), x3, x4] = .nx [.ow (.l bs2), .va (.int j), .va (.int s), .va (lotD s L), x4] := by
    by_cases z : j < 2
    · obtain ⟨L, bs2, m1, m2, m3⟩ := H.h20 s a1 (by omega) a3 (by omega)
      refine ⟨L, bs2, m1.mono (by omega), m2, ex_asg (i := 3) (a := .ite (.cmp .lt (.v 1) (.ci 2)) (.callo 20 0 (.cons (.v 2) .nil)) (.callo 19 0 (.cons (.v 2) (.cons (.ci 4) .nil)))) (d := lotD s L) (e1 := [.ow (.l bs2), .va (.int j), .va (.int s), x3, x4]) ((ev_ite cj).trans ?_)⟩
      rw [if_pos (decide_eq_true z)]
      exact ev_callo (f := 20) (i := 0) (as := .cons (.v 2) .nil) (xs := bs1) (e1 := [.ow (.l bs1), .va (.int j), .va (.int s), x3, x4]) (ds := [.int s]) rfl rfl rfl m3
    · obtain ⟨L, bs2, m1, m2, m3⟩ := H.h19 s 4 (by decide) a1 (by omega) a3 (by omega)
      refine ⟨L, bs2, m1.mono (by omega), m2, ex_asg (i := 3) (a := .ite (.cmp .lt (.v 1) (.ci 2)) (.callo 20 0 (.cons (.v 2) .nil)) (.callo 19 0 (.cons (.v 2) (.cons (.ci 4) .nil)))) (d := lotD s L) (e1 := [.ow (.l bs2), .va (.int j), .va (.int s), x3, x4]) ((ev_ite cj).trans ?_)⟩
      rw [if_neg (fun w => z (of_decide_eq_true w))]
      exact ev_callo (f := 19) (i := 0) (as := .cons (.v 2) (.cons (.ci 4) .nil)) (xs := bs1) (e1 := [.ow (.l bs1), .va (.int j), .va (.int s), x3, x4]) (ds := [.int s, .int 4]) rfl rfl rfl m3
  obtain ⟨L, bs2, b1, b2, st1⟩ := st1
  obtain ⟨k, bs3, d1, d2, d3, d4⟩ := H.one b1 (by omega) (w := 5) (by decide) (by decide) (x1 := .va (.int j)) (x2 := .va (.int s)) (x3 := .va (lotD s L)) (x4 := x4)
  obtain ⟨L', bs4, m1, m2, m3⟩ := H.h25 k b2 (by omega) d3 (by omega)
  have st2 : ex cf (nthS BT 2) [.ow (.l bs2), .va (.int j), .va (.int s), .va (lotD s L), x4] = .nx [.ow (.l bs4), .va (.int j), .va (.int s), .va (lotD s L), .va (lotD s L')] := ex_asg (i := 4) (ev_callo (f := 25) (i := 0) (as := .cons (.v 3) (.cons (.bin .add (.ci 1) (.callo 13 0 (.cons (.ci 5) .nil))) .nil)) (e := [.ow (.l bs2), .va (.int j), .va (.int s), .va (lotD s L), x4]) (xs := bs3) (e1 := [.ow (.l bs3), .va (.int j), .va (.int s), .va (lotD s L), x4]) (ds := [lotD s L, .int k]) rfl (evs_cons (a := .v 3) (x := lotD s L) rfl (evs_cons d4 evs_nil)) rfl m3)
  obtain ⟨u, bs5, u1, u2, u3, u4⟩ := H.h13 m1 (by omega) (w := 5) (by decide) (by decide)
  have c3 := ev_cmp (cf := cf) (op := .eq) (ev_callo (cf := cf) (f := 13) (i := 0) (as := .cons (.ci 5) .nil) (xs := bs4) (e := [.ow (.l bs4), .va (.int j), .va (.int s), .va (lotD s L), .va (lotD s L')]) (e1 := [.ow (.l bs4), .va (.int j), .va (.int s), .va (lotD s L), .va (lotD s L')]) rfl rfl rfl u4) (b := .ci 0) (y := .int 0) rfl c_eq
  have st3 : ∃ (s' : Nat) (M : Ps) (bs6 : List D), Box bs6 (c + 2000) ∧ Lt s' M ∧ ex cf (nthS BT 3) [.ow (.l bs4), .va (.int j), .va (.int s), .va (lotD s L), .va (lotD s L')] = .nx [.ow (.l bs6), .va (.int j), .va (.int s), .va (lotD s L), .va (lotD s' M)] := by
    by_cases z : u = 0
    · obtain ⟨s', bs6, e1, e2, e3, e4⟩ := H.one u3 (by omega) (w := 7) (by decide) (by decide) (x1 := .va (.int j)) (x2 := .va (.int s)) (x3 := .va (lotD s L)) (x4 := .va (lotD s L'))
      obtain ⟨M, bs7, n1, n2, n3⟩ := H.h19 s' 3 (by decide) e1 (by omega) e3 (by omega)
      refine ⟨s', M, bs7, n1.mono (by omega), n2, (ex_ite c3).trans ?_⟩
      rw [if_pos (decide_eq_true z)]
      refine (ex_nx (ex_asg (i := 4) (ev_callo (cf := cf) (f := 19) (i := 0) (as := .cons (.bin .add (.ci 1) (.callo 13 0 (.cons (.ci 7) .nil))) (.cons (.ci 3) .nil)) (e := [.ow (.l bs5), .va (.int j), .va (.int s), .va (lotD s L), .va (lotD s L')]) (xs := bs6) (e1 := [.ow (.l bs6), .va (.int j), .va (.int s), .va (lotD s L), .va (lotD s L')]) (ds := [.int s', .int 3]) rfl (evs_cons e4 (evs_cons (a := .ci 3) rfl evs_nil)) rfl n3))).trans rfl
    · exact ⟨s, L', bs5, u3.mono (by omega), m2, (ex_ite c3).trans (by rw [if_neg (fun w => z (of_decide_eq_true w))]; rfl)⟩
  obtain ⟨s', M, bs6, f1, f2, st3⟩ := st3
  have st4 : ex cf (nthS BT 4) [.ow (.l bs6), .va (.int j), .va (.int s), .va (lotD s L), .va (lotD s' M)] = .nx [.ow (.l bs6), .va (.int j), .va (.int s), .va (lotD s L), .va (lotD s' M)] := ex_ifn (ev_call (f := 28) (as := .cons (.v 3) (.cons (.v 4) .nil)) (ds := [lotD s L, lotD s' M]) rfl (H.h28 b2 f2))
  have st5 : ex cf (nthS BT 5) [.ow (.l bs6), .va (.int j), .va (.int s), .va (lotD s L), .va (lotD s' M)] = .nx [.ow (.l bs6), .va (.int j), .va (.int s), .va (lotD s L), .va (lotD s' M)] := ex_ifn (ev_call (f := 28) (as := .cons (.v 4) (.cons (.v 3) .nil)) (ds := [lotD s' M, lotD s L]) rfl (H.h28 f2 b2))
  exact ⟨bs6, _, _, _, f1, (ex_nx st0).trans ((ex_nx st1).trans ((ex_nx st2).trans ((ex_nx st3).trans ((ex_nx st4).trans ((ex_nx st5).trans rfl)))))⟩
theorem cf_ok (n : Nat) : Cf (callF defs (n + 12)) where
  h13 := fun hb hc h1 h2 => take_spec (i := 13) rfl (n + 11) hb (by omega) h1 (Int.lt_trans h2 (by decide))
  h19 := fun s top ht h1 h2 hb hc => by
    obtain ⟨L, bs', q1, q2, q3, q4⟩ := lot_spec (i := 19) (it := 13) (is := 18) (defs := defs) rfl rfl rfl (n + 10) s h1 h2 (top := top) ⟨ht.1, Int.lt_trans ht.2 (by decide)⟩ hb (by omega)
    exact ⟨L, bs', q1, ⟨h1, h2, ⟨q2, q3⟩⟩, q4⟩
  h20 := fun s h1 h2 hb hc => by
    obtain ⟨L, bs', q1, q2, q3, q4⟩ := great_spec (i := 20) (it := 13) (io := 15) (is := 18) (defs := defs) rfl rfl rfl rfl (n + 9) s h1 h2 hb (by omega)
    exact ⟨L, bs', q1, ⟨h1, h2, ⟨q2, q3⟩⟩, q4⟩
  h25 := fun {bs c s L} k hr hk hb hc => by
    obtain ⟨f, bs', q1, q2⟩ := moved_spec (i := 25) (it := 13) (io := 15) (is := 18) (itb := 21) (imd := 22) (defs := defs) rfl rfl rfl rfl rfl rfl (n + 9) s hr.h1 hr.h2 hr.len hr.n.mem k hk hb hc
    exact ⟨canonL s f, bs', q1, ⟨hr.h1, hr.h2, nrm_canon s f⟩, q2⟩
  h28 := fun h h' => case_s n h.h1 h.h2 h'.h1 h'.h2 (by have := h.len; omega) (by have := h'.len; omega) h.n h'.n
theorem right_s (n : Nat) {bs : List D} (hb : Box bs 0) : ∃ o, callF defs (n + 13) 30 (some bs) [] = .ok (.bl true) o := by
  have hv : evI (callF defs (n + 12)) (.range1 (.ci 10)) [.ow (.l bs), .em, .em, .em, .em] = .ok (rangeD 0 10) [.ow (.l bs), .em, .em, .em, .em] := range1_of (i := 10) rfl (by omega)
  have H := cf_ok n
  have c : ∀ r, ex (callF defs (n + 12)) b30 [.ow (.l bs), .em, .em, .em, .em] = r → callF defs (n + 13) 30 (some bs) [] = fin true false r := fun r hr => by
    rw [call_d (d := d30) rfl ⟨rfl, rfl, by decide, rfl⟩, ← hr]
    rfl
  generalize callF defs (n + 12) = cf at hv H c
  have lp : ∀ (N : Nat) (lo : Int) (bs : List D) (c : Int) (x1 x2 x3 x4 : Sl), Box bs c → c + 2000 * N < 200000 → ∃ (bs' : List D) (y1 y2 y3 y4 : Sl), loopS (fun e => ex cf BT e) (.nm 1) (rangeD lo N) [.ow (.l bs), x1, x2, x3, x4] = .nx [.ow (.l bs'), y1, y2, y3, y4] := by
    intro N
    induction N with
    | zero => exact fun lo bs c x1 x2 x3 x4 _ _ => ⟨bs, x1, x2, x3, x4, rfl⟩
    | succ N ih =>
      intro lo bs c x1 x2 x3 x4 hb hc
      obtain ⟨bs1, y2, y3, y4, k1, k2⟩ := turn5 H hb (by omega) (j := lo) (x2 := x2) (x3 := x3) (x4 := x4)
      obtain ⟨bs', z1, z2, z3, z4, q⟩ := ih (lo + 1) bs1 (c + 2000) (.va (.int lo)) y2 y3 y4 k1 (by omega)
      refine ⟨bs', z1, z2, z3, z4, ?_⟩
      show loopS _ _ (.int lo :: rangeD (lo + 1) N) _ = _
      rw [loop_nx (e1 := [.ow (.l bs), .va (.int lo), x2, x3, x4]) rfl k2]
      exact q
  obtain ⟨bs', y1, y2, y3, y4, q1⟩ := lp 10 0 bs 0 .em .em .em .em hb (by omega)
  have go : ex cf b30 [.ow (.l bs), .em, .em, .em, .em] = .rt (.bl true) _ := (ex_nx ((ex_for hv).trans q1)).trans (ex_rt (ss := .nil) (ex_ret (a := .cb true) rfl))
  exact ⟨bs', by rw [c _ go]; rfl⟩
theorem by_hand : callF defs 39 29 none [] = .ok (.bl true) [] := isTrue_eq (by decide +kernel)
theorem law_true (ns : List Int) (h : ns.length ≤ 63) : ∃ o, callF defs 40 31 none [.scr (ns.map D.int)] = .ok (.bl true) o := by
  obtain ⟨cs, c1, c2, c3⟩ := cells_spec (i := 14) (defs := defs) rfl 38 3 (by decide) ns h
  have q := law_all (ih := 29) (ic := 14) (ir := 30) (ib := 12) (w := 3) (callF defs 39) ns by_hand cs c1 (by omega) fun k hk => by
    obtain ⟨bs, b1, b2⟩ := box_spec (i := 12) (c0 := 6865) (defs := defs) rfl (by decide) 38 hk (by omega)
    exact ⟨bs, b1, right_s 26 b2⟩
  have c : ∀ r, ex (callF defs 39) b31 [.va (.scr (ns.map D.int)), .em, .em] = r → callF defs 40 31 none [.scr (ns.map D.int)] = fin false false r := fun r hr => by
    rw [call_d (d := d31) rfl ⟨rfl, rfl, by decide, rfl⟩, ← hr]
    rfl
  exact ⟨[], by rw [c _ q]; rfl⟩
end K05
end
open PySem PySem.W PyProof.Rows in
set_option maxRecDepth 100000 in
set_option maxHeartbeats 0 in
theorem PySem.Challenge.cw_anyhands_k05_never_more_by_stretches_holds : PySem.Challenge.rw_anyhands_k05_never_more_by_stretches.Holds := by
  w_on; o_law; k_head; (case hw => w_witness2)
  k_fill
  refine K05.walk K05.law_true (l := PySem.Challenge.rw_anyhands_k05_never_more_by_stretches) rfl rfl (fun w h Y => PySem.W.kIn_of Y) ?F
  case F =>
    intro w mg fa h KX G hmg
    refine' K05.all_mk K05.law_true KX G hmg ?a0 ?l0 ?c0 ?k0 ?a1 ?l1 ?c1 ?k1 ?a2 ?l2 ?c2 ?k2 ?a3 ?l3 ?c3 ?k3 ?a4 ?l4 ?c4 ?k4 ?a5 ?l5 ?c5 ?k5 ?a6 ?l6 ?c6 ?k6 ?a7 ?l7 ?c7 ?k7 ?a8 ?l8 ?c8 ?k8 ?a9 ?l9 ?c9 ?k9 ?a10 ?l10 ?c10 ?k10 ?a11 ?l11 ?c11 ?k11 ?a12 ?l12 ?c12 ?k12 ?a13 ?l13 ?c13 ?k13 ?a14 ?l14 ?c14 ?k14 ?a15 ?l15 ?c15 ?k15 ?a16 ?l16 ?c16 ?k16 ?a17 ?l17 ?c17 ?k17 ?a18 ?l18 ?c18 ?k18 ?a19 ?l19 ?c19 ?k19 ?a20 ?l20 ?c20 ?k20 ?a21 ?l21 ?c21 ?k21 ?a22 ?l22 ?c22 ?k22 ?a23 ?l23 ?c23 ?k23 ?a24 ?l24 ?c24 ?k24 ?a25 ?l25 ?c25 ?k25 ?a26 ?l26 ?c26 ?k26 ?a27 ?l27 ?c27 ?k27 ?a28 ?l28 ?c28 ?k28 ?a29 ?l29 ?c29 ?k29 ?a30 ?l30 ?c30 ?k30 ?a31 ?l31 ?c31 ?k31 ?ga0 ?gx0 ?kC0 ?xC0 ?tC0 ?dC0 ?gaa0 ?gga0 ?gca0 ?gmo0 ?ga1 ?gl1 ?gs1 ?gi1 ?gt1 ?gf1 ?gc1 ?gk1 ?gn1_0 ?gn1_1 ?kC1 ?xC1 ?tC1 ?dC1 ?gaa1 ?gga1 ?gca1 ?gmo1 ?sb0_0 ?sb0_1 ?sb1_0 ?sb1_1 ?hcg ?hct ?ki0_0 ?ki0_1 ?z0 ?z1 ?z2 ?z3 ?z4 ?z5 ?z6 ?z7 ?z8 ?z9 ?z10 ?z11 ?z12 ?z13 ?z14 ?z15 ?z16 ?z17 ?z18 ?z19 ?y0
    (case a0 => k_is)
    (case l0 => k_is)
    (case c0 => k_is)
    (case k0 => k_is)
    (case a1 => k_is)
    (case l1 => k_is)
    (case c1 => k_is)
    (case k1 => k_is)
    (case a2 => k_is)
    (case l2 => k_is)
    (case c2 => k_is)
    (case k2 => k_is)
    (case a3 => k_is)
    (case l3 => k_is)
    (case c3 => k_is)
    (case k3 => k_is)
    (case a4 => k_is)
    (case l4 => k_is)
    (case c4 => k_is)
    (case k4 => k_is)
    (case a5 => k_is)
    (case l5 => k_is)
    (case c5 => k_is)
    (case k5 => k_is)
    (case a6 => k_is)
    (case l6 => k_is)
    (case c6 => k_is)
    (case k6 => k_is)
    (case a7 => k_is)
    (case l7 => k_is)
    (case c7 => k_is)
    (case k7 => k_is)
    (case a8 => k_is)
    (case l8 => k_is)
    (case c8 => k_is)
    (case k8 => k_is)
    (case a9 => k_is)
    (case l9 => k_is)
    (case c9 => k_is)
    (case k9 => k_is)
    (case a10 => k_is)
    (case l10 => k_is)
    (case c10 => k_is)
    (case k10 => k_is)
    (case a11 => k_is)
    (case l11 => k_is)
    (case c11 => k_is)
    (case k11 => k_is)
    (case a12 => k_is)
    (case l12 => k_is)
    (case c12 => k_is)
    (case k12 => k_is)
    (case a13 => k_is)
    (case l13 => k_is)
    (case c13 => k_is)
    (case k13 => k_is)
    (case a14 => k_is)
    (case l14 => k_is)
    (case c14 => k_is)
    (case k14 => k_is)
    (case a15 => k_is)
    (case l15 => k_is)
    (case c15 => k_is)
    (case k15 => k_is)
    (case a16 => k_is)
    (case l16 => k_is)
    (case c16 => k_is)
    (case k16 => k_is)
    (case a17 => k_is)
    (case l17 => k_is)
    (case c17 => k_is)
    (case k17 => k_is)
    (case a18 => k_is)
    (case l18 => k_is)
    (case c18 => k_is)
    (case k18 => k_is)
    (case a19 => k_is)
    (case l19 => k_is)
    (case c19 => k_is)
    (case k19 => k_is)
    (case a20 => k_is)
    (case l20 => k_is)
    (case c20 => k_is)
    (case k20 => k_is)
    (case a21 => k_is)
    (case l21 => k_is)
    (case c21 => k_is)
    (case k21 => k_is)
    (case a22 => k_is)
    (case l22 => k_is)
    (case c22 => k_is)
    (case k22 => k_is)
    (case a23 => k_is)
    (case l23 => k_is)
    (case c23 => k_is)
    (case k23 => k_is)
    (case a24 => k_is)
    (case l24 => k_is)
    (case c24 => k_is)
    (case k24 => k_is)
    (case a25 => k_is)
    (case l25 => k_is)
    (case c25 => k_is)
    (case k25 => k_is)
    (case a26 => k_is)
    (case l26 => k_is)
    (case c26 => k_is)
    (case k26 => k_is)
    (case a27 => k_is)
    (case l27 => k_is)
    (case c27 => k_is)
    (case k27 => k_is)
    (case a28 => k_is)
    (case l28 => k_is)
    (case c28 => k_is)
    (case k28 => k_is)
    (case a29 => k_is)
    (case l29 => k_is)
    (case c29 => k_is)
    (case k29 => k_is)
    (case a30 => k_is)
    (case l30 => k_is)
    (case c30 => k_is)
    (case k30 => k_is)
    (case a31 => k_is)
    (case l31 => k_is)
    (case c31 => k_is)
    (case k31 => k_is)
    (case ga0 => k_is)
    (case gx0 => k_exc)
    (case kC0 => k_is)
    (case xC0 => k_is)
    (case tC0 => k_is)
    (case dC0 => k_is)
    (case gaa0 => k_is)
    (case gga0 => k_is)
    (case gca0 => k_is)
    (case gmo0 => k_is)
    (case ga1 => k_is)
    (case gl1 => k_is)
    (case gs1 => k_is)
    (case gi1 => k_is)
    (case gt1 => k_is)
    (case gf1 => k_is)
    (case gc1 => k_is)
    (case gk1 => k_is)
    (case gn1_0 => k_is)
    (case gn1_1 => k_is)
    (case kC1 => k_is)
    (case xC1 => k_is)
    (case tC1 => k_is)
    (case dC1 => k_is)
    (case gaa1 => k_is)
    (case gga1 => k_is)
    (case gca1 => k_is)
    (case gmo1 => k_is)
    (case sb0_0 => first | rfl | k_is)
    (case sb0_1 => first | rfl | k_is)
    (case sb1_0 => first | rfl | k_is)
    (case sb1_1 => first | rfl | k_is)
    (case hcg => k_is)
    (case hct => k_is)
    (case ki0_0 => first | rfl | k_is | kit_is)
    (case ki0_1 => first | rfl | k_is | kit_is)
    (case z0 => k_is)
    (case z1 => k_is)
    (case z2 => k_is)
    (case z3 => k_is)
    (case z4 => k_is)
    (case z5 => k_is)
    (case z6 => k_is)
    (case z7 => k_is)
    (case z8 => k_is)
    (case z9 => k_is)
    (case z10 => k_is)
    (case z11 => k_is)
    (case z12 => k_is)
    (case z13 => k_is)
    (case z14 => k_is)
    (case z15 => k_is)
    (case z16 => k_is)
    (case z17 => k_is)
    (case z18 => k_is)
    (case z19 => k_is)
    (case y0 => k_is)
