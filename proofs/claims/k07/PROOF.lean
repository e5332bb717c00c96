import PyProof.Rows.All
import Wide.All
import OpenK.AllK
import Wide.FinOn
import HandS.ForMost
import HandS.ForExc
import HandS.IsInst
import HandS.Deep
import HandS.Flow
import HandS.Dict
import HandS.TupLe
import PyProof.EqKinds
import PyProof.FactsAll.dict_1
import PyProof.FactsAll.subtypes_3
import PyProof.FactsAll.subtypes_4
import HandS.SortRule
import HandS.SortInts
import KE.KSortTupAny
import KE.SortData
import HandS.Text
import PyProof.StrLawsChain
import PyProof.Rows.StrNews2
import HandS.Style
import HandS.WordsExc
import HandS.Ends
import HandS.More
import HandS.FStr
import HandS.Conv
import PyProof.Rows.SetFrom
import HandS.Exc
import HandS.ExcSuper
import HandS.ExcIs
import HandS.Replace
import KE.KExcIs
import HandS.ReplaceList
import PyProof.FitsInt
import PyProof.Fits
import PyProof.StrLawsRepr
import PyProof.ReprLoop
import PySem.Challenge.RW_snapsure_k07_no_texts
set_option Elab.async false
set_option linter.all false
set_option maxRecDepth 100000
set_option maxHeartbeats 2000000
/-! A small language of its own (E, S1), its evaluator over trees (T) and a store of cells. -/
namespace Kp
open PySem

abbrev Cs := List Char
/-- signs as the model's text -/
def stC (cs : Cs) : Str := ⟨(cs.map Char.toNat).toArray⟩

/-- data that never changes -/
inductive T where
  | non | bl (b : Bool) | int (i : Int) | str (s : Cs)
  | tup (xs : List T) | lst (xs : List T) | dct (ks : List Cs) (xs : List T) | scr (ns : List Int)
  deriving Inhabited
/-- a value: a tree, a cell of the store, a tuple with cells in it, a caught error -/
inductive D where
  | t (x : T) | ref (n : Nat) | tp (xs : List D) | exc (c : String) (fs : List (String × T))
  deriving Inhabited
inductive Cell where
  | lst (xs : List T) | lsr (xs : List D) | dcr (ks : List Cs) (xs : List D) | ins (c : String) (fs : List (String × D)) | gone
  deriving Inhabited
abbrev Sto := List Cell
inductive R (α : Type) where
  | ok (a : α) (S : Sto) | exc (c : String) (fs : List (String × T)) (S : Sto) | stuck
def R.bind {α β : Type} (r : R α) (f : α → Sto → R β) : R β := match r with
  | .ok a S => f a S
  | .exc c fs S => .exc c fs S
  | .stuck => .stuck
@[simp] theorem R.bind_ok {α β : Type} (a : α) (S : Sto) (f : α → Sto → R β) : (R.ok a S).bind f = f a S := rfl
@[simp] theorem R.bind_exc {α β : Type} (c : String) (fs) (S : Sto) (f : α → Sto → R β) : (R.exc c fs S).bind f = .exc c fs S := rfl
@[simp] theorem R.bind_stuck {α β : Type} (f : α → Sto → R β) : (R.stuck).bind f = .stuck := rfl
/-- an answer that may be missing -/
def opt {α : Type} (o : Option α) (S : Sto) : R α := match o with
  | some a => .ok a S
  | none => .stuck
@[simp] theorem opt_some {α : Type} (a : α) (S : Sto) : opt (some a) S = .ok a S := rfl
@[simp] theorem opt_none {α : Type} (S : Sto) : opt (none : Option α) S = .stuck := rfl

/-! ### data -/
def b2 (b : Bool) : Int := if b then 1 else 0
mutual
def eqT : T → T → Bool
  | .non, .non => true
  | .bl a, .bl b => a == b
  | .bl a, .int j => b2 a == j
  | .int i, .bl b => i == b2 b
  | .int i, .int j => i == j
  | .str a, .str b => a == b
  | .tup xs, .tup ys => eqTs xs ys
  | .lst xs, .lst ys => eqTs xs ys
  | _, _ => false
def eqTs : List T → List T → Bool
  | [], [] => true
  | x :: xs, y :: ys => eqT x y && eqTs xs ys
  | _, _ => false
end
/-- data of None, bools, ints, texts, lists, tuples, not deep -/
def plainN : Nat → T → Bool
  | _, .non => true
  | _, .bl _ => true
  | _, .int _ => true
  | _, .str _ => true
  | 0, _ => false
  | n + 1, .tup xs => xs.all (plainN n)
  | n + 1, .lst xs => xs.all (plainN n)
  | _ + 1, _ => false
def plain (x : T) : Bool := plainN 8 x
/-- data without any place in the heap -/
def flatT : T → Bool
  | .non => true
  | .bl _ => true
  | .int _ => true
  | .str _ => true
  | _ => false
/-- all trees -/
def allT : List D → Option (List T)
  | [] => some []
  | .t x :: r => match allT r with
    | some xs => some (x :: xs)
    | none => none
  | _ :: _ => none
@[simp] theorem allT_nil : allT [] = some [] := rfl
@[simp] theorem allT_cons (x : T) (r : List D) : allT (.t x :: r) = match allT r with | some xs => some (x :: xs) | none => none := rfl
@[simp] theorem allT_map (xs : List T) : allT (xs.map .t) = some xs := by
  induction xs with
  | nil => rfl
  | cons x r ih => simp [ih]
theorem allT_some {ds : List D} {xs : List T} (h : allT ds = some xs) : ds = xs.map .t := by
  induction ds generalizing xs with
  | nil => simp [allT] at h; subst h; rfl
  | cons d r ih =>
    cases d with
    | t x =>
      rw [allT_cons] at h
      cases e : allT r with
      | none => rw [e] at h; cases h
      | some ys =>
        rw [e] at h
        cases h
        rw [ih e]; rfl
    | ref n => cases h
    | tp xs => cases h
    | exc c fs => cases h
/-- all there -/
def allO {α : Type} : List (Option α) → Option (List α)
  | [] => some []
  | some x :: r => match allO r with
    | some xs => some (x :: xs)
    | none => none
  | none :: _ => none
/-- a value read as a tree, its cells from m on; k: how deep at most -/
def toTf : Nat → Nat → Sto → D → Option T
  | 0, _, _, d => match d with
    | .t x => some x
    | _ => none
  | k + 1, m, S, d => match d with
    | .t x => some x
    | .ref n => if m ≤ n then match S[n]? with
        | some (.lst xs) => some (.lst xs)
        | some (.lsr ds) => match allO (ds.map (toTf k m S)) with
          | some xs => some (.lst xs)
          | none => none
        | _ => none
      else none
    | .tp ds => match allO (ds.map (toTf k m S)) with
      | some xs => some (.tup xs)
      | none => none
    | .exc _ _ => none
def toT (m : Nat) (S : Sto) (d : D) : Option T := toTf 8 m S d
def toTs (m : Nat) (S : Sto) (ds : List D) : Option (List T) := allO (ds.map (toT m S))
@[simp] theorem allO_nil {α : Type} : allO ([] : List (Option α)) = some [] := rfl
@[simp] theorem allO_cons {α : Type} (x : α) (r : List (Option α)) : allO (some x :: r) = match allO r with | some xs => some (x :: xs) | none => none := rfl
@[simp] theorem allO_none {α : Type} (r : List (Option α)) : allO (none :: r) = none := rfl
theorem allO_some {α : Type} : ∀ (xs : List α), allO (xs.map some) = some xs
  | [] => rfl
  | x :: r => by simp [allO_some r]
@[simp] theorem toTf_t (k m : Nat) (S : Sto) (x : T) : toTf k m S (.t x) = some x := by cases k <;> rfl
@[simp] theorem toT_t (m : Nat) (S : Sto) (x : T) : toT m S (.t x) = some x := rfl
theorem toT_ref {m n : Nat} {S : Sto} {xs : List T} (h : m ≤ n) (e : S[n]? = some (.lst xs)) : toT m S (.ref n) = some (.lst xs) := by
  unfold toT toTf
  simp only [h, e, if_true]
theorem toTf_lst {k m n : Nat} {S : Sto} {xs : List T} (h : m ≤ n) (e : S[n]? = some (.lst xs)) : toTf (k + 1) m S (.ref n) = some (.lst xs) := by
  unfold toTf
  simp only [h, e, if_true]
theorem toTf_lsr {k m n : Nat} {S : Sto} {ds : List D} {xs : List T} (h : m ≤ n) (e : S[n]? = some (.lsr ds)) (q : allO (ds.map (toTf k m S)) = some xs) : toTf (k + 1) m S (.ref n) = some (.lst xs) := by
  unfold toTf
  simp only [h, e, if_true, q]
theorem toTf_tp {k m : Nat} {S : Sto} {ds : List D} {xs : List T} (q : allO (ds.map (toTf k m S)) = some xs) : toTf (k + 1) m S (.tp ds) = some (.tup xs) := by
  unfold toTf
  simp only [q]
theorem allO_trees {f : D → Option T} (hf : ∀ x, f (.t x) = some x) (xs : List T) : allO ((xs.map .t).map f) = some xs := by
  rw [List.map_map, show (f ∘ D.t) = some from funext hf, allO_some]
theorem toTs_trees (m : Nat) (S : Sto) (xs : List T) : toTs m S (xs.map .t) = some xs := allO_trees (toT_t m S) xs
@[simp] theorem toTs_nil (m : Nat) (S : Sto) : toTs m S [] = some [] := rfl
@[simp] theorem toTs_cons (m : Nat) (S : Sto) (d : D) (r : List D) : toTs m S (d :: r) = match toT m S d with
    | some x => match toTs m S r with
      | some xs => some (x :: xs)
      | none => none
    | none => none := by
  simp only [toTs, List.map_cons]
  cases toT m S d with
  | none => simp
  | some x =>
    simp only [allO_cons]
    cases allO (List.map (toT m S) r) <;> rfl
theorem allO_nil_inv {α β : Type} {f : α → Option β} {xs : List β} (h : allO (([] : List α).map f) = some xs) : xs = [] := by
  cases h
  rfl
theorem allO_cons_inv {α β : Type} {f : α → Option β} {d : α} {ds : List α} {xs : List β} (h : allO ((d :: ds).map f) = some xs) : ∃ y ys, f d = some y ∧ allO (ds.map f) = some ys ∧ xs = y :: ys := by
  rw [List.map_cons] at h
  cases e : f d with
  | none => rw [e] at h; cases h
  | some y =>
    rw [e, allO_cons] at h
    cases e2 : allO (ds.map f) with
    | none => rw [e2] at h; cases h
    | some ys =>
      rw [e2] at h
      cases h
      exact ⟨y, ys, rfl, rfl, rfl⟩
theorem toTf_inv {k m : Nat} {S : Sto} {d : D} {x : T} (h : toTf k m S d = some x) : d = .t x ∨ (∃ n xs, d = .ref n ∧ m ≤ n ∧ S[n]? = some (.lst xs) ∧ x = .lst xs) ∨
    (∃ n ds xs k', d = .ref n ∧ m ≤ n ∧ k = k' + 1 ∧ S[n]? = some (.lsr ds) ∧ allO (ds.map (toTf k' m S)) = some xs ∧ x = .lst xs) ∨ ∃ ds xs k', d = .tp ds ∧ k = k' + 1 ∧ allO (ds.map (toTf k' m S)) = some xs ∧ x = .tup xs := by
  cases d with
  | t y =>
    rw [toTf_t] at h
    cases h
    exact .inl rfl
  | ref n =>
    cases k with
    | zero => cases h
    | succ k =>
      simp only [toTf] at h
      split at h
      · rename_i hm
        split at h
        · rename_i xs e
          cases h
          exact .inr (.inl ⟨n, xs, rfl, hm, e, rfl⟩)
        · rename_i ds e
          split at h
          · rename_i xs e2
            cases h
            exact .inr (.inr (.inl ⟨n, ds, xs, k, rfl, hm, rfl, e, e2, rfl⟩))
          · cases h
        · cases h
      · cases h
  | tp ds =>
    cases k with
    | zero => cases h
    | succ k =>
      simp only [toTf] at h
      split at h
      · rename_i xs e2
        cases h
        exact .inr (.inr (.inr ⟨ds, xs, k, rfl, rfl, e2, rfl⟩))
      · cases h
  | exc c fs => cases k <;> cases h
/-- the items of a list, of a tuple -/
def lstOf (S : Sto) : D → Option (List D)
  | .t (.lst xs) => some (xs.map .t)
  | .ref n => match S[n]? with
    | some (.lst xs) => some (xs.map .t)
    | some (.lsr ds) => some ds
    | _ => none
  | _ => none
def tupOf : D → Option (List D)
  | .t (.tup xs) => some (xs.map .t)
  | .tp ds => some ds
  | _ => none
/-- a made list, a made tuple -/
def mkLst (ds : List D) : Option D := match allT ds with
  | some xs => some (.t (.lst xs))
  | none => none
def mkTup (ds : List D) : D := match allT ds with
  | some xs => .t (.tup xs)
  | none => .tp ds
def lim : Nat := 100000
/-- an index of any sign; a slice -/
abbrev ixN := L2.ixN
abbrev atI {α : Type} (xs : List α) (i : Int) : Option α := L2.atI xs i
def cut {α : Type} (xs : List α) (lo hi : Option Int) : List α := (xs.drop (_root_.HT.sIx xs.length 0 lo)).take (_root_.HT.sIx xs.length xs.length hi - _root_.HT.sIx xs.length 0 lo)
def asInt : D → Option Int
  | .t (.int i) => some i
  | _ => none
def asStr : D → Option Cs
  | .t (.str s) => some s
  | _ => none
def asScr : D → Option (List Int)
  | .t (.scr ns) => some ns
  | _ => none
def asBl : D → Option Bool
  | .t (.bl b) => some b
  | _ => none
/-- a list of trees -/
def asL (S : Sto) : D → Option (List T)
  | .t (.lst xs) => some xs
  | .ref n => match S[n]? with
    | some (.lst xs) => some xs
    | _ => none
  | _ => none
inductive Knd | non | bl | int | str | tup | lst | dct
  deriving DecidableEq
def kndT : T → Knd
  | .non => .non
  | .bl _ => .bl
  | .int _ => .int
  | .str _ => .str
  | .tup _ => .tup
  | .lst _ => .lst
  | .dct _ _ => .dct
  | .scr _ => .lst
def kndOf (S : Sto) : D → Option Knd
  | .t x => some (kndT x)
  | .tp _ => some .tup
  | .ref n => match S[n]? with
    | some (.lst _) => some .lst
    | some (.lsr _) => some .lst
    | _ => none
  | .exc _ _ => none
def isNon : D → Bool
  | .t .non => true
  | _ => false
/-- truth -/
def truth (S : Sto) (d : D) : Option Bool := match asBl d with
  | some b => some b
  | none => match asInt d with
    | some i => some (i != 0)
    | none => match asStr d with
      | some s => if s.length ≤ lim then some (s.length != 0) else none
      | none => if isNon d then some false else match lstOf S d with
        | some ds => some (!ds.isEmpty)
        | none => match tupOf d with
          | some ds => some (!ds.isEmpty)
          | none => none

/-! ### operations -/
inductive BinO | add | sub | mul | fdiv | mod | pow
inductive CmpO | eq | ne | lt | le | gt | ge | isN | notN | inn | nin | isB | notB
def bound64 (i : Int) : Bool := decide (-(2 ^ 64) < i ∧ i < 2 ^ 64)
def intOp (a b : D) (S : Sto) (f : Int → Int → Option Int) : R D := match asInt a, asInt b with
  | some i, some j => match f i j with
    | some r => .ok (.t (.int r)) S
    | none => .stuck
  | _, _ => .stuck
def binV (o : BinO) (a b : D) (S : Sto) : R D := match o with
  | .add => match asInt a, asInt b with
    | some i, some j => .ok (.t (.int (i + j))) S
    | _, _ => match asStr a, asStr b with
      | some x, some y => if x.length + y.length ≤ lim then .ok (.t (.str (x ++ y))) S else .stuck
      | _, _ => match asL S a, asL S b with
        | some xs, some ys => if xs.length + ys.length ≤ lim then .ok (.t (.lst (xs ++ ys))) S else .stuck
        | _, _ => .stuck
  | .sub => intOp a b S fun i j => some (i - j)
  | .mul => match asStr a, asInt b with
    | some s, some n => if 1 ≤ n ∧ n ≤ 1000 ∧ s.length ≤ 1000 then .ok (.t (.str (List.replicate n.toNat s).flatten)) S else .stuck
    | _, _ => intOp a b S fun i j => if bound64 i || bound64 j then some (i * j) else none
  | .fdiv => intOp a b S fun i j => if 0 < j ∧ j < 1073741824 then some (i / j) else none
  | .mod => intOp a b S fun i j => if 0 < j then some (i % j) else none
  | .pow => intOp a b S fun i j => if 0 ≤ j ∧ j ≤ 1000000 ∧ i.natAbs < 2 ^ 64 then some (i ^ j.toNat) else none
/-- x among the items -/
def inT (x : T) (ys : List T) : Bool := ys.any fun y => eqT y x
/-- the order of texts -/
def ltS : Cs → Cs → Bool
  | [], [] => false
  | [], _ :: _ => true
  | _ :: _, [] => false
  | a :: x, b :: y => if a.toNat = b.toNat then ltS x y else decide (a.toNat < b.toNat)
def leS (a b : Cs) : Bool := !ltS b a
def eqV (a b : D) (S : Sto) : Option Bool := match toT 0 S a, toT 0 S b with
  | some x, some y => if plain x && plain y then some (eqT x y) else none
  | _, _ => none
def ordV (a b : D) (f : Int → Int → Bool) (g : Cs → Cs → Option Bool) : Option Bool := match asInt a, asInt b with
  | some i, some j => some (f i j)
  | _, _ => match asStr a, asStr b with
    | some x, some y => g x y
    | _, _ => none
/-- a text -/
def isStrT : T → Bool
  | .str _ => true
  | _ => false
/-- a dict's keys -/
def dctKs : D → Option (List Cs)
  | .t (.dct ks _) => some ks
  | _ => none
def memV (a b : D) (S : Sto) : Option Bool := match dctKs b with
  | some ks => match asStr a with
    | some c => some (ks.any fun k => decide (k = c))
    | none => none
  | none => match dctKs a with
    | some _ => match asL S b with
      | some ys => if ys.all isStrT then some false else none
      | none => none
    | none => match toT 0 S a with
      | some x => match asL S b with
        | some ys => if plain x && plain (.lst ys) then some (inT x ys) else none
        | none => match toT 0 S b with
          | some (.tup ys) => if plainN 0 x && ys.all (plainN 0) then some (inT x ys) else none
          | _ => none
      | none => none
def notO : Option Bool → Option Bool
  | some b => some (!b)
  | none => none
def cmpV (o : CmpO) (a b : D) (S : Sto) : Option Bool := match o with
  | .eq => eqV a b S
  | .ne => notO (eqV a b S)
  | .lt => ordV a b (fun i j => decide (i < j)) fun x y => some (ltS x y)
  | .le => ordV a b (fun i j => decide (i ≤ j)) fun x y => some (leS x y)
  | .gt => ordV a b (fun i j => decide (j < i)) fun _ _ => none
  | .ge => ordV a b (fun i j => decide (j ≤ i)) fun _ _ => none
  | .isN => if isNon b then some (isNon a) else none
  | .notN => if isNon b then some (!isNon a) else none
  | .inn => memV a b S
  | .nin => notO (memV a b S)
  | .isB => match asBl a, asBl b with
    | some x, some y => some (decide (x = y))
    | _, _ => none
  | .notB => match asBl a, asBl b with
    | some x, some y => some (!decide (x = y))
    | _, _ => none
def idxV (a b : D) (S : Sto) : Option D := match asInt b with
  | none => none
  | some i => match asStr a with
    | some s => if s.length ≤ lim then match atI s i with
        | some c => some (.t (.str [c]))
        | none => none
      else none
    | none => match asScr a with
      | some ns => match atI ns i with
        | some n => some (.t (.int n))
        | none => none
      | none => match lstOf S a with
        | some ds => atI ds i
        | none => match tupOf a with
          | some ds => atI ds i
          | none => none
/-- entries of a dict by texts -/
def getD : List Cs → List T → Cs → Option T
  | k :: ks, x :: xs, c => if k = c then some x else getD ks xs c
  | _, _, _ => none
def putD (ks : List Cs) (xs : List T) (c : Cs) (y : T) : List Cs × List T := if ks.any (fun k => decide (k = c)) then (ks, List.zipWith (fun k x => if k = c then y else x) ks xs) else (ks ++ [c], xs ++ [y])
def pairsT : List T → Option (List (Cs × T))
  | [] => some []
  | .tup [.str k, v] :: r => match pairsT r with
    | some ps => some ((k, v) :: ps)
    | none => none
  | _ => none
def mergeD (ks : List Cs) (xs : List T) : List (Cs × T) → List Cs × List T
  | [] => (ks, xs)
  | p :: r => mergeD (putD ks xs p.1 p.2).1 (putD ks xs p.1 p.2).2 r
def dgtV (a b : D) : Option D := match a, asStr b with
  | .t (.dct ks xs), some c => match getD ks xs c with
    | some x => some (.t x)
    | none => none
  | _, _ => none
/-- a dict, by its look -/
def isDct : D → Bool
  | .t (.dct _ _) => true
  | _ => false
/-- an item of whatever -/
def itmV (a b : D) (S : Sto) : Option D := if isDct a then dgtV a b else idxV a b S
def slcV (a : D) (lo hi : Option Int) (S : Sto) : Option D := match asStr a with
  | some s => if s.length ≤ lim then some (.t (.str (cut s lo hi))) else none
  | none => match asL S a with
    | some xs => some (.t (.lst (cut xs lo hi)))
    | none => none
inductive Ty | str | int | bool | list | tuple | dict
/-- kinds and types -/
def isKnd : Knd → Ty → Bool
  | .str, .str => true
  | .int, .int => true
  | .bl, .int => true
  | .bl, .bool => true
  | .lst, .list => true
  | .tup, .tuple => true
  | .dct, .dict => true
  | _, _ => false
def isTy (S : Sto) (d : D) (t : Ty) : Option Bool := match kndOf S d with
  | some k => some (isKnd k t)
  | none => none
/-! what can be sorted: ints, texts, tuples of such, all of one form -/
mutual
def shEq : T → T → Bool
  | .int _, .int _ => true
  | .str _, .str _ => true
  | .tup xs, .tup ys => shEqs xs ys
  | _, _ => false
def shEqs : List T → List T → Bool
  | [], [] => true
  | x :: xs, y :: ys => shEq x y && shEqs xs ys
  | _, _ => false
end
mutual
def ltT : T → T → Bool
  | .int i, .int j => decide (i < j)
  | .str a, .str b => ltS a b
  | .tup xs, .tup ys => ltTs xs ys
  | _, _ => false
def ltTs : List T → List T → Bool
  | x :: xs, y :: ys => if eqT x y then ltTs xs ys else ltT x y
  | _, _ => false
end
def sortable : List T → Bool
  | [] => true
  | x :: r => (x :: r).all (fun y => shEq x y && plainN 8 y) && (match x with | .tup [] => false | _ => true) && decide (r.length < lim)
def sortT (xs : List T) : List T := xs.mergeSort fun x y => !ltT y x
inductive Bi | len | all | any | max2 | min2 | int1 | list | dict | repr | tuple | sorted
def blsOf : List D → Option (List Bool)
  | [] => some []
  | d :: r => match asBl d with
    | some b => match blsOf r with
      | some bs => some (b :: bs)
      | none => none
    | none => none
def seqOf (S : Sto) (d : D) : Option (List D) := match lstOf S d with
  | some ds => some ds
  | none => tupOf d
def lenV (S : Sto) (d : D) : Option Nat := match asStr d with
  | some s => if s.length ≤ lim then some s.length else none
  | none => match asScr d with
    | some ns => some ns.length
    | none => match seqOf S d with
      | some ds => some ds.length
      | none => none
def blsIn (S : Sto) (d : D) : Option (List Bool) := match lstOf S d with
  | some xs => blsOf xs
  | none => none
/-! the tree as the library's data -/
mutual
def toPy : T → PyData
  | .non => .none
  | .bl b => .bool b
  | .int i => .int i
  | .str s => .str (stC s)
  | .tup xs => .tuple (toPys xs)
  | .lst xs => .list (toPys xs)
  | .dct _ _ => .dict []
  | .scr _ => .dict []
def toPys : List T → List PyData
  | [] => []
  | x :: xs => toPy x :: toPys xs
end
/-- a text of the model as signs -/
def csOf (s : Str) : Option Cs :=
  let cs := s.cps.toList.map Char.ofNat
  if stC cs = s then some cs else none
/-- an empty dict -/
def isE : T → Bool
  | .dct [] [] => true
  | _ => false
/-- what is shown of a value -/
def reprV (S : Sto) (d : D) : Option Cs := match toT 0 S d with
  | some x => if plain x && (toPy x).showable && decide ((toPy x).shown.length ≤ lim) then csOf (toPy x).shown else if isE x then some ['{', '}'] else none
  | none => none
def tTrue : Cs := ['T', 'r', 'u', 'e']
def tFalse : Cs := ['F', 'a', 'l', 's', 'e']
def biV (b : Bi) (ds : List D) (S : Sto) : Option D := match b, ds with
  | .len, [d] => match lenV S d with
    | some n => some (.t (.int n))
    | none => none
  | .all, [d] => match blsIn S d with
    | some bs => some (.t (.bl (bs.all id)))
    | none => none
  | .any, [d] => match blsIn S d with
    | some bs => some (.t (.bl (bs.any id)))
    | none => none
  | .max2, [d, e] => match asInt d, asInt e with
    | some i, some j => some (.t (.int (if j > i then j else i)))
    | _, _ => none
  | .min2, [d, e] => match asInt d, asInt e with
    | some i, some j => some (.t (.int (if j < i then j else i)))
    | _, _ => none
  | .int1, [d] => match asInt d with
    | some i => some (.t (.int i))
    | none => match asBl d with
      | some b => some (.t (.int (b2 b)))
      | none => none
  | .list, [d] => match seqOf S d with
    | some xs => mkLst xs
    | none => none
  | .dict, [d] => match asL S d with
    | some xs => match pairsT xs with
      | some ps => some (.t (.dct (mergeD [] [] ps).1 (mergeD [] [] ps).2))
      | none => none
    | none => none
  | .tuple, [d] => match lstOf S d with
    | some xs => some (mkTup xs)
    | none => match tupOf d with
      | some _ => some d
      | none => none
  | .sorted, [d] => match asL S d with
    | some xs => if sortable xs then some (.t (.lst (sortT xs))) else none
    | none => none
  | .repr, [d] => match asBl d with
    | some b => some (.t (.str (if b then tTrue else tFalse)))
    | none => match reprV S d with
      | some s => some (.t (.str s))
      | none => none
  | _, _ => none
inductive Mt | append | insert | clear | pop | join | upper | extend | popAt | split | part | count | starts | ends
/-- whose method it is -/
def mtK : Mt → Knd
  | .append => .lst
  | .insert => .lst
  | .clear => .lst
  | .pop => .lst
  | .join => .str
  | .upper => .str
  | .extend => .lst
  | .popAt => .lst
  | .split => .str
  | .part => .str
  | .count => .str
  | .starts => .str
  | .ends => .str
def asRef : D → Option Nat
  | .ref n => some n
  | _ => none
def asTree : D → Option T
  | .t x => some x
  | _ => none
/-- a cell that is a list of trees -/
def cellL (S : Sto) (d : D) : Option (Nat × List T) := match asRef d with
  | some n => match S[n]? with
    | some (.lst xs) => some (n, xs)
    | _ => none
  | none => none
def strsT : List T → Option (List Cs)
  | [] => some []
  | .str s :: r => match strsT r with
    | some ss => some (s :: ss)
    | none => none
  | _ => none
/-- texts, not too many nor too long -/
def joinL (S : Sto) (d : D) : Option (List Cs) := match asL S d with
  | some xs => match strsT xs with
    | some ss => if ss.length ≤ lim ∧ ss.flatten.length ≤ lim then some ss else none
    | none => none
  | none => none
def joinC (s : Cs) : List Cs → Cs
  | [] => []
  | x :: r => x ++ r.flatMap fun p => s ++ p
def isLow (c : Char) : Bool := decide (97 ≤ c.toNat) && decide (c.toNat ≤ 122)
def upC (c : Char) : Char := Char.ofNat (c.toNat - 32)
/-- a cell that is a list of whatever -/
def cellR (S : Sto) (d : D) : Option (Nat × List D) := match asRef d with
  | some n => match S[n]? with
    | some (.lst xs) => some (n, xs.map .t)
    | some (.lsr ds) => some (n, ds)
    | _ => none
  | none => none
/-- by one sign -/
def splitC (c : Char) : Cs → List Cs
  | [] => [[]]
  | x :: r => if x = c then [] :: splitC c r else match splitC c r with
    | p :: ps => (x :: p) :: ps
    | [] => [[x]]
def partC (c : Char) : Cs → Option (Cs × Cs)
  | [] => none
  | x :: r => if x = c then some ([], r) else match partC c r with
    | some (p, q) => some (x :: p, q)
    | none => none
def oneSign : Cs → Option Char
  | [c] => if c.toNat < 128 then some c else none
  | _ => none
def mtV (m : Mt) (o : D) (ds : List D) (S : Sto) : R D := match m, ds with
  | .append, [d] => match cellL S o, asTree d with
    | some (n, xs), some x => if xs.length < lim then .ok (.t .non) (S.set n (.lst (xs ++ [x]))) else .stuck
    | _, _ => match cellR S o with
      | some (n, es) => if es.length < lim then .ok (.t .non) (S.set n (.lsr (es ++ [d]))) else .stuck
      | none => .stuck
  | .popAt, [d] => match cellL S o, asInt d with
    | some (n, xs), some i => if 0 ≤ i ∧ i < 2 ^ 62 then match xs[i.toNat]? with
        | some x => .ok (.t x) (S.set n (.lst (xs.eraseIdx i.toNat)))
        | none => .stuck
      else .stuck
    | _, _ => .stuck
  | .split, [d] => match asStr o, asStr d with
    | some s, some z => match oneSign z with
      | some c => if s.length + 2 ≤ lim then .ok (.t (.lst ((splitC c s).map .str))) S else .stuck
      | none => .stuck
    | _, _ => .stuck
  | .part, [d] => match asStr o, asStr d with
    | some s, some z => match oneSign z with
      | some c => if s.length ≤ lim then .ok (.t (match partC c s with
          | some (p, q) => .tup [.str p, .str [c], .str q]
          | none => .tup [.str s, .str [], .str []])) S else .stuck
      | none => .stuck
    | _, _ => .stuck
  | .count, [d] => match asStr o, asStr d with
    | some s, some z => match oneSign z with
      | some c => .ok (.t (.int ((s.filter fun x => x == c).length : Nat))) S
      | none => .stuck
    | _, _ => .stuck
  | .starts, [d] => match asStr o, asStr d with
    | some s, some z => match oneSign z with
      | some c => .ok (.t (.bl (s.head? == some c))) S
      | none => .stuck
    | _, _ => .stuck
  | .ends, [d] => match asStr o, asStr d with
    | some s, some z => match oneSign z with
      | some c => .ok (.t (.bl (s.getLast? == some c))) S
      | none => .stuck
    | _, _ => .stuck
  | .insert, [i, d] => match cellL S o, asInt i, asTree d with
    | some (n, xs), some k, some x => if xs.length < lim ∧ 0 ≤ k ∧ k < 2 ^ 62 then .ok (.t .non) (S.set n (.lst (xs.take k.toNat ++ [x] ++ xs.drop k.toNat))) else .stuck
    | _, _, _ => .stuck
  | .clear, [] => match cellL S o with
    | some (n, _) => .ok (.t .non) (S.set n (.lst []))
    | none => match cellR S o with
      | some (n, _) => .ok (.t .non) (S.set n (.lst []))
      | none => .stuck
  | .pop, [] => match cellL S o with
    | some (n, xs) => match xs[xs.length - 1]? with
      | some x => .ok (.t x) (S.set n (.lst xs.dropLast))
      | none => .stuck
    | none => match cellR S o with
      | some (n, es) => match es[es.length - 1]? with
        | some x => .ok x (S.set n (.lsr es.dropLast))
        | none => .stuck
      | none => .stuck
  | .join, [d] => match asStr o, joinL S d with
    | some s, some r => if s.length ≤ 10 then .ok (.t (.str (joinC s r))) S else .stuck
    | _, _ => .stuck
  | .extend, [d] => match cellL S o, asL S d with
    | some (n, xs), some ys => if xs.length + ys.length ≤ lim then .ok (.t .non) (S.set n (.lst (xs ++ ys))) else .stuck
    | _, _ => .stuck
  | .upper, [] => match asStr o with
    | some s => if s.all isLow && decide (s.length ≤ lim) then .ok (.t (.str (s.map upC))) S else .stuck
    | none => .stuck
  | _, _ => .stuck
/-- o[i] = v -/
def setV (o i v : D) (S : Sto) : Option Sto := match cellL S o, asInt i, asTree v with
  | some (n, xs), some k, some x => match ixN xs.length k with
    | some j => some (S.set n (.lst (xs.set j x)))
    | none => none
  | _, _, _ => none

/-! ### the little language -/
/-- how what a def hands back is taken: its new lists as they are, as cells; or what is handed in is looked at alone -/
inductive CM | lend | keep | frz | shr
/-- some of these, by their numbers -/
def pick {α : Type} : List Nat → List α → Option (List α)
  | [], _ => some []
  | i :: r, xs => match xs[i]?, pick r xs with
    | some x, some ys => some (x :: ys)
    | _, _ => none
/-- a target -/
inductive Tg where
  | nm (i : Nat) | tp (ts : List Tg)
mutual
inductive E where
  | var (i : Nat) | k (x : T) | dict0 | tup (es : Es) | lst (es : Es) | newL (es : Es) | alloc (e : E)
  | bin (o : BinO) (a b : E) | cmp (o : CmpO) (a b : E) | chn (o p : CmpO) (a b c : E)
  | neg (a : E) | nott (a : E) | and (a b : E) | or (a b : E) | ite (c a b : E)
  | idx (a b : E) | slc (a : E) (lo hi : Eo)
  | lc (e : E) (own : List Nat) (tg : Tg) (it : I) (c : Eo)
  | lcR (e : E) (own : List Nat) (tg : Tg) (it : I) (c : Eo)
  | lenSet (e : E) | rngL (e : E) | fstr (es : Es)
  | lc2 (e : E) (own : List Nat) (tg : Tg) (it : I) (c : Eo) (own1 : List Nat) (tg1 : Tg) (it1 : I) (c1 : Eo)
  | rev (a : E)
  | call (f : String) (es : Es) (m : CM)
  | callK (f : String) (es ks : Es) (pm : List Nat) (m : CM)
  | froz (e : E) | isx (e : E) (tb : List (String × Bool)) | fld (e : E) (f : String) (cs : List String)
  | bi (b : Bi) (es : Es) | isi (e : E) (t : Ty) | mth (m : Mt) (o : E) (es : Es)
inductive Es where
  | nil | cons (e : E) (r : Es)
inductive Eo where
  | no | yes (e : E)
/-- what is walked -/
inductive I where
  | any (e : E) | rng1 (e : E) | rng2 (a b : E) | enum (e : E) | zip (a b : E)
end
mutual
inductive S1 where
  | asg (tg : Tg) (e : E) | setI (o i e : E) | expr (e : E) | ret (e : E) | retN | pass
  | ife (c : E) (a b : Ss) | for (tg : Tg) (it : I) (b : Ss) | never | take (i j : Nat) (f : String) (a : E) | raise (c : String) | raiseF (c f : String) (e : E) | aug (i : Nat) (e : E) | whil (c : E) (b : Ss) | tryK (i j : Nat) (b : Ss) (cs : List String)
inductive Ss where
  | nil | cons (s : S1) (r : Ss)
end
mutual
/-- the slots of a target -/
def tgSl : Tg → List Nat
  | .nm i => [i]
  | .tp ts => tgsSl ts
def tgsSl : List Tg → List Nat
  | [] => []
  | t :: ts => tgSl t ++ tgsSl ts
end
mutual
/-- the slots that a statement may store -/
def slS : S1 → List Nat
  | .asg tg _ => tgSl tg
  | .ife _ a b => slSs a ++ slSs b
  | .for tg _ b => tgSl tg ++ slSs b
  | .take i j _ _ => [i, j]
  | .aug i _ => [i]
  | .whil _ b => slSs b
  | .tryK i j b _ => i :: j :: slSs b
  | _ => []
def slSs : Ss → List Nat
  | .nil => []
  | .cons s r => slS s ++ slSs r
end
abbrev Env := List (Option D)
abbrev Or := String → List D → Sto → R D

mutual
def setTg : Tg → D → Env → Option Env
  | .nm i, d, env => some (env.set i (some d))
  | .tp ts, d, env => match tupOf d with
    | some ds => setTgs ts ds env
    | none => none
def setTgs : List Tg → List D → Env → Option Env
  | [], [], env => some env
  | t :: ts, d :: ds, env => match setTg t d env with
    | some env' => setTgs ts ds env'
    | none => none
  | _, _, _ => none
end
def wipeE (env : Env) : List Nat → Env
  | [] => env
  | v :: vs => (wipeE env vs).set v none
/-- a comprehension's walk -/
def lcL (f : D → Sto → R (Option D)) : List D → Sto → R (List D)
  | [], S => .ok [] S
  | x :: xs, S => match f x S with
    | .ok o S1 => match lcL f xs S1 with
      | .ok r S2 => .ok (match o with | some d => d :: r | none => r) S2
      | _ => .stuck
    | _ => .stuck
/-- .. whose turns hand back lists -/
def lcC (f : D → Sto → R (List D)) : List D → Sto → R (List D)
  | [], S => .ok [] S
  | x :: xs, S => match f x S with
    | .ok a S1 => match lcC f xs S1 with
      | .ok r S2 => .ok (a ++ r) S2
      | _ => .stuck
    | _ => .stuck
/-- arguments for a call with a store of its own: the cells get new numbers -/
def isoArgs : List D → Nat → Option (List D × List Nat)
  | [], _ => some ([], [])
  | .t x :: r, k => match isoArgs r k with
    | some (a, n) => some (.t x :: a, n)
    | none => none
  | .ref m :: r, k => match isoArgs r (k + 1) with
    | some (a, n) => some (.ref k :: a, m :: n)
    | none => none
  | .exc c fs :: r, k => match isoArgs r k with
    | some (a, n) => some (.exc c fs :: a, n)
    | none => none
  | .tp _ :: _, _ => none
/-- the lists in the cells of these numbers -/
def lentC (S : Sto) : List Nat → Option (List Cell)
  | [] => some []
  | n :: r => match S[n]? with
    | some (.lst xs) => match lentC S r with
      | some cs => some (.lst xs :: cs)
      | none => none
    | _ => none
/-- they go back -/
def backC : List Nat → List Cell → Sto → Sto
  | n :: r, c :: cs, S => backC r cs (S.set n c)
  | _, _, S => S
mutual
/-- a told value's new cells are put behind the store -/
def ado (m : Nat) (n : Nat) : D → Option D
  | .t x => some (.t x)
  | .ref j => if m ≤ j then some (.ref (n + (j - m))) else none
  | .tp ds => match ados m n ds with
    | some xs => some (.tp xs)
    | none => none
  | .exc c fs => some (.exc c fs)
def ados (m : Nat) (n : Nat) : List D → Option (List D)
  | [] => some []
  | d :: r => match ado m n d with
    | some x => match ados m n r with
      | some xs => some (x :: xs)
      | none => none
    | none => none
end
/-- cells that hold trees alone -/
def flatC : Cell → Bool
  | .lst _ => true
  | .gone => true
  | _ => false
def isoLend (Φ : Or) (f : String) (ds : List D) (ad : Bool) (S : Sto) : R D := match isoArgs ds 0 with
  | none => .stuck
  | some (as, ns) => if ns.Nodup then match lentC S ns with
    | none => .stuck
    | some cs => match Φ f as cs with
      | .ok d S1 => if S1.all flatC then
          (if ad then match ado ns.length S.length d with
            | some x => .ok x (backC ns S1 S ++ S1.drop ns.length)
            | none => .stuck
          else match toT ns.length S1 d with
            | some x => .ok (.t x) (backC ns S1 S)
            | none => .stuck)
        else .stuck
      | .exc c fs S1 => if S1.all flatC then .exc c fs (backC ns S1 S) else .stuck
      | .stuck => .stuck
    else .stuck
/-- all are looked at alone -/
def isoFrz (Φ : Or) (f : String) (ds : List D) (S : Sto) : R D := match toTs 0 S ds with
  | none => .stuck
  | some xs => match Φ f (xs.map .t) [] with
    | .ok (.t x) _ => if flatT x then .ok (.t x) S else .stuck
    | .ok _ _ => .stuck
    | .exc c fs _ => if fs.isEmpty then .exc c fs S else .stuck
    | .stuck => .stuck
def isoCall (Φ : Or) (f : String) (ds : List D) (m : CM) (S : Sto) : R D := match m with
  | .lend => isoLend Φ f ds false S
  | .keep => isoLend Φ f ds true S
  | .frz => match allT ds with
    | some _ => isoLend Φ f ds false S
    | none => isoFrz Φ f ds S
  | .shr => Φ f ds S
def isoPick (Φ : Or) (f : String) (ds : List D) (pm : List Nat) (m : CM) (S : Sto) : R D := match pick pm ds with
  | some as => isoCall Φ f as m S
  | none => .stuck
/-- the slots, looked at alone -/
def frzEnv (S : Sto) (env : Env) : Env := env.map fun o => match o with
  | some d => match toT 0 S d with
    | some x => some (.t x)
    | none => none
  | none => none
def frzR (r : R D) (S : Sto) : R D := match r with
  | .ok (.t x) _ => if flatT x then .ok (.t x) S else .stuck
  | .ok _ _ => .stuck
  | .exc c fs _ => if fs.isEmpty then .exc c fs S else .stuck
  | .stuck => .stuck
/-- whether an error is of a class, told class by class -/
def isxV (d : D) (tb : List (String × Bool)) : Option Bool := match d with
  | .exc c _ => tb.lookup c
  | .t .non => some false
  | _ => none
/-- what an error keeps -/
def fldV (d : D) (f : String) (cs : List String) : Option D := match d with
  | .exc c fs => if cs.contains c then match fs.lookup f with
      | some x => some (.t x)
      | none => none
    else none
  | _ => none
/-- a new list's cell -/
def mkC (ds : List D) : Cell := match allT ds with
  | some xs => .lst xs
  | none => .lsr ds
/-- how many unlike numbers -/
def intsT : List T → Option (List Int)
  | [] => some []
  | .int i :: r => match intsT r with
    | some is => some (i :: is)
    | none => none
  | _ => none
def unlike (is : List Int) : List Int := is.foldl PyProof.Rows.step_dedup []
def lenSetV (S : Sto) (d : D) : Option D := match asL S d with
  | some xs => match intsT xs with
    | some is => if is.length ≤ 60 then some (.t (.int ((unlike is).length : Nat))) else none
    | none => none
  | none => none
/-- an answer kept: as it is, or a new list as a cell -/
def fin (b : Bool) (d : D) (S : Sto) : R D := if b then match d with
    | .t (.lst xs) => .ok (.ref S.length) (S ++ [.lst xs])
    | _ => .stuck
  else .ok d S
/-- the items of what is walked -/
def itemsOf (S : Sto) (d : D) : Option (List D) := match d with
  | .t (.lst xs) => some (xs.map .t)
  | .t (.tup xs) => some (xs.map .t)
  | .tp ds => some ds
  | .t (.str s) => some (s.map fun c => .t (.str [c]))
  | _ => none
def rngD (lo : Int) (n : Nat) : List D := (List.range n).map fun (i : Nat) => .t (.int (lo + (i : Int)))
def enumL : Nat → List T → List D
  | _, [] => []
  | k, x :: r => .t (.tup [.int (k : Nat), x]) :: enumL (k + 1) r
def zipL : List T → List T → List D
  | x :: xs, y :: ys => .t (.tup [x, y]) :: zipL xs ys
  | _, _ => []
@[irreducible] def isMid (i : Int) : Bool := Nat.ble i.natAbs 4611686018427387903
theorem isMid_iff {i : Int} : isMid i = true ↔ -4611686018427387904 < i ∧ i < 4611686018427387904 := by
  unfold isMid
  rw [Nat.ble_eq]
  omega
mutual
def evE (Φ : Or) : E → Env → Sto → R D
  | .var i, env, S => match env[i]? with
    | some (some d) => .ok d S
    | _ => .stuck
  | .k x, _, S => .ok (.t x) S
  | .dict0, _, S => .ok (.t (.dct [] [])) S
  | .tup es, env, S => (evEs Φ es env S).bind fun ds S => .ok (mkTup ds) S
  | .lst es, env, S => (evEs Φ es env S).bind fun ds S => opt (mkLst ds) S
  | .newL es, env, S => (evEs Φ es env S).bind fun ds S => match allT ds with
    | some xs => .ok (.ref S.length) (S ++ [.lst xs])
    | none => .ok (.ref S.length) (S ++ [.lsr ds])
  | .alloc e, env, S => (evE Φ e env S).bind (fin true)
  | .bin o a b, env, S => (evE Φ a env S).bind fun x S => (evE Φ b env S).bind fun y S => binV o x y S
  | .cmp o a b, env, S => (evE Φ a env S).bind fun x S => (evE Φ b env S).bind fun y S => (opt (cmpV o x y S) S).bind fun r S => .ok (.t (.bl r)) S
  | .chn o p a b c, env, S => (evE Φ a env S).bind fun x S => (evE Φ b env S).bind fun y S => (opt (cmpV o x y S) S).bind fun r S =>
      if r then (evE Φ c env S).bind fun z S => (opt (cmpV p y z S) S).bind fun r S => .ok (.t (.bl r)) S else .ok (.t (.bl false)) S
  | .neg a, env, S => (evE Φ a env S).bind fun x S => match asInt x with
    | some i => .ok (.t (.int (-i))) S
    | none => .stuck
  | .nott a, env, S => (evE Φ a env S).bind fun x S => (opt (truth S x) S).bind fun r S => .ok (.t (.bl (!r))) S
  | .and a b, env, S => (evE Φ a env S).bind fun x S => (opt (truth S x) S).bind fun r S => if r then evE Φ b env S else .ok x S
  | .or a b, env, S => (evE Φ a env S).bind fun x S => (opt (truth S x) S).bind fun r S => if r then .ok x S else evE Φ b env S
  | .ite c a b, env, S => (evT Φ c env S).bind fun r S => if r then evE Φ a env S else evE Φ b env S
  | .idx a b, env, S => (evE Φ a env S).bind fun x S => (evE Φ b env S).bind fun y S => opt (itmV x y S) S
  | .slc a lo hi, env, S => (evE Φ a env S).bind fun x S => (evO Φ lo env S).bind fun l S => (evO Φ hi env S).bind fun h S => opt (slcV x l h S) S
  | .lc e own tg it c, env, S => (evI Φ it env S).bind fun xs S => (lcL (fun x S => match setTg tg x (wipeE env own) with
      | none => .stuck
      | some env' => (evC Φ c env' S).bind fun r S => if r then (evE Φ e env' S).bind fun d S => .ok (some d) S else .ok none S) xs S).bind fun ds S => if ds.length ≤ lim then opt (mkLst ds) S else .stuck
  | .lcR e own tg it c, env, S => (evI Φ it env S).bind fun xs S => (lcL (fun x S => match setTg tg x (wipeE env own) with
      | none => .stuck
      | some env' => (evC Φ c env' S).bind fun r S => if r then (evE Φ e env' S).bind fun d S => .ok (some d) S else .ok none S) xs S).bind fun ds S => if ds.length ≤ lim then .ok (.ref S.length) (S ++ [mkC ds]) else .stuck
  | .lenSet e, env, S => (evE Φ e env S).bind fun d S => opt (lenSetV S d) S
  | .rngL e, env, S => (evE Φ e env S).bind fun d S => match asInt d with
    | some j => if 0 ≤ j ∧ j ≤ 60 then .ok (.t (.lst ((List.range j.toNat).map fun (i : Nat) => .int (i : Int)))) S else .stuck
    | none => .stuck
  | .fstr es, env, S => (evFs Φ [] es env S).bind fun s S => .ok (.t (.str s)) S
  | .lc2 e own tg it c own1 tg1 it1 c1, env, S => (evI Φ it env S).bind fun xs S => (lcC (fun x S => match setTg tg x (wipeE env own) with
      | none => .stuck
      | some env' => (evC Φ c env' S).bind fun r S => if r then (evI Φ it1 env' S).bind fun ys S => lcL (fun y S => match setTg tg1 y (wipeE env' own1) with
          | none => .stuck
          | some env2 => (evC Φ c1 env2 S).bind fun r S => if r then (evE Φ e env2 S).bind fun d S => .ok (some d) S else .ok none S) ys S else .ok [] S) xs S).bind fun ds S => if ds.length ≤ lim then opt (mkLst ds) S else .stuck
  | .rev a, env, S => (evE Φ a env S).bind fun x S => match asL S x with
    | some xs => .ok (.t (.lst xs.reverse)) S
    | none => .stuck
  | .call f es m, env, S => (evEs Φ es env S).bind fun ds S => isoCall Φ f ds m S
  | .callK f es ks pm m, env, S => (evEs Φ es env S).bind fun ds S => (evEs Φ ks env S).bind fun zs S => isoPick Φ f (ds ++ zs) pm m S
  | .froz e, env, S => frzR (evE Φ e (frzEnv S env) []) S
  | .isx e tb, env, S => (evE Φ e env S).bind fun d S => (opt (isxV d tb) S).bind fun r S => .ok (.t (.bl r)) S
  | .fld e f cs, env, S => (evE Φ e env S).bind fun d S => opt (fldV d f cs) S
  | .bi b es, env, S => (evEs Φ es env S).bind fun ds S => opt (biV b ds S) S
  | .isi e t, env, S => (evE Φ e env S).bind fun d S => (opt (isTy S d t) S).bind fun r S => .ok (.t (.bl r)) S
  | .mth m o es, env, S => (evE Φ o env S).bind fun d S => if kndOf S d = some (mtK m) then (evEs Φ es env S).bind fun ds S => mtV m d ds S else .stuck
/-- a test -/
def evT (Φ : Or) : E → Env → Sto → R Bool
  | .and a b, env, S => (evT Φ a env S).bind fun r S => if r then evT Φ b env S else .ok false S
  | .or a b, env, S => (evT Φ a env S).bind fun r S => if r then .ok true S else evT Φ b env S
  | .nott a, env, S => (evT Φ a env S).bind fun r S => .ok (!r) S
  | .cmp o a b, env, S => (evE Φ a env S).bind fun x S => (evE Φ b env S).bind fun y S => opt (cmpV o x y S) S
  | .chn o p a b c, env, S => (evE Φ a env S).bind fun x S => (evE Φ b env S).bind fun y S => (opt (cmpV o x y S) S).bind fun r S =>
      if r then (evE Φ c env S).bind fun z S => opt (cmpV p y z S) S else .ok false S
  | .var i, env, S => match env[i]? with
    | some (some d) => opt (truth S d) S
    | _ => .stuck
  | .bi b es, env, S => (evEs Φ es env S).bind fun ds S => (opt (biV b ds S) S).bind fun d S => opt (truth S d) S
  | .isi e t, env, S => (evE Φ e env S).bind fun d S => opt (isTy S d t) S
  | .isx e tb, env, S => (evE Φ e env S).bind fun d S => opt (isxV d tb) S
  | .idx a b, env, S => (evE Φ a env S).bind fun x S => (evE Φ b env S).bind fun y S => (opt (itmV x y S) S).bind fun d S => opt (truth S d) S
  | .call f es m, env, S => (evEs Φ es env S).bind fun ds S => (isoCall Φ f ds m S).bind fun d S => opt (truth S d) S
  | .k x, _, S => opt (truth S (.t x)) S
  | .froz e, env, S => (frzR (evE Φ e (frzEnv S env) []) S).bind fun d S => opt (truth S d) S
  | _, _, _ => .stuck
def evEs (Φ : Or) : Es → Env → Sto → R (List D)
  | .nil, _, S => .ok [] S
  | .cons e r, env, S => (evE Φ e env S).bind fun d S => (evEs Φ r env S).bind fun ds S => .ok (d :: ds) S
/-- texts one behind the other -/
def evFs (Φ : Or) : Cs → Es → Env → Sto → R Cs
  | acc, .nil, _, S => .ok acc S
  | acc, .cons e r, env, S => (evE Φ e env S).bind fun d S => match asStr d with
    | some y => if y.length + acc.length ≤ lim then evFs Φ (acc ++ y) r env S else .stuck
    | none => .stuck
def evO (Φ : Or) : Eo → Env → Sto → R (Option Int)
  | .no, _, S => .ok none S
  | .yes e, env, S => (evE Φ e env S).bind fun d S => match asInt d with
    | some i => .ok (some i) S
    | none => .stuck
/-- a comprehension's test -/
def evC (Φ : Or) : Eo → Env → Sto → R Bool
  | .no, _, S => .ok true S
  | .yes e, env, S => evT Φ e env S
def evI (Φ : Or) : I → Env → Sto → R (List D)
  | .any e, env, S => (evE Φ e env S).bind fun d S => opt (itemsOf S d) S
  | .rng1 e, env, S => (evE Φ e env S).bind fun d S => match asInt d with
    | some j => if isMid j then .ok (rngD 0 j.toNat) S else .stuck
    | none => .stuck
  | .rng2 a b, env, S => (evE Φ a env S).bind fun x S => (evE Φ b env S).bind fun y S => match asInt x, asInt y with
    | some i, some j => if isMid i && isMid j then .ok (rngD i (j - i).toNat) S else .stuck
    | _, _ => .stuck
  | .enum e, env, S => (evE Φ e env S).bind fun d S => match d with
    | .t (.lst xs) => .ok (enumL 0 xs) S
    | _ => .stuck
  | .zip a b, env, S => (evE Φ a env S).bind fun x S => (evE Φ b env S).bind fun y S => match x, y with
    | .t (.lst xs), .t (.lst ys) => .ok (zipL xs ys) S
    | _, _ => .stuck
end
inductive Ctl where
  | nx | ret (d : D)
def forL (f : D → Env → Sto → R (Ctl × Env)) : List D → Env → Sto → R (Ctl × Env)
  | [], env, S => .ok (.nx, env) S
  | x :: xs, env, S => match f x env S with
    | .ok (.nx, env1) S1 => forL f xs env1 S1
    | .ok (.ret d, env1) S1 => .ok (.ret d, env1) S1
    | .exc c fs S1 => .exc c fs S1
    | .stuck => .stuck
/-- a while's turns -/
def whL (f : Env → Sto → R Bool) (g : Env → Sto → R (Ctl × Env)) : Nat → Env → Sto → R (Ctl × Env)
  | 0, _, _ => .stuck
  | n + 1, env, S => (f env S).bind fun r S => if r then (match g env S with
      | .ok (.nx, env1) S1 => whL f g n env1 S1
      | .ok (.ret d, env1) S1 => .ok (.ret d, env1) S1
      | .exc c fs S1 => .exc c fs S1
      | .stuck => .stuck) else .ok (.nx, env) S
def fuelW : Nat := 1000000
mutual
def evS (Φ : Or) : S1 → Env → Sto → R (Ctl × Env)
  | .asg tg e, env, S => (evE Φ e env S).bind fun d S => (opt (setTg tg d env) S).bind fun env S => .ok (.nx, env) S
  | .setI o i e, env, S => (evE Φ e env S).bind fun v S => (evE Φ o env S).bind fun d S => (evE Φ i env S).bind fun j S => match setV d j v S with
    | some S' => .ok (.nx, env) S'
    | none => .stuck
  | .expr e, env, S => (evE Φ e env S).bind fun _ S => .ok (.nx, env) S
  | .ret e, env, S => (evE Φ e env S).bind fun d S => .ok (.ret d, env) S
  | .retN, env, S => .ok (.ret (.t .non), env) S
  | .pass, env, S => .ok (.nx, env) S
  | .ife c a b, env, S => (evT Φ c env S).bind fun r S => if r then evSs Φ a env S else evSs Φ b env S
  | .never, _, _ => .stuck
  | .raise c, _, S => .exc c [] S
  | .raiseF c f e, env, S => (evE Φ e env S).bind fun d S => match d with
    | .t x => if flatT x then .exc c [(f, x)] S else .stuck
    | _ => .stuck
  | .aug i e, env, S => match env[i]? with
    | some (some d) => match asInt d with
      | some a => (evE Φ e env S).bind fun x S => match asInt x with
        | some b => .ok (.nx, env.set i (some (.t (.int (a + b))))) S
        | none => .stuck
      | none => .stuck
    | _ => .stuck
  | .whil c b, env, S => whL (fun env S => evT Φ c env S) (fun env S => evSs Φ b env S) fuelW env S
  | .tryK i j b cs, env, S => match evSs Φ b env S with
    | .ok p S' => .ok p S'
    | .exc c fs S' => if cs.contains c then .ok (.nx, ((wipeE env (slSs b)).set j (some (.exc c fs))).set i none) S' else .stuck
    | .stuck => .stuck
  | .take i j f a, env, S => match env[j]? with
    | some (some (.t (.str s))) => if s.length ≤ lim then (evE Φ a env S).bind fun x S => (isoCall Φ f [x, .t (.int (s.length : Nat))] .lend S).bind fun d S => match asInt d with
        | some k => match atI s k with
          | some c => .ok (.nx, (env.set i (some (.t (.str [c])))).set j (some (.t (.str (s.filter fun z => z != c))))) S
          | none => .stuck
        | none => .stuck
      else .stuck
    | _ => .stuck
  | .for tg it b, env, S => (evI Φ it env S).bind fun xs S => forL (fun x env S => (opt (setTg tg x env) S).bind fun env S => evSs Φ b env S) xs env S
def evSs (Φ : Or) : Ss → Env → Sto → R (Ctl × Env)
  | .nil, env, S => .ok (.nx, env) S
  | .cons s r, env, S => (evS Φ s env S).bind fun p S => match p with
    | (.nx, env) => evSs Φ r env S
    | (.ret d, env) => .ok (.ret d, env) S
end
structure Fn where
  np : Nat
  ns : Nat
  body : Ss
abbrev Tb := String → Option Fn
def run (tb : Tb) : Nat → Or
  | 0 => fun _ _ _ => .stuck
  | k + 1 => fun f ds S => match tb f with
    | none => .stuck
    | some fn => if ds.length = fn.np then match evSs (run tb k) fn.body (ds.map some ++ List.replicate (fn.ns - fn.np) none) S with
        | .ok (.ret d, _) S' => .ok d S'
        | .ok (.nx, _) S' => .ok (.t .non) S'
        | .exc c fs S' => .exc c fs S'
        | .stuck => .stuck
      else .stuck
end Kp
/-! From the model's syntax to the little language. -/
namespace Kp
open PySem

/-- a call by names: how many stand ahead by their places, the names, which is which parameter's -/
structure KwRow where
  f : String
  np : Nat
  ks : List String
  pm : List Nat
  deriving Inhabited
/-- own classes of errors with an __init__ of their own -/
def inited : List String := ["NoBook", "NoText", "NoNames", "NoRun", "NoSome"]
/-- .. that keep a row -/
def rowed : List String := ["NoText"]
/-- what is known of the whole text, and what is chosen for one def -/
structure CI where
  /-- the text's own defs -/
  fns : List String
  /-- constants of the modules -/
  glb : List (String × T)
  /-- names of this def whose lists are cells -/
  muts : List String
  /-- defs that change lists that are handed in -/
  lend : List String
  /-- calls by names -/
  kws : List KwRow
  /-- lists that this def hands back are cells -/
  retC : Bool
  /-- the own classes of errors -/
  excs : List String := []
  /-- whether one is another -/
  subs : List (String × String × Bool) := []
  /-- defs that are called in the caller's own store -/
  shr : List String := []
  /-- lists within new lists and tuples are cells, too -/
  deep : Bool := false
/-- a name by a list of written names -/
def findN (l : List String) (x : Str) : Option String := l.find? fun n => decide (Str.ofString n = x)
theorem findN_some {l : List String} {x : Str} {n : String} (h : findN l x = some n) : Str.ofString n = x ∧ n ∈ l := by
  unfold findN at h
  exact ⟨of_decide_eq_true (List.find?_some (p := fun n => decide (Str.ofString n = x)) h), List.mem_of_find?_eq_some h⟩
def findG (l : List (String × T)) (x : Str) : Option (String × T) := l.find? fun p => decide (Str.ofString p.1 = x)
theorem findG_some {l : List (String × T)} {x : Str} {p : String × T} (h : findG l x = some p) : Str.ofString p.1 = x ∧ p ∈ l := by
  unfold findG at h
  exact ⟨of_decide_eq_true (List.find?_some (p := fun (p : String × T) => decide (Str.ofString p.1 = x)) h), List.mem_of_find?_eq_some h⟩
/-- the place of a name -/
def ixS (N : List Str) (x : Str) : Option Nat := match N with
  | [] => none
  | y :: r => if y = x then some 0 else match ixS r x with
    | some i => some (i + 1)
    | none => none
theorem ixS_some {N : List Str} {x : Str} {i : Nat} (h : ixS N x = some i) : N[i]? = some x := by
  induction N generalizing i with
  | nil => cases h
  | cons y r ih =>
    unfold ixS at h
    split at h
    · rename_i e
      cases h
      rw [e]; rfl
    · split at h
      · rename_i j e
        cases h
        simpa using ih e
      · cases h
def kindS (sc : Scope) (x : Str) : Option NameKind := sc.names.lookup x
def isVis (sc : Scope) (x : Str) : Bool := match kindS sc x with
  | some .local => true
  | some .cell => true
  | some .free => true
  | _ => false
def isLoc (sc : Scope) (x : Str) : Bool := match kindS sc x with
  | some .local => true
  | some .cell => true
  | _ => false
def isGlo (sc : Scope) (x : Str) : Bool := match kindS sc x with
  | some .globalImplicit => true
  | _ => false
def notDbg (x : Str) : Bool := !(x == ("__debug__" : Str)) && !(x == ("__classdict__" : Str)) && !decide (x = ("__name__" : Str))
theorem csOf_some {s : Str} {cs : Cs} (h : csOf s = some cs) : stC cs = s := by
  unfold csOf at h
  simp only at h
  split at h
  · rename_i e
    cases h
    exact e
  · cases h
def tyOf (x : Str) : Option Ty :=
  if x = ("str" : Str) then some .str else if x = ("int" : Str) then some .int else if x = ("bool" : Str) then some .bool else if x = ("list" : Str) then some .list else if x = ("tuple" : Str) then some .tuple else none
def isCmp : PySem.Expr → Bool
  | .ListComp .. => true
  | .SetComp .. => true
  | .DictComp .. => true
  | _ => false
def isTupE : PySem.Expr → Bool
  | .Tuple .. => true
  | _ => false
def isSlc : PySem.Expr → Bool
  | .Slice .. => true
  | _ => false
def isSet : PySem.Expr → Bool
  | .Set .. => true
  | _ => false
def isCallE : PySem.Expr → Bool
  | .Call .. => true
  | _ => false
def isStar : PySem.Expr → Bool
  | .Starred .. => true
  | _ => false
def ownOf (N : List Str) (scope : Scope) : List (Str × Nat) := scope.names.filterMap fun (x, k) => match k with
  | .local => match ixS N x with | some i => some (x, i) | none => none
  | .cell => match ixS N x with | some i => some (x, i) | none => none
  | _ => none
mutual
def cTg (sc : Scope) (N : List Str) : Nat → PySem.Expr → Option Tg
  | 0, _ => none
  | n + 1, .Name x _ => if isLoc sc x then match ixS N x with
      | some i => some (.nm i)
      | none => none
    else none
  | n + 1, .Tuple es _ _ => match cTgs sc N n es with
    | some ts => some (.tp ts)
    | none => none
  | _ + 1, _ => none
def cTgs (sc : Scope) (N : List Str) : Nat → List PySem.Expr → Option (List Tg)
  | 0, _ => none
  | _ + 1, [] => some []
  | n + 1, e :: r => if isStar e then none else match cTg sc N n e with
    | some t => match cTgs sc N n r with
      | some ts => some (t :: ts)
      | none => none
    | none => none
end
def cBin : Operator → Option BinO
  | .Add => some .add
  | .Sub => some .sub
  | .Mult => some .mul
  | .FloorDiv => some .fdiv
  | .Mod => some .mod
  | .Pow => some .pow
  | _ => none
def cCmp : CmpOp → Option CmpO
  | .Eq => some .eq
  | .NotEq => some .ne
  | .Lt => some .lt
  | .LtE => some .le
  | .Gt => some .gt
  | .GtE => some .ge
  | .Is => some .isN
  | .IsNot => some .notN
  | .In => some .inn
  | .NotIn => some .nin
def cCmp2 (o : CmpOp) (b : PySem.Expr) : Option CmpO := match o, b with
  | .Is, .Constant (.bool _) _ _ => some .isB
  | .IsNot, .Constant (.bool _) _ _ => some .notB
  | o, _ => cCmp o
def isRel : CmpO → Bool
  | .inn => false
  | .nin => false
  | .isN => false
  | .notN => false
  | .isB => false
  | .notB => false
  | _ => true
def isNonE : PySem.Expr → Bool
  | .Constant .none _ _ => true
  | _ => false
/-- the built-ins by their calls -/
def cBi (x : Str) (m : Nat) : Option Bi :=
  if x = ("tuple" : Str) ∧ m = 1 then some .tuple else if x = ("sorted" : Str) ∧ m = 1 then some .sorted else if x = ("repr" : Str) ∧ m = 1 then some .repr else if x = ("dict" : Str) ∧ m = 1 then some .dict else if x = ("len" : Str) ∧ m = 1 then some .len else if x = ("all" : Str) ∧ m = 1 then some .all else if x = ("any" : Str) ∧ m = 1 then some .any
  else if x = ("max" : Str) ∧ m = 2 then some .max2 else if x = ("min" : Str) ∧ m = 2 then some .min2 else if x = ("int" : Str) ∧ m = 1 then some .int1 else if x = ("list" : Str) ∧ m = 1 then some .list else none
/-- the methods by their calls -/
def mtOfA (x : Str) (m : Nat) : Option Mt :=
  if x = ("pop" : Str) ∧ m = 1 then some .popAt else if x = ("split" : Str) ∧ m = 1 then some .split else if x = ("partition" : Str) ∧ m = 1 then some .part
  else if x = ("count" : Str) ∧ m = 1 then some .count else if x = ("startswith" : Str) ∧ m = 1 then some .starts else if x = ("endswith" : Str) ∧ m = 1 then some .ends else none
def mtOfB (x : Str) (m : Nat) : Option Mt :=
  if x = ("append" : Str) ∧ m = 1 then some .append else if x = ("insert" : Str) ∧ m = 2 then some .insert
  else if x = ("clear" : Str) ∧ m = 0 then some .clear else if x = ("pop" : Str) ∧ m = 0 then some .pop else if x = ("join" : Str) ∧ m = 1 then some .join else if x = ("upper" : Str) ∧ m = 0 then some .upper else if x = ("extend" : Str) ∧ m = 1 then some .extend else none
def mtOf (x : Str) (m : Nat) : Option Mt := match mtOfA x m with
  | some y => some y
  | none => mtOfB x m
/-- names of a call -/
def kwNames : List Keyword → Option (List Str)
  | [] => some []
  | ⟨some x, _, _⟩ :: r => match kwNames r with
    | some xs => some (x :: xs)
    | none => none
  | _ => none
def findK (l : List KwRow) (f : String) (n : Nat) (ks : List Str) : Option KwRow := l.find? fun q => decide (q.f = f ∧ q.np = n ∧ q.ks.map Str.ofString = ks)
theorem findK_some {l : List KwRow} {f : String} {n : Nat} {ks : List Str} {q : KwRow} (h : findK l f n ks = some q) : q ∈ l ∧ q.f = f ∧ q.np = n ∧ q.ks.map Str.ofString = ks := by
  unfold findK at h
  exact ⟨List.mem_of_find?_eq_some h, of_decide_eq_true (List.find?_some (p := fun q : KwRow => decide (q.f = f ∧ q.np = n ∧ q.ks.map Str.ofString = ks)) h)⟩
def keepM : CM → CM
  | .shr => .shr
  | _ => .keep
/-- what is handed in to be changed: a told list is a cell -/
def keepA : E → E
  | .call f es m => .call f es (keepM m)
  | e => e
def keepAs : Es → Es
  | .nil => .nil
  | .cons e r => .cons (keepA e) (keepAs r)
def keepIf (b : Bool) (es : Es) : Es := if b then keepAs es else es
/-- class by class -/
def subsOf (ci : CI) (d : String) : List (String × Bool) := ci.subs.filterMap fun q => if q.2.1 = d then some (q.1, q.2.2) else none
def takenBy (ci : CI) (d : String) : List String := ((subsOf ci d).filter (·.2)).map (·.1)
/-- by a tuple of classes: the first that it is -/
def anySub (ci : CI) (c : String) : List String → Option Bool
  | [] => some false
  | d :: ds => match (subsOf ci d).lookup c with
    | some true => some true
    | some false => anySub ci c ds
    | none => none
def subsAny (ci : CI) (ds : List String) : List (String × Bool) := ci.excs.filterMap fun c => match anySub ci c ds with
  | some b => some (c, b)
  | none => none
/-- own classes by their names -/
def clsOf (ci : CI) (sc : Scope) : List PySem.Expr → Option (List String)
  | [] => some []
  | .Name t _ :: r => if !notDbg t || !isGlo sc t then none else match findN ci.excs t, clsOf ci sc r with
    | some d, some ds => some (d :: ds)
    | _, _ => none
  | _ => none
def modeOf (ci : CI) (f : String) : CM := if ci.shr.contains f then .shr else if ci.lend.contains f then .lend else .frz
/-- len(set(a)), list(range(a)) -/
def lenSetArg (sc : Scope) (f : Str) (a : PySem.Expr) (r : List PySem.Expr) : Option PySem.Expr := match r, a with
  | [], .Call (.Name s _) [b] [] _ => if f = ("len" : Str) ∧ s = ("set" : Str) ∧ isGlo sc s = true ∧ isStar b = false then some b else none
  | _, _ => none
def rngLArg (sc : Scope) (f : Str) (a : PySem.Expr) (r : List PySem.Expr) : Option PySem.Expr := match r, a with
  | [], .Call (.Name s _) [b] [] _ => if f = ("list" : Str) ∧ s = ("range" : Str) ∧ isGlo sc s = true ∧ isStar b = false then some b else none
  | _, _ => none
mutual
/-- a new list, kept as a cell, its lists, too -/
def cellD : E → E
  | .tup es => .tup (cellDs es)
  | .lst es => .newL (cellDs es)
  | .lc e o t i c => .lcR (cellD e) o t i c
  | .bin .add a b => .alloc (.bin .add a b)
  | .bi .list es => .alloc (.bi .list es)
  | .rngL e => .alloc (.rngL e)
  | .slc a l h => .alloc (.slc a l h)
  | .rev a => .alloc (.rev a)
  | .bi .sorted es => .alloc (.bi .sorted es)
  | .lc2 e o t i c o1 t1 i1 c1 => .alloc (.lc2 e o t i c o1 t1 i1 c1)
  | .call f es m => .call f es (keepM m)
  | e => e
def cellDs : Es → Es
  | .nil => .nil
  | .cons e r => .cons (cellD e) (cellDs r)
end
/-- how many are written -/
def nEs : Es → Nat
  | .nil => 0
  | .cons _ r => nEs r + 1
/-- a comprehension over a list that is a cell -/
def overC (ci : CI) : List PySem.Expr → Bool
  | [.ListComp _ [⟨_, .Name x _, _, _⟩] _ _] => (findN ci.muts x).isSome
  | _ => false
mutual
def cE (ci : CI) (sc : Scope) (N : List Str) : Nat → PySem.Expr → Option E
  | 0, _ => none
  | n + 1, e => match e with
    | .Name x _ => if !notDbg x then none else if isVis sc x then match ixS N x with
        | some i => some (.var i)
        | none => none
      else if isGlo sc x then match findG ci.glb x with
        | some p => some (.k p.2)
        | none => none
      else none
    | .Constant c _ _ => match c with
      | .none => some (.k .non)
      | .bool b => some (.k (.bl b))
      | .int i => some (.k (.int i))
      | .str s => match csOf s with
        | some cs => some (.k (.str cs))
        | none => none
      | _ => none
    | .Tuple es _ _ => match cEs ci sc N n es with
      | some es' => if nEs es' ≤ lim then some (.tup es') else none
      | none => none
    | .List es _ => match cEs ci sc N n es with
      | some es' => if nEs es' ≤ lim then some (.lst es') else none
      | none => none
    | .Dict [] [] _ => some .dict0
    | .BinOp a o b _ => match cBin o, cE ci sc N n a, cE ci sc N n b with
      | some o', some a', some b' => some (.bin o' a' b')
      | _, _, _ => none
    | .UnaryOp .USub a _ => match cE ci sc N n a with
      | some a' => some (.neg a')
      | none => none
    | .UnaryOp .Not a _ => match cE ci sc N n a with
      | some a' => some (.nott a')
      | none => none
    | .BoolOp _ [a] _ => cE ci sc N n a
    | .BoolOp .And (a :: b :: r) pos => match cE ci sc N n a, cE ci sc N n (.BoolOp .And (b :: r) pos) with
      | some a', some b' => some (.and a' b')
      | _, _ => none
    | .BoolOp .Or (a :: b :: r) pos => match cE ci sc N n a, cE ci sc N n (.BoolOp .Or (b :: r) pos) with
      | some a', some b' => some (.or a' b')
      | _, _ => none
    | .Compare a [o] [b] _ => match cCmp2 o b, cE ci sc N n a, cE ci sc N n b with
      | some o', some a', some b' => if isSet b then none else some (.cmp o' a' b')
      | _, _, _ => none
    | .Compare a [o, p] [b, c] _ => match cCmp o, cCmp p, cE ci sc N n a, cE ci sc N n b, cE ci sc N n c with
      | some o', some p', some a', some b', some c' => if isSet c || !isRel o' || !isRel p' then none else some (.chn o' p' a' b' c')
      | _, _, _, _, _ => none
    | .IfExp c a b _ => match cE ci sc N n c, cE ci sc N n a, cE ci sc N n b with
      | some c', some a', some b' => some (.ite c' a' b')
      | _, _, _ => none
    | .Subscript a (.Slice none none (some (.UnaryOp .USub (.Constant (.int 1) _ _) _)) _) _ => match cE ci sc N n a with
      | some a' => some (.rev a')
      | none => none
    | .Subscript a (.Slice lo hi none _) _ => match cE ci sc N n a, cO ci sc N n lo, cO ci sc N n hi with
      | some a', some l, some h => some (.slc a' l h)
      | _, _, _ => none
    | .Subscript a b _ => if isSlc b then none else match cE ci sc N n a, cE ci sc N n b with
      | some a', some b' => some (.idx a' b')
      | _, _ => none
    | .ListComp elt [⟨tg, iter, ifs, 0⟩] scope _ =>
      let own := ownOf N scope
      let sc' := L2.relS scope sc
      if !L2.blkC N sc scope own || isSet iter then none else match cI ci sc N n iter tg, cTg scope N n tg, cC ci sc' N n ifs, cE ci sc' N n elt with
        | some it', some tg', some c', some e' => if (tgSl tg').all (fun i => (own.map (·.2)).contains i) then some (.lc e' (own.map (·.2)) tg' it' c') else none
        | _, _, _, _ => none
    | .ListComp elt [⟨tg, iter, ifs, 0⟩, ⟨tg1, iter1, ifs1, 0⟩] scope _ =>
      let own := ownOf N scope
      let sc' := L2.relS scope sc
      if !L2.blkC N sc scope own || isSet iter || isSet iter1 then none else match cI ci sc N n iter tg, cTg scope N n tg, cC ci sc' N n ifs, cI ci sc' N n iter1 tg1, cTg scope N n tg1, cC ci sc' N n ifs1, cE ci sc' N n elt with
        | some it', some tg', some c', some it1', some tg1', some c1', some e' => if (tgSl tg').all (fun i => (own.map (·.2)).contains i) && (tgSl tg1').all (fun i => ((own.map (·.2)).filter fun i => !(tgSl tg').contains i || (tgSl tg1').contains i).contains i) then some (.lc2 e' (own.map (·.2)) tg' it' c' ((own.map (·.2)).filter fun i => !(tgSl tg').contains i || (tgSl tg1').contains i) tg1' it1' c1') else none
        | _, _, _, _, _, _, _ => none
    | .JoinedStr (a :: b :: r) _ => match cFs ci sc N n (a :: b :: r) with
      | some es => some (.fstr es)
      | none => none
    | .Attribute (.Name x xp) f _ => if f = ("row" : Str) then match cE ci sc N n (.Name x xp) with
        | some e' => some (.fld e' "row" (rowed.filter fun c => ci.excs.contains c))
        | none => none
      else none
    | .Call (.Name f _) args (kw :: kws) _ => if !notDbg f || !isGlo sc f then none else match findN ci.fns f, kwNames (kw :: kws) with
      | some f', some ks => match findK ci.kws f' args.length ks, cEs ci sc N n args, cK ci sc N n (kw :: kws) with
        | some q, some es, some zs => some (.callK f' es zs q.pm (modeOf ci f'))
        | _, _, _ => none
      | _, _ => none
    | .Call (.Name f _) args [] _ => if !notDbg f || !isGlo sc f then none else match args with
      | [] => none
      | a :: r => if f = ("isinstance" : Str) then match r with
          | [.Name t _] => if !notDbg t || !isGlo sc t || isStar a then none else match tyOf t, cE ci sc N n a with
            | some t', some a' => some (.isi a' t')
            | none, some a' => match findN ci.excs t with
              | some d => some (.isx a' (subsOf ci d))
              | none => none
            | _, _ => none
          | [.Tuple ts _ _] => if isStar a then none else match clsOf ci sc ts, cE ci sc N n a with
            | some ds, some a' => if ds.length ≤ lim then some (.isx a' (subsAny ci ds)) else none
            | _, _ => none
          | _ => none
        else match lenSetArg sc f a r with
        | some b => match cE ci sc N n b with
          | some b' => some (.lenSet b')
          | none => none
        | none => match rngLArg sc f a r with
        | some b => match cE ci sc N n b with
          | some b' => some (.rngL b')
          | none => none
        | none => match findN ci.fns f with
          | some f' => match cEs ci sc N n (a :: r) with
            | some es => some (.call f' (keepIf (ci.lend.contains f') es) (modeOf ci f'))
            | none => none
          | none => match cBi f (a :: r).length, cEs ci sc N n (a :: r) with
            | some b, some es => some (if overC ci (a :: r) then .froz (.bi b es) else .bi b es)
            | _, _ => none
    | .Call (.Attribute o m apos) args [] cpos => if (apos.endLine == cpos.line) = false ∨ isCallE o = true then none else match mtOf m args.length, cE ci sc N n o with
      | some m', some o' => match args with
        | [] => some (.mth m' o' .nil)
        | [a] => if isStar a then none else match cE ci sc N n a with
          | some a' => some (.mth m' o' (.cons (if ci.deep then cellD a' else a') .nil))
          | none => none
        | [a, b] => if isStar a || isStar b then none else match cE ci sc N n a, cE ci sc N n b with
          | some a', some b' => some (.mth m' o' (.cons a' (.cons b' .nil)))
          | _, _ => none
        | _ => none
      | _, _ => none
    | _ => none
def cEs (ci : CI) (sc : Scope) (N : List Str) : Nat → List PySem.Expr → Option Es
  | 0, _ => none
  | _ + 1, [] => some .nil
  | n + 1, e :: r => if isStar e then none else match cE ci sc N n e, cEs ci sc N n r with
    | some e', some r' => some (.cons e' r')
    | _, _ => none
/-- the parts of a text that is put together -/
def cFs (ci : CI) (sc : Scope) (N : List Str) : Nat → List PySem.Expr → Option Es
  | 0, _ => none
  | _ + 1, [] => some .nil
  | n + 1, e :: r => match e with
    | .FormattedValue x (-1) none _ => match cE ci sc N n x, cFs ci sc N n r with
      | some e', some r' => some (.cons e' r')
      | _, _ => none
    | .Constant (.str s) _ _ => match csOf s, cFs ci sc N n r with
      | some cs, some r' => some (.cons (.k (.str cs)) r')
      | _, _ => none
    | _ => none
def cK (ci : CI) (sc : Scope) (N : List Str) : Nat → List Keyword → Option Es
  | 0, _ => none
  | _ + 1, [] => some .nil
  | n + 1, k :: r => match cE ci sc N n k.value, cK ci sc N n r with
    | some e', some r' => some (.cons e' r')
    | _, _ => none
def cO (ci : CI) (sc : Scope) (N : List Str) : Nat → Option PySem.Expr → Option Eo
  | 0, _ => none
  | _ + 1, none => some .no
  | n + 1, some e => match cE ci sc N n e with
    | some e' => some (.yes e')
    | none => none
def cC (ci : CI) (sc : Scope) (N : List Str) : Nat → List PySem.Expr → Option Eo
  | 0, _ => none
  | _ + 1, [] => some .no
  | n + 1, [e] => match cE ci sc N n e with
    | some e' => some (.yes e')
    | none => none
  | _ + 1, _ => none
/-- what is walked, with its target -/
def cI (ci : CI) (sc : Scope) (N : List Str) : Nat → PySem.Expr → PySem.Expr → Option I
  | 0, _, _ => none
  | n + 1, it, tg => match it with
    | .Call (.Name f _) args [] _ =>
      if notDbg f && isGlo sc f && decide (f = ("range" : Str)) then match args with
        | [a] => if isStar a then none else match cE ci sc N n a with
          | some a' => some (.rng1 a')
          | none => none
        | [a, b] => if isStar a || isStar b then none else match cE ci sc N n a, cE ci sc N n b with
          | some a', some b' => some (.rng2 a' b')
          | _, _ => none
        | _ => none
      else if notDbg f && isGlo sc f && decide (f = ("enumerate" : Str)) then match args with
        | [a] => if isStar a || !isTupE tg then none else match cE ci sc N n a with
          | some a' => some (.enum a')
          | none => none
        | _ => none
      else if notDbg f && isGlo sc f && decide (f = ("zip" : Str)) then match args with
        | [a, b] => if isStar a || isStar b || !isTupE tg then none else match cE ci sc N n a, cE ci sc N n b with
          | some a', some b' => some (.zip a' b')
          | _, _ => none
        | _ => none
      else match cE ci sc N n it with
        | some e' => some (.any e')
        | none => none
    | _ => match cE ci sc N n it with
      | some e' => some (.any e')
      | none => none
end
/-- a new list, kept as a cell -/
def cellE0 : E → Option E
  | .lst es => some (.newL es)
  | .lc e o t i c => some (.alloc (.lc e o t i c))
  | .bin .add a b => some (.alloc (.bin .add a b))
  | .bi .list es => some (.alloc (.bi .list es))
  | .slc a l h => some (.alloc (.slc a l h))
  | .rev a => some (.alloc (.rev a))
  | .bi .sorted es => some (.alloc (.bi .sorted es))
  | .lc2 e o t i c o1 t1 i1 c1 => some (.alloc (.lc2 e o t i c o1 t1 i1 c1))
  | .call f es m => some (.call f es (keepM m))
  | .rngL e => some (.alloc (.rngL e))
  | _ => none
def asCell0 (e : E) : E := match cellE0 e with
  | some e' => e'
  | none => e
def cellAs : Es → Es
  | .nil => .nil
  | .cons e r => .cons (asCell0 e) (cellAs r)
/-- .. and within a tuple -/
def cellE : E → Option E
  | .tup es => some (.tup (cellAs es))
  | e => cellE0 e
def asCell (e : E) : E := match cellE e with
  | some e' => e'
  | none => e
def isMut (ci : CI) : PySem.Expr → Bool
  | .Name x _ => (findN ci.muts x).isSome
  | _ => false
/-- a statement whose comprehension is stored within its own frame -/
def swp (sc : Scope) (tg e : PySem.Expr) : Bool := match e, tg with
  | .ListComp _ _ s pos, .Name y py => decide (kindS sc y = some .local) && py.line == pos.line && !(s.names.any fun (n, k) => n == y && (k == .local || k == .cell))
  | _, _ => false
/-- a sign is taken out of a text: x = t[f(a, len(t))], then t = t.replace(x, "") -/
def cTake (ci : CI) (sc : Scope) (N : List Str) (n : Nat) (s : PySem.Stmt) (r : List PySem.Stmt) : Option S1 := match s, r with
  | .Assign [.Name x _] (.Subscript (.Name t _) (.Call (.Name f _) [a, .Call (.Name l _) [.Name t2 _] [] _] [] _) _) _,
    .Assign [.Name t3 _] (.Call (.Attribute (.Name t4 _) m apos) [.Name x2 _, .Constant (.str z) _ _] [] cpos) _ :: _ =>
    if t2 = t ∧ t3 = t ∧ t4 = t ∧ x2 = x ∧ x ≠ t ∧ m = ("replace" : Str) ∧ z = ("" : Str) ∧ l = ("len" : Str) ∧ (apos.endLine == cpos.line) = true ∧ isStar a = false
      ∧ kindS sc x = some .local ∧ kindS sc t = some .local ∧ isGlo sc f = true ∧ isGlo sc l = true ∧ notDbg f = true ∧ notDbg x = true ∧ notDbg t = true then
      match ixS N x, ixS N t, findN ci.fns f, cE ci sc N n a with
      | some i, some j, some f', some a' => some (.take i j f' a')
      | _, _, _, _ => none
    else none
  | _, _ => none
mutual
def cS (ci : CI) (sc : Scope) (N : List Str) : Nat → PySem.Stmt → Option S1
  | 0, _ => none
  | n + 1, st => match st with
    | .Assign [.Subscript o i _] e _ => if isSlc i || isCmp e then none else match cE ci sc N n e, cE ci sc N n o, cE ci sc N n i with
      | some e', some o', some i' => some (.setI o' i' e')
      | _, _, _ => none
    | .Assign [tg] e _ => if isTupE tg && isTupE e then none else match cTg sc N n tg, cE ci sc N n e with
      | some tg', some e' => some (.asg tg' (if isMut ci tg then (if ci.deep && !isCmp e then cellD e' else asCell e') else e'))
      | _, _ => none
    | .Expr e _ => if isCmp e then none else match cE ci sc N n e with
      | some e' => some (.expr e')
      | none => none
    | .Return (some e) _ => match cE ci sc N n e with
      | some e' => some (.ret (if ci.retC then (if ci.deep then cellD e' else asCell e') else e'))
      | none => none
    | .Return none _ => some .retN
    | .Pass _ => some .pass
    | .Raise (some (.Call (.Name x _) [.Constant (.str _) _ _] [] _)) none _ => if !notDbg x || !isGlo sc x then none else match findN ci.excs x with
      | some c => if c ∈ inited then none else some (.raise c)
      | none => none
    | .Raise (some (.Call (.Name x _) [e] [] _)) none _ => if !notDbg x || !isGlo sc x || isStar e then none else match findN ci.excs x, cE ci sc N n e with
      | some c, some e' => if c ∈ rowed then some (.raiseF c "row" e') else none
      | _, _ => none
    | .Try body [.ExceptHandler (some (.Name x _)) (some e) [.Assign [.Name kv _] (.Name e2 _) _] _] [] [] _ =>
      if e2 = e ∧ e ≠ kv ∧ kindS sc e = some .local ∧ kindS sc kv = some .local ∧ isGlo sc x = true ∧ notDbg x = true ∧ notDbg e = true then
        match ixS N e, ixS N kv, findN ci.excs x, cSs ci sc N n body with
        | some i, some j, some d, some b => some (.tryK i j b (takenBy ci d))
        | _, _, _, _ => none
      else none
    | .AugAssign (.Name x _) .Add e _ => if isLoc sc x then match ixS N x, cE ci sc N n e with
        | some i, some e' => some (.aug i e')
        | _, _ => none
      else none
    | .While c b [] _ => match cE ci sc N n c, cSs ci sc N n b with
      | some c', some b' => some (.whil c' b')
      | _, _ => none
    | .If c a b _ => match cE ci sc N n c, cSs ci sc N n a, cSs ci sc N n b with
      | some c', some a', some b' => some (.ife c' a' b')
      | _, _, _ => none
    | .For tg it body [] _ => if isSet it then none else match cTg sc N n tg, cI ci sc N n it tg, cSs ci sc N n body with
      | some tg', some it', some b' => some (.for tg' it' b')
      | _, _, _ => none
    | _ => none
def cSs (ci : CI) (sc : Scope) (N : List Str) : Nat → List PySem.Stmt → Option Ss
  | 0, _ => none
  | _ + 1, [] => some .nil
  | n + 1, s :: r => match cTake ci sc N n s r with
    | some s' => match cSs ci sc N n (r.drop 1) with
      | some r' => some (.cons s' r')
      | none => some (.cons .never .nil)
    | none => match cS ci sc N n s, cSs ci sc N n r with
      | some s', some r' => some (.cons s' r')
      | _, _ => some (.cons .never .nil)
end
/-- a def: its parameters' names -/
def parsOf (a : Arguments) : Option (List Str) := match a with
  | ⟨[], as, none, [], [], none, []⟩ => some (as.map (·.arg))
  | _ => none
def depthC : Nat := 60
def cFn (ci : CI) (N : List Str) (st : PySem.Stmt) : Option Fn := match st with
  | .FunctionDef _ args body [] none [] scope none _ _ => match parsOf args, cSs ci scope N depthC body with
    | some ps, some b => some ⟨ps.length, N.length, b⟩
    | _, _ => none
  | _ => none
end Kp
/-! How the little language's data stand in the model's heap. -/
namespace Kp
open PySem L2

/-- a live cell -/
def live (S : Sto) (n : Nat) : Prop := ∃ c, S[n]? = some c ∧ c ≠ .gone
mutual
def RT (K : PySem.W.Frag) (G : Hp) : T → V → Prop
  | .non, v => v = .non
  | .bl b, v => v = .bl b
  | .int i, v => v = .int i
  | .str s, v => v = .str (stC s)
  | .tup xs, v => ∃ a vs, v = .ref a ∧ SqT K G a vs ∧ RTs K G xs vs
  | .lst xs, v => ∃ a vs, v = .ref a ∧ G a = some (.lst vs) ∧ RTs K G xs vs
  | .dct ks xs, v => ∃ a vs, v = .ref a ∧ G a = some (.dK ((ks.map fun c => (Sum.inr (stC c) : Key)).zip vs)) ∧ ks.length = vs.length ∧ RTs K G xs vs
  | .scr ns, v => ∃ a, v = .ref a ∧ SqL K G a (ns.map V.int)
def RTs (K : PySem.W.Frag) (G : Hp) : List T → List V → Prop
  | [], vs => vs = []
  | x :: xs, vs => ∃ v r, vs = v :: r ∧ RT K G x v ∧ RTs K G xs r
end
/-- what the config tells: the heap of what stays, the cells' addresses, the store -/
structure Cfg where
  G : Hp
  ρ : List Addr
  S : Sto
/-- the very object at its place -/
def veryObj (a : Addr) (oe : Obj) : HO := .ext fun h => h.get? a = some oe
/-- an error's fields -/
def ExcG (K : PySem.W.Frag) (G : Hp) (dd : Option Addr) (fs : List (String × T)) : Prop :=
  (fs = [] ∧ dd = none) ∨ (fs ≠ [] ∧ ∃ d vs, dd = some d ∧ G d = some (.xd vs) ∧ ∀ f x, fs.lookup f = some x → ∃ v, vs.lookup (Str.ofString f) = some v ∧ RT K G x v)
/-- a caught error -/
def ExcO (K : PySem.W.Frag) (G : Hp) (cl : String) (fs : List (String × T)) (v : V) : Prop := ∃ a oe C vs, v = .ref a ∧ G a = some (veryObj a oe) ∧ oe.cls = .ref C ∧ PySem.W.nsIn K mainGlobals (Str.ofString cl) = some (some (.ref C)) ∧ oe.data = .fields vs ∧ ExcG K G oe.dict fs
mutual
def RD (K : PySem.W.Frag) (c : Cfg) : D → V → Prop
  | .t x, v => RT K c.G x v
  | .ref n, v => ∃ a, v = .ref a ∧ c.ρ[n]? = some a
  | .tp ds, v => ∃ a vs, v = .ref a ∧ SqT K c.G a vs ∧ RDs K c ds vs
  | .exc cl fs, v => ExcO K c.G cl fs v
def RDs (K : PySem.W.Frag) (c : Cfg) : List D → List V → Prop
  | [], vs => vs = []
  | d :: ds, vs => ∃ v r, vs = v :: r ∧ RD K c d v ∧ RDs K c ds r
end
/-- a cell at its address -/
def RC (K : PySem.W.Frag) (c : Cfg) (H : Hp) (a : Addr) : Cell → Prop
  | .lst xs => ∃ vs, H a = some (.lst vs) ∧ RTs K c.G xs vs
  | .lsr ds => ∃ vs, H a = some (.lst vs) ∧ RDs K c ds vs
  | .dcr _ _ => False
  | .ins _ _ => False
  | .gone => True
structure Rel (K : PySem.W.Frag) (c : Cfg) (H : Hp) : Prop where
  sub : ∀ a o, c.G a = some o → H a = some o
  len : c.ρ.length = c.S.length
  cell : ∀ (n : Nat) x a, c.S[n]? = some x → c.ρ[n]? = some a → x ≠ .gone → c.G a = none ∧ RC K c H a x
  inj : ∀ (n m : Nat) a, c.ρ[n]? = some a → c.ρ[m]? = some a → live c.S n → live c.S m → n = m
/-- from one state to a later one -/
structure Stp (c : Cfg) (H : Hp) (c' : Cfg) (H' : Hp) : Prop where
  ext : ∀ a o, c.G a = some o → c'.G a = some o
  new : ∀ a o, c'.G a = some o → c.G a = some o ∨ H a = none ∨ ∃ n : Nat, c.ρ[n]? = some a ∧ live c.S n
  pre : ∃ more, c'.ρ = c.ρ ++ more
  dom : ∀ a o, H a = some o → ∃ o', H' a = some o'
  frm : ∀ a o, H a = some o → (∀ n : Nat, c.ρ[n]? = some a → ¬ live c.S n) → H' a = some o
  fresh : ∀ (n : Nat) a, c.ρ.length ≤ n → c'.ρ[n]? = some a → H a = none
  liv : ∀ n, n < c.ρ.length → live c'.S n → live c.S n

section
variable {K : PySem.W.Frag} {c c1 c2 : Cfg} {H H1 H2 : Hp} {G G' : Hp}
theorem sqT_mono {a : Addr} {xs : List V} (e : ∀ a o, G a = some o → G' a = some o) (h : SqT K G a xs) : SqT K G' a xs := by
  rcases h with (h | ⟨o, h⟩) | h
  · exact .inl (.inl (e _ _ h))
  · exact .inl (.inr ⟨o, e _ _ h⟩)
  · exact .inr h
theorem sqL_mono {a : Addr} {xs : List V} (e : ∀ a o, G a = some o → G' a = some o) (h : SqL K G a xs) : SqL K G' a xs := by
  rcases h with (h | ⟨o, h⟩) | h
  · exact .inl (.inl (e _ _ h))
  · exact .inl (.inr ⟨o, e _ _ h⟩)
  · exact .inr h
mutual
theorem RT.mono (e : ∀ a o, G a = some o → G' a = some o) : ∀ (x : T) {v : V}, RT K G x v → RT K G' x v
  | .non, _, h => h
  | .bl _, _, h => h
  | .int _, _, h => h
  | .str _, _, h => h
  | .tup xs, v, h => by
    unfold RT at h ⊢
    obtain ⟨a, vs, h1, h2, h3⟩ := h
    exact ⟨a, vs, h1, sqT_mono e h2, RTs.mono e xs h3⟩
  | .lst xs, v, h => by
    unfold RT at h ⊢
    obtain ⟨a, vs, h1, h2, h3⟩ := h
    exact ⟨a, vs, h1, e _ _ h2, RTs.mono e xs h3⟩
  | .dct ks xs, v, h => by
    unfold RT at h ⊢
    obtain ⟨a, vs, h1, h2, h3, h4⟩ := h
    exact ⟨a, vs, h1, e _ _ h2, h3, RTs.mono e xs h4⟩
  | .scr ns, v, h => by
    unfold RT at h ⊢
    obtain ⟨a, h1, h2⟩ := h
    exact ⟨a, h1, sqL_mono e h2⟩
theorem RTs.mono (e : ∀ a o, G a = some o → G' a = some o) : ∀ (xs : List T) {vs : List V}, RTs K G xs vs → RTs K G' xs vs
  | [], _, h => by
    unfold RTs at h ⊢
    exact h
  | x :: xs, vs, h => by
    unfold RTs at h ⊢
    obtain ⟨v, r, h1, h2, h3⟩ := h
    exact ⟨v, r, h1, RT.mono e x h2, RTs.mono e xs h3⟩
end
theorem ExcG.mono (e : ∀ a o, G a = some o → G' a = some o) {dd : Option Addr} {fs : List (String × T)} (h : ExcG K G dd fs) : ExcG K G' dd fs := by
  rcases h with h | ⟨h0, d, vs, h1, h2, h3⟩
  · exact .inl h
  · refine .inr ⟨h0, d, vs, h1, e _ _ h2, fun f x hx => ?_⟩
    obtain ⟨v, q1, q2⟩ := h3 f x hx
    exact ⟨v, q1, RT.mono e x q2⟩
theorem ExcO.mono (e : ∀ a o, G a = some o → G' a = some o) {cl : String} {fs : List (String × T)} {v : V} (h : ExcO K G cl fs v) : ExcO K G' cl fs v := by
  obtain ⟨a, oe, C, vs, h1, h2, h3, h4, h5, h6⟩ := h
  exact ⟨a, oe, C, vs, h1, e _ _ h2, h3, h4, h5, h6.mono e⟩
theorem pre_get {ρ ρ' more : List Addr} {n : Nat} {a : Addr} (e : ρ' = ρ ++ more) (h : ρ[n]? = some a) : ρ'[n]? = some a := by
  rw [e, List.getElem?_append_left (List.getElem?_eq_some_iff.mp h).1]
  exact h
mutual
theorem RD.mono' (e : ∀ a o, c.G a = some o → c1.G a = some o) (p : ∃ more, c1.ρ = c.ρ ++ more) : ∀ (d : D) {v : V}, RD K c d v → RD K c1 d v
  | .t x, v, h => by
    unfold RD at h ⊢
    exact RT.mono e x h
  | .ref n, v, h => by
    unfold RD at h ⊢
    obtain ⟨a, h1, h2⟩ := h
    obtain ⟨more, q⟩ := p
    exact ⟨a, h1, pre_get q h2⟩
  | .tp ds, v, h => by
    unfold RD at h ⊢
    obtain ⟨a, vs, h1, h2, h3⟩ := h
    exact ⟨a, vs, h1, sqT_mono e h2, RDs.mono' e p ds h3⟩
  | .exc _ _, v, h => by
    unfold RD at h ⊢
    exact h.mono e
theorem RDs.mono' (e : ∀ a o, c.G a = some o → c1.G a = some o) (p : ∃ more, c1.ρ = c.ρ ++ more) : ∀ (ds : List D) {vs : List V}, RDs K c ds vs → RDs K c1 ds vs
  | [], _, h => by
    unfold RDs at h ⊢
    exact h
  | d :: ds, vs, h => by
    unfold RDs at h ⊢
    obtain ⟨v, r, h1, h2, h3⟩ := h
    exact ⟨v, r, h1, RD.mono' e p d h2, RDs.mono' e p ds h3⟩
end
theorem RD.mono (s : Stp c H c1 H1) {d : D} {v : V} (h : RD K c d v) : RD K c1 d v := RD.mono' s.ext s.pre d h
theorem RDs.mono (s : Stp c H c1 H1) {ds : List D} {vs : List V} (h : RDs K c ds vs) : RDs K c1 ds vs := RDs.mono' s.ext s.pre ds h
theorem Stp.refl (H : Hp) (l : c.ρ.length = c.S.length) : Stp c H c H where
  ext := fun _ _ h => h
  new := fun _ _ h => .inl h
  pre := ⟨[], (List.append_nil _).symm⟩
  dom := fun _ o h => ⟨o, h⟩
  frm := fun _ _ h _ => h
  fresh := fun n a h e => by
    have := (List.getElem?_eq_some_iff.mp e).1
    omega
  liv := fun _ _ h => h
theorem Stp.len_le (s : Stp c H c1 H1) : c.ρ.length ≤ c1.ρ.length := by
  obtain ⟨m, e⟩ := s.pre
  rw [e, List.length_append]
  omega
theorem Stp.get (s : Stp c H c1 H1) {n : Nat} {a : Addr} (h : c.ρ[n]? = some a) : c1.ρ[n]? = some a := by
  obtain ⟨m, e⟩ := s.pre
  exact pre_get e h
theorem Stp.back (s : Stp c H c1 H1) {n : Nat} {a : Addr} (h : c1.ρ[n]? = some a) (hn : n < c.ρ.length) : c.ρ[n]? = some a := by
  obtain ⟨m, e⟩ := s.pre
  rw [e, List.getElem?_append_left hn] at h
  exact h
theorem Stp.trans (s : Stp c H c1 H1) (t : Stp c1 H1 c2 H2) : Stp c H c2 H2 where
  ext := fun a o h => t.ext a o (s.ext a o h)
  new := fun a o h => by
    rcases t.new a o h with h1 | h1 | ⟨n, h1, h2⟩
    · exact s.new a o h1
    · cases e : H a with
      | none => exact .inr (.inl rfl)
      | some u =>
        by_cases q : ∃ n : Nat, c.ρ[n]? = some a ∧ live c.S n
        · exact .inr (.inr q)
        · have z := s.frm a u e fun n h3 h4 => q ⟨n, h3, h4⟩
          rw [h1] at z
          cases z
    · by_cases hn : n < c.ρ.length
      · exact .inr (.inr ⟨n, s.back h1 hn, s.liv n hn h2⟩)
      · exact .inr (.inl (s.fresh n a (by omega) h1))
  pre := by
    obtain ⟨m1, e1⟩ := s.pre
    obtain ⟨m2, e2⟩ := t.pre
    exact ⟨m1 ++ m2, by rw [e2, e1, List.append_assoc]⟩
  dom := fun a o h => by
    obtain ⟨o1, h1⟩ := s.dom a o h
    exact t.dom a o1 h1
  frm := fun a o h hn => t.frm a o (s.frm a o h hn) fun n h1 h2 => by
    by_cases hl : n < c.ρ.length
    · exact hn n (s.back h1 hl) (s.liv n hl h2)
    · have z := s.fresh n a (by omega) h1
      rw [h] at z
      cases z
  fresh := fun n a hn e => by
    by_cases hl : n < c1.ρ.length
    · exact s.fresh n a hn (t.back e hl)
    · have z := t.fresh n a (by omega) e
      cases e2 : H a with
      | none => rfl
      | some u =>
        obtain ⟨o', z2⟩ := s.dom a u e2
        rw [z] at z2
        cases z2
  liv := fun n hn h => s.liv n hn (t.liv n (Nat.lt_of_lt_of_le hn s.len_le) h)
end
end Kp
/-! What an evaluation promises of the model's run. -/
namespace Kp
open PySem L2

/-- an error as it lies: its class at ca, its dict -/
def ExcAt (K : PySem.W.Frag) (c : Cfg) (H : Hp) (dd : Option Addr) (fs : List (String × T)) : Prop := ExcG K c.G dd fs
/-- the promise -/
def PR {α β : Type} (K : PySem.W.Frag) (mg : Str → Option Value) (W : WX) (σ : L2.St) (RA : Cfg → α → β → Prop) (c : Cfg) (H : Hp) (r : R α) (Q : β → Hp → Prop) : Prop := match r with
  | .stuck => False
  | .ok a S' => ∀ b c' H', c'.S = S' → Rel K c' H' → Stp c H c' H' → RA c' a b → Q b H'
  | .exc cl fs S' => ∀ ca dd c' H', c'.S = S' → Rel K c' H' → Stp c H c' H' → mg (Str.ofString cl) = some (.ref ca) → ExcAt K c' H' dd fs → W (.ref ca) dd σ H'
section
variable {α β γ δ : Type} {K : PySem.W.Frag} {mg : Str → Option Value} {W : WX} {σ : L2.St} {RA : Cfg → α → β → Prop} {RB : Cfg → γ → δ → Prop} {c : Cfg} {H : Hp}
theorem PR.mono {r : R α} {Q Q' : β → Hp → Prop} (h : PR K mg W σ RA c H r Q) (f : ∀ b H', Q b H' → Q' b H') : PR K mg W σ RA c H r Q' := by
  unfold PR at h ⊢
  cases r with
  | stuck => exact h
  | ok a S' => exact fun b c' H' e x y z => f _ _ (h b c' H' e x y z)
  | exc cl fs S' => exact h
/-- behind a first part, the rest -/
theorem PR.bind {r : R α} {f : α → Sto → R γ} {Q : δ → Hp → Prop} (h : PR K mg W σ RB c H (r.bind f) Q) :
    PR K mg W σ RA c H r fun b H1 => ∃ c1 a, Rel K c1 H1 ∧ Stp c H c1 H1 ∧ RA c1 a b ∧ PR K mg W σ RB c1 H1 (f a c1.S) Q := by
  cases r with
  | stuck => exact h
  | ok a S' =>
    intro b c1 H1 e1 r1 s1 q
    subst e1
    refine ⟨c1, a, r1, s1, q, ?_⟩
    have h' : PR K mg W σ RB c H (f a c1.S) Q := h
    unfold PR at h' ⊢
    generalize f a c1.S = z at h'
    cases z with
    | stuck => exact h'
    | ok x S'' => exact fun b2 c' H' e x y z => h' b2 c' H' e x (s1.trans y) z
    | exc cl fs S'' => exact fun ca dd c' H' e x y z w => h' ca dd c' H' e x (s1.trans y) z w
  | exc cl fs S' => exact h
/-- behind a first part whose answer is known -/
theorem PR.bindE {r : R α} {f : α → Sto → R γ} {Q : δ → Hp → Prop} (h : PR K mg W σ RB c H (r.bind f) Q) :
    PR K mg W σ RA c H r fun b H1 => ∃ c1 a, r = .ok a c1.S ∧ Rel K c1 H1 ∧ Stp c H c1 H1 ∧ RA c1 a b ∧ PR K mg W σ RB c1 H1 (f a c1.S) Q := by
  cases r with
  | stuck => exact h
  | ok a S' =>
    intro b c1 H1 e1 r1 s1 q
    subst e1
    refine ⟨c1, a, rfl, r1, s1, q, ?_⟩
    have h' : PR K mg W σ RB c H (f a c1.S) Q := h
    unfold PR at h' ⊢
    generalize f a c1.S = z at h'
    cases z with
    | stuck => exact h'
    | ok x S'' => exact fun b2 c' H' e x y z => h' b2 c' H' e x (s1.trans y) z
    | exc cl fs S'' => exact fun ca dd c' H' e x y z w => h' ca dd c' H' e x (s1.trans y) z w
  | exc cl fs S' => exact h
/-- an answer at once -/
theorem PR.now {a : α} {b : β} {Q : β → Hp → Prop} (h : PR K mg W σ RA c H (.ok a c.S) Q) (r : Rel K c H) (q : RA c a b) : Q b H := h b c H rfl r (Stp.refl H r.len) q
theorem PR.opt {o : Option α} {b : β} {Q : β → Hp → Prop} (h : PR K mg W σ RA c H (opt o c.S) Q) : ∃ a, o = some a ∧ PR K mg W σ RA c H (.ok a c.S) Q := by
  cases o with
  | none => exact h.elim
  | some a => exact ⟨a, rfl, h⟩
theorem PR.not_stuck {Q : β → Hp → Prop} (h : PR K mg W σ RA c H (.stuck : R α) Q) : False := h
end
/-- the slots -/
structure EnvR (K : PySem.W.Frag) (c : Cfg) (σ : L2.St) (env : Env) : Prop where
  len : env.length = σ.length
  get : ∀ (i : Nat) d, env[i]? = some (some d) → ∃ v, σ[i]? = some (some v) ∧ RD K c d v
theorem EnvR.mono {K : PySem.W.Frag} {c c1 : Cfg} {H H1 : Hp} {σ : L2.St} {env : Env} (e : EnvR K c σ env) (s : Stp c H c1 H1) : EnvR K c1 σ env := ⟨e.len, fun i d h => by
  obtain ⟨v, h1, h2⟩ := e.get i d h
  exact ⟨v, h1, h2.mono s⟩⟩
abbrev rD (K : PySem.W.Frag) : Cfg → D → V → Prop := fun c d v => RD K c d v
abbrev rDs (K : PySem.W.Frag) : Cfg → List D → List V → Prop := fun c d v => RDs K c d v
abbrev rB : Cfg → Bool → Bool → Prop := fun _ a b => a = b
abbrev rO : Cfg → Option Int → Option Int → Prop := fun _ a b => a = b
section
variable (K : PySem.W.Frag) (mg : Str → Option Value) (Φ : Kp.Or) (W : WX)
/-- the readings -/
def tE (e : E) : TE := fun σ H Q => ∃ env c, Rel K c H ∧ EnvR K c σ env ∧ PR K mg W σ (rD K) c H (evE Φ e env c.S) Q
def tT (e : E) : TT := fun σ H Q => ∃ env c, Rel K c H ∧ EnvR K c σ env ∧ PR K mg W σ rB c H (evT Φ e env c.S) Q
def tEs (es : Es) : TA := fun σ H Q => ∃ env c, Rel K c H ∧ EnvR K c σ env ∧ PR K mg W σ (rDs K) c H (evEs Φ es env c.S) Q
def tO (e : Eo) : TO := fun σ H Q => ∃ env c, Rel K c H ∧ EnvR K c σ env ∧ PR K mg W σ rO c H (evO Φ e env c.S) Q
end
theorem impPE {X : Cx} {e : PySem.Expr} {t t' : TE} (h : PE X e t') (i : ∀ σ H Q, t σ H Q → t' σ H Q) : PE X e t := ⟨fun pins s σ H Q I q => h.run pins s σ H Q I (i σ H Q q)⟩
theorem impPT {X : Cx} {e : PySem.Expr} {t t' : TT} (h : PT X e t') (i : ∀ σ H Q, t σ H Q → t' σ H Q) : PT X e t := ⟨fun pins s σ H Q I q => h.run pins s σ H Q I (i σ H Q q)⟩
theorem impPW {X : Cx} {e : PySem.Expr} {t t' : TT} (h : PW X e t') (i : ∀ σ H Q, t σ H Q → t' σ H Q) : PW X e t := ⟨fun wh pins s σ H Q I q => h.run wh pins s σ H Q I (i σ H Q q)⟩
theorem impPA {X : Cx} {es : List PySem.Expr} {t t' : TA} (h : PA X es t') (i : ∀ σ H Q, t σ H Q → t' σ H Q) : PA X es t := ⟨fun pos pins s σ H Q I q => h.run pos pins s σ H Q I (i σ H Q q)⟩
theorem impPI {X : Cx} {tg e : PySem.Expr} {t t' : TI} (h : PI X tg e t') (i : ∀ σ H Q, t σ H Q → t' σ H Q) : PI X tg e t := ⟨fun pins s σ H Q I q => h.run pins s σ H Q I (i σ H Q q)⟩
theorem orPI {X : Cx} {tg e : PySem.Expr} {t t' : TI} (h : PI X tg e t) (h' : PI X tg e t') : PI X tg e (fun σ H R => t σ H R ∨ t' σ H R) := ⟨fun pins s σ H Q I q => by
  rcases q with q | q
  · exact h.run pins s σ H Q I q
  · exact h'.run pins s σ H Q I q⟩
/-- the names that a context may store -/
structure TX (X : Cx) (sc : Scope) (N : List Str) : Prop where
  hN : X.N = N
  nd : X.N.Nodup
  calm : X.calm = true
  loc : ∀ x, sc.names.lookup x = some .local → X.env.scope.names.lookup x = some .local
  cell : ∀ x, sc.names.lookup x = some .cell → X.env.scope.names.lookup x = some .cell ∧ X.fn x = true
/-- what holds of a context: a def's body, a comprehension's block -/
structure CC (X : Cx) (sc : Scope) (N : List Str) (k : Nat) (W : WX) : Prop where
  scope : X.env.scope = sc
  hN : X.N = N
  nd : X.N.Nodup
  calm : X.calm = true
  room : Room k X.A
  gd : X.A.guards = some []
  takes : Takes X W
end Kp
/-! Values: what the little language's operations say of the model's. -/
namespace Kp
open PySem L2

/-! ### texts -/
theorem stC_len (s : Cs) : (stC s).length = s.length := by
  show (s.map Char.toNat).toArray.size = s.length
  simp
theorem stC_cps (s : Cs) : (stC s).cps.toList = s.map Char.toNat := by
  unfold stC
  simp
theorem stC_app (a b : Cs) : stC a ++ stC b = stC (a ++ b) := by
  show Str.mk ((a.map Char.toNat).toArray ++ (b.map Char.toNat).toArray) = Str.mk (((a ++ b).map Char.toNat).toArray)
  simp
theorem toNat_inj {a b : Char} (h : a.toNat = b.toNat) : a = b := by
  apply Char.ext
  apply UInt32.toNat_inj.mp
  exact h
theorem map_toNat_inj : ∀ {a b : Cs}, a.map Char.toNat = b.map Char.toNat → a = b
  | [], [], _ => rfl
  | [], _ :: _, h => by simp at h
  | _ :: _, [], h => by simp at h
  | x :: a, y :: b, h => by
    simp only [List.map_cons, List.cons.injEq] at h
    rw [toNat_inj h.1, map_toNat_inj h.2]
theorem stC_inj {a b : Cs} (h : stC a = stC b) : a = b := by
  have e := congrArg (fun z : Str => z.cps.toList) h
  simp only [stC_cps] at e
  exact map_toNat_inj e
theorem stC_sign (x : Char) : stC [x] = ⟨#[x.toNat]⟩ := rfl
theorem stC_eq (a b : Cs) : (stC a == stC b) = (a == b) := by
  by_cases h : a = b
  · subst h; simp
  · have h2 : ¬ stC a = stC b := fun e => h (stC_inj e)
    rw [beq_eq_false_iff_ne.mpr h, beq_eq_false_iff_ne.mpr h2]
theorem ltS_eq : ∀ (a b : Cs), ltS a b = decide (a.map Char.toNat < b.map Char.toNat)
  | [], [] => by simp [ltS]
  | [], _ :: _ => by simp [ltS]
  | _ :: _, [] => by simp [ltS]
  | x :: a, y :: b => by
    unfold ltS
    rw [ltS_eq a b]
    by_cases h : x.toNat = y.toNat
    · rw [if_pos h]
      simp [List.map_cons, List.cons_lt_cons_iff, h]
    · rw [if_neg h]
      simp [List.map_cons, List.cons_lt_cons_iff, h]
theorem strOk_stC (s : Cs) : PyData.strOk (stC s) = true := by
  unfold PyData.strOk stC
  simp only [Array.all_eq_true']
  intro i hi
  simp only [List.mem_toArray, List.mem_map] at hi
  obtain ⟨x, _, rfl⟩ := hi
  have := x.valid
  simp only [UInt32.isValidChar, Nat.isValidChar] at this
  show decide (x.toNat < 0x110000) = true
  have e : x.toNat = x.val.toNat := rfl
  rw [e]
  exact decide_eq_true (by omega)

/-! ### kinds of values -/
section
variable {K : PySem.W.Frag} {c : Cfg} {H : Hp} {d : D} {v : V} {G : Hp}
theorem asInt_eq {i : Int} (h : asInt d = some i) : d = .t (.int i) := by
  unfold asInt at h
  split at h
  · cases h; rfl
  · cases h
theorem asStr_eq {s : Cs} (h : asStr d = some s) : d = .t (.str s) := by
  unfold asStr at h
  split at h
  · cases h; rfl
  · cases h
theorem asBl_eq {b : Bool} (h : asBl d = some b) : d = .t (.bl b) := by
  unfold asBl at h
  split at h
  · cases h; rfl
  · cases h
theorem asScr_eq {ns : List Int} (h : asScr d = some ns) : d = .t (.scr ns) := by
  unfold asScr at h
  split at h
  · cases h; rfl
  · cases h
theorem asRef_eq {n : Nat} (h : asRef d = some n) : d = .ref n := by
  unfold asRef at h
  split at h
  · cases h; rfl
  · cases h
theorem asTree_eq {x : T} (h : asTree d = some x) : d = .t x := by
  unfold asTree at h
  split at h
  · cases h; rfl
  · cases h
theorem RD.t {x : T} (r : RD K c (.t x) v) : RT K c.G x v := by
  unfold RD at r
  exact r
theorem RD.int {i : Int} (r : RD K c d v) (h : asInt d = some i) : v = .int i := by
  cases asInt_eq h
  have q := r.t
  unfold RT at q
  exact q
theorem RD.str {s : Cs} (r : RD K c d v) (h : asStr d = some s) : v = .str (stC s) := by
  cases asStr_eq h
  have q := r.t
  unfold RT at q
  exact q
theorem RD.bl {b : Bool} (r : RD K c d v) (h : asBl d = some b) : v = .bl b := by
  cases asBl_eq h
  have q := r.t
  unfold RT at q
  exact q
theorem RD.scr {ns : List Int} (rel : Rel K c H) (r : RD K c d v) (h : asScr d = some ns) : ∃ a, v = .ref a ∧ SqL K H a (ns.map V.int) := by
  cases asScr_eq h
  have q := r.t
  unfold RT at q
  obtain ⟨a, h1, h2⟩ := q
  exact ⟨a, h1, sqL_mono rel.sub h2⟩
theorem RD.mkInt (i : Int) : RD K c (.t (.int i)) (.int i) := by
  unfold RD RT
  rfl
theorem RD.mkBl (b : Bool) : RD K c (.t (.bl b)) (.bl b) := by
  unfold RD RT
  rfl
theorem RD.mkStr (s : Cs) : RD K c (.t (.str s)) (.str (stC s)) := by
  unfold RD RT
  rfl
theorem RD.mkNon : RD K c (.t .non) .non := by
  unfold RD RT
  rfl
theorem isNon_eq (h : isNon d = true) : d = .t .non := by
  unfold isNon at h
  split at h
  · rfl
  · cases h
theorem RD.isNon (r : RD K c d v) : decide (v = .non) = isNon d := by
  cases d with
  | t x =>
    have q := r.t
    cases x with
    | non => unfold RT at q; subst q; rfl
    | bl b => unfold RT at q; subst q; rfl
    | int i => unfold RT at q; subst q; rfl
    | str s => unfold RT at q; subst q; rfl
    | tup xs => unfold RT at q; obtain ⟨a, vs, rfl, _⟩ := q; rfl
    | lst xs => unfold RT at q; obtain ⟨a, vs, rfl, _⟩ := q; rfl
    | dct ks xs => unfold RT at q; obtain ⟨a, vs, rfl, _⟩ := q; rfl
    | scr ns => unfold RT at q; obtain ⟨a, rfl, _⟩ := q; rfl
  | ref n => unfold RD at r; obtain ⟨a, rfl, _⟩ := r; rfl
  | tp ds => unfold RD at r; obtain ⟨a, vs, rfl, _⟩ := r; rfl
  | exc cl fs => unfold RD at r; obtain ⟨a, _, _, _, rfl, _⟩ := r; rfl
theorem RTs_RDs : ∀ {xs : List T} {vs : List V}, RTs K c.G xs vs → RDs K c (xs.map .t) vs
  | [], vs, h => by
    unfold RTs at h
    subst h
    unfold RDs
    rfl
  | x :: xs, vs, h => by
    unfold RTs at h
    obtain ⟨v, r, h1, h2, h3⟩ := h
    show RDs K c (.t x :: xs.map .t) vs
    unfold RDs
    exact ⟨v, r, h1, by unfold RD; exact h2, RTs_RDs h3⟩
theorem RDs_RTs : ∀ {xs : List T} {vs : List V}, RDs K c (xs.map .t) vs → RTs K c.G xs vs
  | [], vs, h => by
    unfold RTs
    unfold RDs at h
    exact h
  | x :: xs, vs, h => by
    have h' : RDs K c (.t x :: xs.map .t) vs := h
    unfold RDs at h'
    obtain ⟨v, r, h1, h2, h3⟩ := h'
    unfold RTs
    exact ⟨v, r, h1, h2.t, RDs_RTs h3⟩
theorem RDs.len : ∀ {ds : List D} {vs : List V}, RDs K c ds vs → vs.length = ds.length
  | [], vs, h => by
    unfold RDs at h
    subst h; rfl
  | d :: ds, vs, h => by
    unfold RDs at h
    obtain ⟨v, r, h1, h2, h3⟩ := h
    subst h1
    simp [RDs.len h3]
theorem RTs.len : ∀ {xs : List T} {vs : List V}, RTs K G xs vs → vs.length = xs.length
  | [], vs, h => by
    unfold RTs at h
    subst h; rfl
  | d :: ds, vs, h => by
    unfold RTs at h
    obtain ⟨v, r, h1, h2, h3⟩ := h
    subst h1
    simp [RTs.len h3]
theorem RDs.get : ∀ {ds : List D} {vs : List V} {i : Nat} {d : D}, RDs K c ds vs → ds[i]? = some d → ∃ v, vs[i]? = some v ∧ RD K c d v
  | [], _, _, _, _, h => by simp at h
  | d :: ds, vs, 0, e, h, q => by
    unfold RDs at h
    obtain ⟨v, r, rfl, h2, h3⟩ := h
    simp at q
    subst q
    exact ⟨v, rfl, h2⟩
  | d :: ds, vs, i + 1, e, h, q => by
    unfold RDs at h
    obtain ⟨v, r, rfl, h2, h3⟩ := h
    obtain ⟨w, h4, h5⟩ := RDs.get (i := i) h3 (by simpa using q)
    exact ⟨w, by simpa using h4, h5⟩
theorem RTs.app : ∀ {xs ys : List T} {vs ws : List V}, RTs K G xs vs → RTs K G ys ws → RTs K G (xs ++ ys) (vs ++ ws)
  | [], ys, vs, ws, h, q => by
    unfold RTs at h
    subst h
    exact q
  | x :: xs, ys, vs, ws, h, q => by
    unfold RTs at h
    obtain ⟨v, r, rfl, h2, h3⟩ := h
    show RTs K G (x :: (xs ++ ys)) (v :: (r ++ ws))
    unfold RTs
    exact ⟨v, r ++ ws, rfl, h2, RTs.app h3 q⟩
theorem RTs.one {x : T} {v : V} (h : RT K G x v) : RTs K G [x] [v] := by
  unfold RTs
  refine ⟨v, [], rfl, h, ?_⟩
  unfold RTs
  rfl
theorem RTs.take : ∀ {xs : List T} {vs : List V} (n : Nat), RTs K G xs vs → RTs K G (xs.take n) (vs.take n)
  | _, _, 0, h => by
    simp only [List.take_zero]
    unfold RTs
    rfl
  | [], vs, n + 1, h => by
    unfold RTs at h
    subst h
    simp only [List.take_nil]
    unfold RTs
    rfl
  | x :: xs, vs, n + 1, h => by
    unfold RTs at h
    obtain ⟨v, r, rfl, h2, h3⟩ := h
    simp only [List.take_succ_cons]
    unfold RTs
    exact ⟨v, _, rfl, h2, RTs.take n h3⟩
theorem RTs.drop : ∀ {xs : List T} {vs : List V} (n : Nat), RTs K G xs vs → RTs K G (xs.drop n) (vs.drop n)
  | _, _, 0, h => by simpa using h
  | [], vs, n + 1, h => by
    unfold RTs at h
    subst h
    simp only [List.drop_nil]
    unfold RTs
    rfl
  | x :: xs, vs, n + 1, h => by
    unfold RTs at h
    obtain ⟨v, r, rfl, h2, h3⟩ := h
    simp only [List.drop_succ_cons]
    exact RTs.drop n h3
theorem RTs.set : ∀ {xs : List T} {vs : List V} {x : T} {v : V} (n : Nat), RTs K G xs vs → RT K G x v → RTs K G (xs.set n x) (vs.set n v)
  | [], vs, x, v, n, h, q => by
    unfold RTs at h
    subst h
    simp only [List.set_nil]
    unfold RTs
    rfl
  | y :: xs, vs, x, v, 0, h, q => by
    unfold RTs at h
    obtain ⟨w, r, rfl, h2, h3⟩ := h
    simp only [List.set_cons_zero]
    unfold RTs
    exact ⟨_, _, rfl, q, h3⟩
  | y :: xs, vs, x, v, n + 1, h, q => by
    unfold RTs at h
    obtain ⟨w, r, rfl, h2, h3⟩ := h
    simp only [List.set_cons_succ]
    unfold RTs
    exact ⟨_, _, rfl, h2, RTs.set n h3 q⟩
theorem Rel.cellAt (rel : Rel K c H) {n : Nat} {x : Cell} {a : Addr} (h : c.S[n]? = some x) (h2 : c.ρ[n]? = some a) (h3 : x ≠ .gone) : c.G a = none ∧ RC K c H a x := rel.cell n x a h h2 h3
theorem RD.asL {xs : List T} (rel : Rel K c H) (r : RD K c d v) (h : asL c.S d = some xs) : ∃ a vs, v = .ref a ∧ H a = some (.lst vs) ∧ RTs K c.G xs vs := by
  unfold Kp.asL at h
  split at h
  · cases h
    have q := r.t
    unfold RT at q
    obtain ⟨a, vs, h1, h2, h3⟩ := q
    exact ⟨a, vs, h1, rel.sub _ _ h2, h3⟩
  · rename_i n
    split at h
    · rename_i ys e
      cases h
      unfold RD at r
      obtain ⟨a, h1, h2⟩ := r
      obtain ⟨_, q⟩ := rel.cellAt e h2 (by intro z; cases z)
      unfold RC at q
      obtain ⟨vs, h3, h4⟩ := q
      exact ⟨a, vs, h1, h3, h4⟩
    · cases h
  · cases h
theorem RD.lstOf {ds : List D} (rel : Rel K c H) (r : RD K c d v) (h : lstOf c.S d = some ds) : ∃ a vs, v = .ref a ∧ H a = some (.lst vs) ∧ RDs K c ds vs := by
  unfold Kp.lstOf at h
  split at h
  · cases h
    have q := r.t
    unfold RT at q
    obtain ⟨a, vs, h1, h2, h3⟩ := q
    exact ⟨a, vs, h1, rel.sub _ _ h2, RTs_RDs h3⟩
  · rename_i n
    unfold RD at r
    obtain ⟨a, h1, h2⟩ := r
    split at h
    · rename_i ys e
      cases h
      obtain ⟨_, q⟩ := rel.cellAt e h2 (by intro z; cases z)
      unfold RC at q
      obtain ⟨vs, h3, h4⟩ := q
      exact ⟨a, vs, h1, h3, RTs_RDs h4⟩
    · rename_i ys e
      cases h
      obtain ⟨_, q⟩ := rel.cellAt e h2 (by intro z; cases z)
      unfold RC at q
      obtain ⟨vs, h3, h4⟩ := q
      exact ⟨a, vs, h1, h3, h4⟩
    · cases h
  · cases h
theorem RD.tupOf {ds : List D} (rel : Rel K c H) (r : RD K c d v) (h : tupOf d = some ds) : ∃ a vs, v = .ref a ∧ SqT K H a vs ∧ RDs K c ds vs := by
  unfold Kp.tupOf at h
  split at h
  · cases h
    have q := r.t
    unfold RT at q
    obtain ⟨a, vs, h1, h2, h3⟩ := q
    exact ⟨a, vs, h1, sqT_mono rel.sub h2, RTs_RDs h3⟩
  · cases h
    unfold RD at r
    obtain ⟨a, vs, h1, h2, h3⟩ := r
    exact ⟨a, vs, h1, sqT_mono rel.sub h2, h3⟩
  · cases h
theorem RD.cellL {n : Nat} {xs : List T} (rel : Rel K c H) (r : RD K c d v) (h : cellL c.S d = some (n, xs)) :
    d = .ref n ∧ c.S[n]? = some (.lst xs) ∧ ∃ a vs, v = .ref a ∧ c.ρ[n]? = some a ∧ c.G a = none ∧ H a = some (.lst vs) ∧ RTs K c.G xs vs := by
  unfold Kp.cellL at h
  split at h
  · rename_i m e
    cases asRef_eq e
    split at h
    · rename_i ys e2
      cases h
      unfold RD at r
      obtain ⟨a, h1, h2⟩ := r
      obtain ⟨g, q⟩ := rel.cellAt e2 h2 (by intro z; cases z)
      unfold RC at q
      obtain ⟨vs, h3, h4⟩ := q
      exact ⟨rfl, e2, a, vs, h1, h2, g, h3, h4⟩
    · cases h
  · cases h
end
end Kp
set_option autoImplicit false
/-! Operations: the model's rules, taken together, and what the little language says of them. -/
namespace Kp
open PySem L2

/-! ### == -/
theorem plain_canLay : ∀ (n : Nat) (x : T), plainN n x = true → PyData.canLay0 (toPy x) = true ∧ PyData.depth (toPy x) ≤ n := by
  intro n
  induction n with
  | zero =>
    intro x h
    cases x <;> simp [plainN] at h <;> simp [toPy, PyData.canLay0, PyData.depth, strOk_stC]
  | succ n ih =>
    have all : ∀ xs : List T, xs.all (plainN n) = true → PyData.canLayAll0 (toPys xs) = true ∧ PyData.depthAll (toPys xs) ≤ n := by
      intro xs
      induction xs with
      | nil => intro _; simp [toPys, PyData.canLayAll0, PyData.depthAll]
      | cons x r ihr =>
        intro h
        simp only [List.all_cons, Bool.and_eq_true] at h
        obtain ⟨h1, h2⟩ := ih x h.1
        obtain ⟨h3, h4⟩ := ihr h.2
        simp only [toPys, PyData.canLayAll0, PyData.depthAll, h1, h3, Bool.and_self, true_and]
        omega
    intro x h
    cases x with
    | tup xs =>
      obtain ⟨h1, h2⟩ := all xs (by simpa [plainN] using h)
      simp only [toPy, PyData.canLay0, PyData.depth, h1, true_and]
      omega
    | lst xs =>
      obtain ⟨h1, h2⟩ := all xs (by simpa [plainN] using h)
      simp only [toPy, PyData.canLay0, PyData.depth, h1, true_and]
      omega
    | dct ks xs => simp [plainN] at h
    | scr ns => simp [plainN] at h
    | non => simp [toPy, PyData.canLay0, PyData.depth]
    | bl b => simp [toPy, PyData.canLay0, PyData.depth]
    | int i => simp [toPy, PyData.canLay0, PyData.depth]
    | str s => simp [toPy, PyData.canLay0, PyData.depth, strOk_stC]
theorem plain_shaped {x : T} (h : plain x = true) : SeqAt.shaped (toPy x) = true := by
  obtain ⟨h1, h2⟩ := plain_canLay 8 x h
  unfold SeqAt.shaped
  rw [h1, Bool.true_and]
  exact decide_eq_true (by omega)
mutual
theorem eqT_py : ∀ (x y : T), (∃ n, plainN n x = true) → (∃ n, plainN n y = true) → PyData.eqv (toPy x) (toPy y) = eqT x y
  | .non, y, _, hy => by cases y <;> first | rfl | (obtain ⟨n, h⟩ := hy; cases n <;> simp [plainN] at h)
  | .bl b, y, _, hy => by cases y <;> first | rfl | (cases b <;> rfl) | (obtain ⟨n, h⟩ := hy; cases n <;> simp [plainN] at h)
  | .int i, y, _, hy => by cases y <;> first | rfl | (obtain ⟨n, h⟩ := hy; cases n <;> simp [plainN] at h)
  | .str s, y, _, hy => by
    cases y with
    | str s2 =>
      show (stC s == stC s2) = (s == s2)
      exact stC_eq s s2
    | _ => first | rfl | (obtain ⟨n, h⟩ := hy; cases n <;> simp [plainN] at h)
  | .tup xs, y, hx, hy => by
    cases y with
    | tup ys =>
      show PyData.eqvAll (toPys xs) (toPys ys) = eqTs xs ys
      exact eqTs_py xs ys (by
        obtain ⟨n, h⟩ := hx
        cases n with
        | zero => simp [plainN] at h
        | succ n => exact ⟨n, by simpa [plainN] using h⟩) (by
        obtain ⟨n, h⟩ := hy
        cases n with
        | zero => simp [plainN] at h
        | succ n => exact ⟨n, by simpa [plainN] using h⟩)
    | _ => first | rfl | (obtain ⟨n, h⟩ := hy; cases n <;> simp [plainN] at h)
  | .lst xs, y, hx, hy => by
    cases y with
    | lst ys =>
      show PyData.eqvAll (toPys xs) (toPys ys) = eqTs xs ys
      exact eqTs_py xs ys (by
        obtain ⟨n, h⟩ := hx
        cases n with
        | zero => simp [plainN] at h
        | succ n => exact ⟨n, by simpa [plainN] using h⟩) (by
        obtain ⟨n, h⟩ := hy
        cases n with
        | zero => simp [plainN] at h
        | succ n => exact ⟨n, by simpa [plainN] using h⟩)
    | _ => first | rfl | (obtain ⟨n, h⟩ := hy; cases n <;> simp [plainN] at h)
  | .dct _ _, _, hx, _ => by
    obtain ⟨n, h⟩ := hx
    cases n <;> simp [plainN] at h
  | .scr _, _, hx, _ => by
    obtain ⟨n, h⟩ := hx
    cases n <;> simp [plainN] at h
theorem eqTs_py : ∀ (xs ys : List T), (∃ n, xs.all (plainN n) = true) → (∃ n, ys.all (plainN n) = true) → PyData.eqvAll (toPys xs) (toPys ys) = eqTs xs ys
  | [], [], _, _ => rfl
  | [], _ :: _, _, _ => rfl
  | _ :: _, [], _, _ => rfl
  | x :: xs, y :: ys, hx, hy => by
    obtain ⟨n, h⟩ := hx
    obtain ⟨m, q⟩ := hy
    simp only [List.all_cons, Bool.and_eq_true] at h q
    show (PyData.eqv (toPy x) (toPy y) && PyData.eqvAll (toPys xs) (toPys ys)) = (eqT x y && eqTs xs ys)
    rw [eqT_py x y ⟨n, h.1⟩ ⟨m, q.1⟩, eqTs_py xs ys ⟨n, h.2⟩ ⟨m, q.2⟩]
end
theorem eqT_plain {x y : T} (hx : plain x = true) (hy : plain y = true) : PyData.eqv (toPy x) (toPy y) = eqT x y := eqT_py x y ⟨8, hx⟩ ⟨8, hy⟩
section
variable {K : PySem.W.Frag} {c : Cfg} {H : Hp} {d e : D} {v u : V} {G : Hp}
mutual
theorem RT.dp (sub : ∀ a o, G a = some o → H a = some o) : ∀ (x : T) {v : V}, (∃ n, plainN n x = true) → RT K G x v → Dp K H v (toPy x)
  | .non, v, _, h => by unfold RT at h; subst h; exact .non
  | .bl b, v, _, h => by unfold RT at h; subst h; exact .bl b
  | .int i, v, _, h => by unfold RT at h; subst h; exact .int i
  | .str s, v, _, h => by unfold RT at h; subst h; exact .str _
  | .tup xs, v, hn, h => by
    unfold RT at h
    obtain ⟨a, vs, rfl, h2, h3⟩ := h
    exact .tup (sqT_mono sub h2) (RTs.dp sub xs (by
        obtain ⟨n, h⟩ := hn
        cases n with
        | zero => simp [plainN] at h
        | succ n => exact ⟨n, by simpa [plainN] using h⟩) h3)
  | .lst xs, v, hn, h => by
    unfold RT at h
    obtain ⟨a, vs, rfl, h2, h3⟩ := h
    exact .lst (.inl (.inl (sub _ _ h2))) (RTs.dp sub xs (by
        obtain ⟨n, h⟩ := hn
        cases n with
        | zero => simp [plainN] at h
        | succ n => exact ⟨n, by simpa [plainN] using h⟩) h3)
  | .dct _ _, _, hn, _ => by
    obtain ⟨n, h⟩ := hn
    cases n <;> simp [plainN] at h
  | .scr _, _, hn, _ => by
    obtain ⟨n, h⟩ := hn
    cases n <;> simp [plainN] at h
theorem RTs.dp (sub : ∀ a o, G a = some o → H a = some o) : ∀ (xs : List T) {vs : List V}, (∃ n, xs.all (plainN n) = true) → RTs K G xs vs → DpAll K H vs (toPys xs)
  | [], vs, _, h => by unfold RTs at h; subst h; exact .nil
  | x :: xs, vs, hn, h => by
    unfold RTs at h
    obtain ⟨v, r, rfl, h2, h3⟩ := h
    obtain ⟨n, h⟩ := hn
    simp only [List.all_cons, Bool.and_eq_true] at h
    exact .cons (RT.dp sub x ⟨n, h.1⟩ h2) (RTs.dp sub xs ⟨n, h.2⟩ h3)
end
theorem dpL_ok (n : Nat) {f : D → Option T} (hf : ∀ d x v, f d = some x → RD K c d v → plainN n x = true → Dp K H v (toPy x)) : ∀ (ds : List D) {xs : List T} {vs : List V}, allO (ds.map f) = some xs → RDs K c ds vs → xs.all (plainN n) = true → DpAll K H vs (toPys xs)
  | [], xs, vs, h, r, p => by
    cases allO_nil_inv h
    unfold RDs at r
    subst r
    exact .nil
  | d :: ds, xs, vs, h, r, p => by
    obtain ⟨y, ys, e1, e2, rfl⟩ := allO_cons_inv h
    unfold RDs at r
    obtain ⟨v, w, rfl, h2, h3⟩ := r
    simp only [List.all_cons, Bool.and_eq_true] at p
    exact .cons (hf d y v e1 h2 p.1) (dpL_ok n hf ds e2 h3 p.2)
theorem RD.toDpf (rel : Rel K c H) (m : Nat) : ∀ (k n : Nat) (d : D) (x : T) (v : V), toTf k m c.S d = some x → RD K c d v → plainN n x = true → Dp K H v (toPy x) := by
  have two : ∀ {k n : Nat} {j : Nat} {xs : List T} {v : V}, c.S[j]? = some (.lst xs) → RD K c (.ref j) v → plainN n (.lst xs) = true → Dp K H v (toPy (.lst xs)) := fun {k n j xs v} e r p => by
    unfold RD at r
    obtain ⟨a, rfl, h2⟩ := r
    obtain ⟨_, q⟩ := rel.cellAt e h2 (by intro z; cases z)
    unfold RC at q
    obtain ⟨vs, h3, h4⟩ := q
    refine .lst (.inl (.inl h3)) (RTs.dp rel.sub _ ?_ h4)
    cases n with
    | zero => simp [plainN] at p
    | succ n => exact ⟨n, by simpa [plainN] using p⟩
  intro k
  induction k with
  | zero =>
    intro n d x v h r p
    rcases toTf_inv h with rfl | ⟨j, xs, rfl, hm, e, rfl⟩ | ⟨j, ds, xs, k', rfl, hm, e0, _⟩ | ⟨ds, xs, k', rfl, e0, _⟩
    · exact RT.dp rel.sub _ ⟨n, p⟩ r.t
    · exact two (k := 0) e r p
    · cases e0
    · cases e0
  | succ k ih =>
    intro n d x v h r p
    rcases toTf_inv h with rfl | ⟨j, xs, rfl, hm, e, rfl⟩ | ⟨j, ds, xs, k', rfl, hm, e0, e, e2, rfl⟩ | ⟨ds, xs, k', rfl, e0, e2, rfl⟩
    · exact RT.dp rel.sub _ ⟨n, p⟩ r.t
    · exact two (k := 0) e r p
    · cases e0
      unfold RD at r
      obtain ⟨a, rfl, h2⟩ := r
      obtain ⟨_, q⟩ := rel.cellAt e h2 (by intro z; cases z)
      unfold RC at q
      obtain ⟨vs, h3, h4⟩ := q
      cases n with
      | zero => simp [plainN] at p
      | succ n => exact .lst (.inl (.inl h3)) (dpL_ok n (ih n) ds e2 h4 (by simpa [plainN] using p))
    · cases e0
      unfold RD at r
      obtain ⟨a, vs, rfl, h2, h3⟩ := r
      cases n with
      | zero => simp [plainN] at p
      | succ n => exact .tup (sqT_mono rel.sub h2) (dpL_ok n (ih n) ds e2 h3 (by simpa [plainN] using p))
theorem RD.toDp (rel : Rel K c H) (m : Nat) (d : D) {x : T} {v : V} (n : Nat) (h : toT m c.S d = some x) (r : RD K c d v) (p : plainN n x = true) : Dp K H v (toPy x) := RD.toDpf rel m 8 n d x v h r p
end
/-! ### operators -/
section
variable {X : Cx} {K : PySem.W.Frag} {mg : Str → Option Value} {W : WX} {σ : L2.St} {c : Cfg} {H : Hp} {d e : D} {v u : V}
def rAddS : R2 := fun x y H Q => ∃ i j, x = .str i ∧ y = .str j ∧ i.length + j.length ≤ sizeLine ∧ Q (.str (i ++ j)) H
def rMulS : R2 := fun x y H Q => ∃ (s : Cs) (n : Int), x = .str (stC s) ∧ y = .int n ∧ 1 ≤ n ∧ n ≤ 1000 ∧ s.length ≤ 1000 ∧ Q (.str (stC (List.replicate n.toNat s).flatten)) H
theorem fold_rep (l : List Nat) : ∀ (k : Nat) (acc : List Nat), List.foldl (fun x1 x2 => x1 ++ x2) acc.toArray (List.replicate k l.toArray) = (acc ++ (List.replicate k l).flatten).toArray
  | 0, acc => by simp
  | k + 1, acc => by
    rw [List.replicate_succ, List.foldl_cons]
    have e : acc.toArray ++ l.toArray = (acc ++ l).toArray := by simp
    rw [e, fold_rep l k]
    simp [List.replicate_succ]
theorem len_rep (s : Cs) : ∀ k : Nat, (List.replicate k s).flatten.length = k * s.length
  | 0 => by simp
  | k + 1 => by
    rw [List.replicate_succ, List.flatten_cons, List.length_append, len_rep s k, Nat.succ_mul]
    omega
theorem op_mul_str : OpR X (binaryOp .Mult) rMulS := by
  intro pins s σ H x y v u Q I rx ry h
  obtain ⟨z, n, rfl, rfl, h1, h2, h3, q⟩ := h
  obtain ⟨t, rfl⟩ := rx
  obtain ⟨t', rfl⟩ := ry
  have hl : (stC z).length = z.length := stC_len z
  have hp : ((stC z).length : Int) * n ≤ 1000 * 1000 := Int.mul_le_mul (by omega) h2 (by omega) (by omega)
  have hp2 : (stC z).length * n.toNat ≤ 1000 * 1000 := Nat.mul_le_mul (by omega) (by omega)
  refine PySem.P.mul_str (by rw [decide_eq_false (by omega), decide_eq_false (by omega)]; rfl) (fun _ _ => Int.not_lt.mpr ((Int.le_ediv_iff_mul_le (by omega)).mpr (by omega))) (fun _ _ => ?_) ?_
  · unfold Builtin.Str.tooLong
    have sz : 1000 * 1000 ≤ sizeLine := by decide
    simp
    omega
  · rw [if_neg (by omega)]
    split
    · rename_i hc
      have e : (List.replicate n.toNat z).flatten = z := by
        rw [Bool.or_eq_true] at hc
        rcases hc with hc | hc
        · have : n = 1 := by simpa using hc
          subst this
          simp
        · have : z = [] := by
            have h0 : (stC z).length = 0 := by simpa using hc
            rw [hl] at h0
            exact List.length_eq_zero_iff.mp h0
          subst this
          simp
      rw [e] at q
      exact ⟨.str (stC z), H, I, ⟨t, rfl⟩, q⟩
    · have e : (⟨List.foldl (fun x1 x2 => x1 ++ x2) #[] (List.replicate n.toNat (stC z).cps)⟩ : Str) = stC (List.replicate n.toNat z).flatten := by
        have f := fold_rep (z.map Char.toNat) n.toNat []
        rw [List.nil_append] at f
        unfold stC
        congr 1
        refine Eq.trans f ?_
        congr 1
        rw [List.map_flatten, List.map_replicate]
      rw [e]
      refine ⟨?_, .str (stC (List.replicate n.toNat z).flatten), H, I.tok _, ⟨_, rfl⟩, q⟩
      rw [stC_len, len_rep]
      have sz : 1000 * 1000 ≤ sizeLine := by decide
      have := Nat.mul_le_mul (show n.toNat ≤ 1000 by omega) h3
      omega
def rBin : BinO → R2
  | .add => fun x y H Q => rI0 (fun i j => .int (i + j)) x y H Q ∨ rAddS x y H Q ∨ rCat x y H Q
  | .sub => rI0 fun i j => .int (i - j)
  | .mul => fun x y H Q => rI CMul (fun i j => .int (i * j)) x y H Q ∨ rMulS x y H Q
  | .fdiv => rI CDiv fun i j => .int (i / j)
  | .mod => rI (fun _ j => 0 < j) fun i j => .int (i % j)
  | .pow => rI CPow fun i j => .int (i ^ j.toNat)
theorem op_bin {o : Operator} {o' : BinO} (h : cBin o = some o') : OpR X (binaryOp o) (rBin o') := by
  cases o <;> simp [cBin] at h <;> subst h
  · exact op_add.or (op_add_str.or op_cat)
  · exact op_sub
  · exact op_mul.or op_mul_str
  · exact op_mod
  · exact op_pow
  · exact op_fdiv
theorem lim_line : lim ≤ sizeLine := by decide
/-- a new list at p, told as a tree -/
theorem Rel.lay (rel : Rel K c H) {p : Addr} {o : HO} (hp : H p = none) : Rel K ⟨upd c.G p o, c.ρ, c.S⟩ (upd H p o) ∧ Stp c H ⟨upd c.G p o, c.ρ, c.S⟩ (upd H p o) := by
  have np : ∀ a u, H a = some u → a ≠ p := fun a u h z => by rw [z, hp] at h; cases h
  have ng : ∀ a u, c.G a = some u → a ≠ p := fun a u h => np a u (rel.sub a u h)
  have ext : ∀ a u, c.G a = some u → upd c.G p o a = some u := fun a u h => by rw [upd_ne (ng a u h)]; exact h
  refine ⟨⟨fun a u h => ?_, rel.len, fun n x a h1 h2 h3 => ?_, rel.inj⟩, ⟨ext, fun a u h => ?_, ⟨[], (List.append_nil _).symm⟩, fun a u h => ?_, fun a u h _ => by rw [upd_ne (np a u h)]; exact h, fun n a h1 h2 => ?_, fun _ _ h => h⟩⟩
  · by_cases e : a = p
    · subst e
      have h' : upd c.G a o a = some u := h
      rw [upd_same] at h' ⊢
      exact h'
    · have h' : upd c.G p o a = some u := h
      rw [upd_ne e] at h' ⊢
      exact rel.sub a u h'
  · obtain ⟨g, q⟩ := rel.cellAt h1 h2 h3
    have hap : ∀ u, H a = some u → a ≠ p := fun u => np a u
    cases x with
    | gone => exact absurd rfl h3
    | lst xs =>
      unfold RC at q
      obtain ⟨vs, q1, q2⟩ := q
      refine ⟨?_, ?_⟩
      · show upd c.G p o a = none
        rw [upd_ne (hap _ q1)]
        exact g
      · unfold RC
        exact ⟨vs, by rw [upd_ne (hap _ q1)]; exact q1, RTs.mono ext _ q2⟩
    | lsr ds =>
      unfold RC at q
      obtain ⟨vs, q1, q2⟩ := q
      refine ⟨?_, ?_⟩
      · show upd c.G p o a = none
        rw [upd_ne (hap _ q1)]
        exact g
      · unfold RC
        exact ⟨vs, by rw [upd_ne (hap _ q1)]; exact q1, RDs.mono' (c1 := ⟨upd c.G p o, c.ρ, c.S⟩) ext ⟨[], (List.append_nil _).symm⟩ _ q2⟩
    | dcr ks ds => unfold RC at q; exact q.elim
    | ins cl fs => unfold RC at q; exact q.elim
  · by_cases e : a = p
    · subst e
      exact .inr (.inl hp)
    · have h' : upd c.G p o a = some u := h
      rw [upd_ne e] at h'
      exact .inl h'
  · by_cases e : a = p
    · subst e
      exact ⟨o, upd_same⟩
    · exact ⟨u, by rw [upd_ne e]; exact h⟩
  · have := (List.getElem?_eq_some_iff.mp h2).1
    have h2' : n < c.ρ.length := this
    omega
end
end Kp
/-! A dict among texts, a text among a dict's keys. -/
namespace PySem.SeqAt
open AutoSeq1 (wpAny_loadPart')
open MeetsSeq
theorem kp_str_eq_declines_dict (b : Str) (u : Tok) (l : Addr) (c : Value) (es : Array DictEntry) (n : Nat) (dd : Option Addr) (sl : Array (Option Value)) :
    Meets (Builtin.«str.__eq__» ⟨[.str b u, .ref l], []⟩) (fun _ R s => s.heap.get? l = some { cls := c, dict := dd, data := .dict es n, slots := sl } ∧ R (.ok (.ret .notImplemented)) s) :=
  .of_wp fun prog w A R s h => by obtain ⟨hp, g, d, tk, os⟩ := s; obtain ⟨hl, h⟩ := h; wp_walk using wpAny_loadPart' hl, wpAny_load hl; exact ⟨_, rfl, h⟩
theorem kp_dict_eq_declines_str (b : Str) (u : Tok) (l : Addr) (es : Array DictEntry) (n : Nat) (dd : Option Addr) (sl : Array (Option Value)) :
    Meets (Builtin.«dict.__eq__» ⟨[.ref l, .str b u], []⟩) (fun _ R s => s.heap.get? l = some { cls := .type "dict", dict := dd, data := .dict es n, slots := sl } ∧ R (.ok (.ret .notImplemented)) s) :=
  .of_wp fun prog w A R s h => by obtain ⟨hp, g, d, tk, os⟩ := s; obtain ⟨hl, h⟩ := h; have f1 := F.sub_str_dict; wp_walk using wpAny_loadPart' hl, wpAny_load hl; exact ⟨_, rfl, h⟩
section
variable {A : Around} {s : Shared}
theorem RcAt.kp_str_dict {l : Addr} {o : Obj} {es : Array DictEntry} {n : Nat} (b : Str) (u : Tok) (ho : s.heap.get? l = some o) (hc : o.cls = .type "dict") (hd : o.data = .dict es n) (hu : A.units < cLine) : RcAt A s (.str b u) (.ref l) false := fun prog w E Q h => by
  obtain ⟨cls, dd, data, sl⟩ := o
  simp only at hc hd
  subst hc hd
  exact rc_eq_decline_or (k := false) (typeIs_str s b u) ⟨_, ho, rfl⟩ (by decide) F.sub_dict_str F.slot_str_eq F.slot_dict_eq_refl
    (fun _ hq => call_meets F.slot_str_eq (typeIs_str s b u) F.entry_str_eq (F.args_str_eq_2 _ _) (kp_str_eq_declines_dict b u l (.type "dict") es n dd sl) ⟨ho, hq⟩)
    (fun _ hq => call_meets F.slot_dict_eq_refl ⟨_, ho, rfl⟩ F.entry_dict_eq (F.args_dict_eq_2 _ _) (kp_dict_eq_declines_str b u l es n dd sl) ⟨ho, hq⟩)
    (fun _ hq => wpAny_of_eq (rfl : isSame (.str b u) (.ref l) = pure false) hq) (.inr hu) h
theorem EqAt.kp_str_dict {l : Addr} {o : Obj} {es : Array DictEntry} {n : Nat} (b : Str) (u : Tok) (ho : s.heap.get? l = some o) (hc : o.cls = .type "dict") (hd : o.data = .dict es n) (hu : A.units < cLine) : EqAt A s (.str b u) (.ref l) false := fun prog w E Q h => by
  unfold eqBool
  refine wpAny_holding ?_
  refine wpAny_ite_split (fun hab => absurd (eq_of_beq hab) nofun) (fun _ => ?_)
  exact wpAny_bind (RcAt.kp_str_dict b u ho hc hd hu prog w E _ (wpAny_truthy_bool h))
end
end PySem.SeqAt
namespace Kp
open PySem L2
/-- y among x's keys -/
def rDk (neg : Bool) : R2 := fun y x H Q => ∃ a o, x = .ref a ∧ DGet H a y o ∧ Q (.bl (if neg then !o.isSome else o.isSome)) H
/-- a dict among texts -/
def rSD (K : PySem.W.Frag) (neg : Bool) : R2 := fun x y H Q => ∃ (a : Addr) (kvs : List (Key × V)) (p : Addr) (ss : List Str), x = .ref a ∧ Rd H a (.dK kvs) ∧ y = .ref p ∧ SqL K H p (ss.map V.str) ∧ Q (.bl neg) H
section
variable {X : Cx}
theorem op_dk (hu : X.A.units + 1 < cLine) : OpR X (compareOp .In) (rDk false) := by
  intro pins s σ H x y v u Q I rx ry h
  obtain ⟨a, o, rfl, g, q⟩ := h
  cases ry
  exact d_in hu I g rx fun s3 I3 => ⟨.bl o.isSome, H, I3, rfl, q⟩
theorem op_ndk (hu : X.A.units + 1 < cLine) : OpR X (compareOp .NotIn) (rDk true) := by
  intro pins s σ H x y v u Q I rx ry h
  obtain ⟨a, o, rfl, g, q⟩ := h
  cases ry
  exact d_notIn hu I g rx fun s3 I3 => ⟨.bl (!o.isSome), H, I3, rfl, q⟩
theorem dk_obj {H : Hp} {s : Shared} {P : Program} {w : World} (ok : HOk P w H s.heap) {a : Addr} {kvs : List (Key × V)} (h : Rd H a (.dK kvs)) : ∃ o es n, s.heap.get? a = some o ∧ o.cls = .type "dict" ∧ o.data = .dict es n := by
  obtain ⟨_, _, vs, _, o, es, ep, e, x, d, _⟩ := h.ok ok
  exact ⟨o, es, ep, e, x.1, d⟩
theorem vals_str : ∀ {ss : List Str} {us : List Value}, Vals (ss.map V.str) us → ∀ u ∈ us, ∃ b t, u = .str b t
  | [], us, r, u, hu => by
    cases r
    cases hu
  | x :: ss, us, r, u, hu => by
    cases r with
    | cons r1 r2 =>
      rcases List.mem_cons.mp hu with rfl | h
      · obtain ⟨t, e⟩ := r1
        exact ⟨x, t, e⟩
      · exact vals_str r2 u h
theorem op_sd (hu : X.A.units + 1 < cLine) : OpR X (compareOp .In) (rSD X.K false) := by
  intro pins s σ H x y v u Q I rx ry h
  obtain ⟨a, kvs, p, ss, rfl, hd, rfl, hl, q⟩ := h
  cases rx
  cases ry
  obtain ⟨o, es, n, e1, e2, e3⟩ := dk_obj I.hok hd
  obtain ⟨its, rv, ⟨o2, n2, f1, f2, f3, f4⟩, hz⟩ := I.list hl
  refine SeqAt.in_listAt (items := its.toArray) (fun _ => false) ⟨o2, f1, f2, n2, f4⟩ (fun y hy => ?_) ?_
  · obtain ⟨b, t, rfl⟩ := vals_str rv y (by simpa using hy)
    exact SeqAt.EqAt.kp_str_dict b t e1 e2 e3 hu
  · have : (its.toArray.any fun _ => false) = false := by simp
    rw [this]
    exact ⟨.bl false, H, I, rfl, q⟩
theorem op_nsd (hu : X.A.units + 1 < cLine) : OpR X (compareOp .NotIn) (rSD X.K true) := by
  intro pins s σ H x y v u Q I rx ry h
  obtain ⟨a, kvs, p, ss, rfl, hd, rfl, hl, q⟩ := h
  cases rx
  cases ry
  obtain ⟨o, es, n, e1, e2, e3⟩ := dk_obj I.hok hd
  obtain ⟨its, rv, ⟨o2, n2, f1, f2, f3, f4⟩, hz⟩ := I.list hl
  refine SeqAt.notIn_listAt (items := its.toArray) (fun _ => false) ⟨o2, f1, f2, n2, f4⟩ (fun y hy => ?_) ?_
  · obtain ⟨b, t, rfl⟩ := vals_str rv y (by simpa using hy)
    exact SeqAt.EqAt.kp_str_dict b t e1 e2 e3 hu
  · have : (its.toArray.any fun _ => false) = false := by simp
    rw [this]
    exact ⟨.bl true, H, I, rfl, q⟩
end
end Kp
/-! Operations: each one's word. -/
namespace Kp
open PySem L2
theorem R.bind_fin {r : R D} : r.bind (fin false) = r := by cases r <;> rfl
section
variable {X : Cx} {K : PySem.W.Frag} {mg : Str → Option Value} {W : WX} {σ : L2.St} {c : Cfg} {H : Hp} {d e : D} {v u : V} {Q : VK}
/-- a new cell -/
theorem Rel.cellNew (rel : Rel K c H) {p : Addr} {vs : List V} {x : Cell} (hp : H p = none) (hx : x ≠ .gone) (hc : ∀ c', (∀ a o, c.G a = some o → c'.G a = some o) → (∃ more, c'.ρ = c.ρ ++ more) → RC K c' (upd H p (.lst vs)) p x) :
    Rel K ⟨c.G, c.ρ ++ [p], c.S ++ [x]⟩ (upd H p (.lst vs)) ∧ Stp c H ⟨c.G, c.ρ ++ [p], c.S ++ [x]⟩ (upd H p (.lst vs)) := by
  have np : ∀ a u, H a = some u → a ≠ p := fun a u h z => by rw [z, hp] at h; cases h
  have gp : c.G p = none := by
    cases e : c.G p with
    | none => rfl
    | some o => have := rel.sub p o e; rw [hp] at this; cases this
  have pre : ∃ more, c.ρ ++ [p] = c.ρ ++ more := ⟨[p], rfl⟩
  have lv : ∀ n, n < c.S.length → live (c.S ++ [x]) n → live c.S n := fun n hn ⟨y, h1, h2⟩ => ⟨y, by rw [List.getElem?_append_left hn] at h1; exact h1, h2⟩
  have old : ∀ (n : Nat) a, (c.ρ ++ [p])[n]? = some a → n < c.ρ.length → c.ρ[n]? = some a := fun n a h hn => by rw [List.getElem?_append_left hn] at h; exact h
  have notp : ∀ (n : Nat), c.ρ[n]? = some p → ¬ live c.S n := fun n h1 ⟨y, h2, h3⟩ => by
    obtain ⟨_, q⟩ := rel.cellAt h2 h1 h3
    cases y with
    | gone => exact h3 rfl
    | lst xs => unfold RC at q; obtain ⟨ws, q1, _⟩ := q; rw [hp] at q1; cases q1
    | lsr ds => unfold RC at q; obtain ⟨ws, q1, _⟩ := q; rw [hp] at q1; cases q1
    | dcr ks ds => unfold RC at q; exact q
    | ins cl fs => unfold RC at q; exact q
  refine ⟨⟨fun a o h => by rw [upd_ne (np a o (rel.sub a o h))]; exact rel.sub a o h, by simp [rel.len], fun n y a h1 h2 h3 => ?_, fun n m a h1 h2 l1 l2 => ?_⟩,
    ⟨fun _ _ h => h, fun _ _ h => .inl h, pre, fun a o h => ?_, fun a o h _ => by rw [upd_ne (np a o h)]; exact h, fun n a h1 h2 => ?_, fun n hn l => lv n (by rw [← rel.len]; exact hn) l⟩⟩
  · by_cases hn : n < c.S.length
    · have h1' : c.S[n]? = some y := by
        have h1 : (c.S ++ [x])[n]? = some y := h1
        rw [List.getElem?_append_left hn] at h1; exact h1
      have h2' := old n a h2 (by rw [rel.len]; exact hn)
      obtain ⟨g, q⟩ := rel.cellAt h1' h2' h3
      refine ⟨g, ?_⟩
      cases y with
      | gone => exact absurd rfl h3
      | lst xs =>
        unfold RC at q ⊢
        obtain ⟨ws, q1, q2⟩ := q
        exact ⟨ws, by rw [upd_ne (np a _ q1)]; exact q1, q2⟩
      | lsr ds =>
        unfold RC at q ⊢
        obtain ⟨ws, q1, q2⟩ := q
        exact ⟨ws, by rw [upd_ne (np a _ q1)]; exact q1, RDs.mono' (c := c) (c1 := ⟨c.G, c.ρ ++ [p], c.S ++ [x]⟩) (fun _ _ h => h) pre _ q2⟩
      | dcr ks ds => unfold RC at q; exact q.elim
      | ins cl fs => unfold RC at q; exact q.elim
    · have en : n = c.S.length := by
        have h1 : (c.S ++ [x])[n]? = some y := h1
        have := (List.getElem?_eq_some_iff.mp h1).1
        simp at this
        omega
      subst en
      have h1' : (c.S ++ [x])[c.S.length]? = some y := h1
      have h2' : (c.ρ ++ [p])[c.S.length]? = some a := h2
      rw [List.getElem?_concat_length] at h1'
      rw [← rel.len, List.getElem?_concat_length] at h2'
      cases h1'
      cases h2'
      exact ⟨gp, hc _ (fun _ _ h => h) pre⟩
  · by_cases hn : n < c.ρ.length
    · by_cases hm : m < c.ρ.length
      · exact rel.inj n m a (old n a h1 hn) (old m a h2 hm) (lv n (by rw [← rel.len]; exact hn) l1) (lv m (by rw [← rel.len]; exact hm) l2)
      · exfalso
        have h2 : (c.ρ ++ [p])[m]? = some a := h2
        have em : m = c.ρ.length := by have := (List.getElem?_eq_some_iff.mp h2).1; simp at this; omega
        rw [em, List.getElem?_concat_length] at h2
        cases h2
        exact notp n (old n p h1 hn) (lv n (by rw [← rel.len]; exact hn) l1)
    · have h1 : (c.ρ ++ [p])[n]? = some a := h1
      have en : n = c.ρ.length := by have := (List.getElem?_eq_some_iff.mp h1).1; simp at this; omega
      by_cases hm : m < c.ρ.length
      · exfalso
        rw [en, List.getElem?_concat_length] at h1
        cases h1
        exact notp m (old m p h2 hm) (lv m (by rw [← rel.len]; exact hm) l2)
      · have h2 : (c.ρ ++ [p])[m]? = some a := h2
        have em : m = c.ρ.length := by have := (List.getElem?_eq_some_iff.mp h2).1; simp at this; omega
        rw [en, em]
  · by_cases e : a = p
    · rw [e]; exact ⟨_, upd_same⟩
    · exact ⟨o, by rw [upd_ne e]; exact h⟩
  · have h2 : (c.ρ ++ [p])[n]? = some a := h2
    have en : n = c.ρ.length := by have := (List.getElem?_eq_some_iff.mp h2).1; simp at this; omega
    rw [en, List.getElem?_concat_length] at h2
    cases h2
    exact hp
/-- a new list, kept one way or the other -/
theorem fin_lst {b : Bool} {zs : List T} {ws : List V} {p : Addr} (rel : Rel K c H) (hp : H p = none) (r : RTs K c.G zs ws) (h : PR K mg W σ (rD K) c H (fin b (.t (.lst zs)) c.S) Q) : Q (.ref p) (upd H p (.lst ws)) := by
  cases b with
  | false =>
    obtain ⟨rel2, stp⟩ := rel.lay (o := .lst ws) hp
    refine h (.ref p) ⟨upd c.G p (.lst ws), c.ρ, c.S⟩ _ rfl rel2 stp ?_
    show RD K _ _ _
    unfold RD RT
    exact ⟨p, ws, rfl, upd_same, RTs.mono stp.ext _ r⟩
  | true =>
    obtain ⟨rel2, stp⟩ := rel.cellNew (x := .lst zs) (vs := ws) hp (by intro z; cases z) (fun c' e _ => by
      unfold RC
      exact ⟨ws, upd_same, RTs.mono e _ r⟩)
    refine h (.ref p) _ _ rfl rel2 stp ?_
    show RD K _ _ _
    unfold RD
    refine ⟨p, rfl, ?_⟩
    show (c.ρ ++ [p])[c.S.length]? = some p
    rw [← rel.len, List.getElem?_concat_length]
/-- an answer that is no list -/
theorem fin_val {b : Bool} {x : D} {w : V} (rel : Rel K c H) (r : RD K c x w) (h : PR K mg W σ (rD K) c H (fin b x c.S) Q) (hb : b = true → ∀ xs, x ≠ .t (.lst xs)) : Q w H := by
  cases b with
  | false => exact h.now rel r
  | true =>
    have hx := hb rfl
    unfold fin at h
    rw [if_pos rfl] at h
    split at h
    · rename_i xs
      exact absurd rfl (hx xs)
    · exact h.elim
theorem bound_ok {i : Int} (h : bound64 i = true) : -(2 ^ 64) < i ∧ i < 2 ^ 64 := by
  unfold bound64 at h
  exact of_decide_eq_true h
theorem intOp_ok {b : Bool} {f : Int → Int → Option Int} {r : R2} (rel : Rel K c H) (rd : RD K c d v) (re : RD K c e u) (h : PR K mg W σ (rD K) c H ((intOp d e c.S f).bind (fin b)) Q)
    (k : ∀ i j z, f i j = some z → Q (.int z) H → r (.int i) (.int j) H Q) : r v u H Q := by
  unfold intOp at h
  split at h
  · rename_i i j h1 h2
    split at h
    · rename_i z hz
      rw [rd.int h1, re.int h2]
      exact k i j z hz (fin_val rel (RD.mkInt z) h (fun _ xs q => by cases q))
    · exact h.elim
  · exact h.elim
theorem bin_ok {b : Bool} {o : BinO} (rel : Rel K c H) (rd : RD K c d v) (re : RD K c e u) (h : PR K mg W σ (rD K) c H ((binV o d e c.S).bind (fin b)) Q) : rBin o v u H Q := by
  cases o with
  | add =>
    unfold binV at h
    dsimp only at h
    split at h
    · rename_i i j h1 h2
      refine .inl ⟨i, j, rd.int h1, re.int h2, ?_⟩
      exact fin_val rel (RD.mkInt _) h (fun _ xs q => by cases q)
    · split at h
      · rename_i x y h1 h2
        split at h
        · rename_i hl
          refine .inr (.inl ⟨_, _, rd.str h1, re.str h2, ?_, ?_⟩)
          · rw [stC_len, stC_len]
            exact Nat.le_trans hl lim_line
          · rw [stC_app]
            exact fin_val rel (RD.mkStr _) h (fun _ xs q => by cases q)
        · exact h.elim
      · split at h
        · rename_i xs ys h1 h2
          split at h
          · rename_i hl
            obtain ⟨a, vs, e1, e2, e3⟩ := rd.asL rel h1
            obtain ⟨a', ws, f1, f2, f3⟩ := re.asL rel h2
            subst e1 f1
            refine .inr (.inr ⟨a, a', vs, ws, rfl, rfl, e2, f2, ?_, fun p hp => ?_⟩)
            · rw [e3.len, f3.len]
              exact Nat.le_trans hl lim_line
            · exact fin_lst rel hp (e3.app f3) h
          · exact h.elim
        · exact h.elim
  | sub =>
    refine intOp_ok (f := fun i j => some (i - j)) rel rd re h fun i j z hz q => ?_
    have hz' : i - j = z := Option.some.inj hz
    rw [← hz'] at q
    exact ⟨i, j, rfl, rfl, q⟩
  | mul =>
    unfold binV at h
    dsimp only at h
    split at h
    · rename_i s n h1 h2
      split at h
      · rename_i hc
        refine .inr ⟨s, n, rd.str h1, re.int h2, hc.1, hc.2.1, hc.2.2, ?_⟩
        exact fin_val rel (RD.mkStr _) h (fun _ xs q => by cases q)
      · exact h.elim
    refine .inl ?_
    refine intOp_ok rel rd re h fun i j z hz q => ?_
    split at hz
    · rename_i hb
      cases hz
      simp only [Bool.or_eq_true] at hb
      refine ⟨i, j, rfl, rfl, ?_, q⟩
      rcases hb with hb | hb
      · exact .inl (bound_ok hb)
      · exact .inr (bound_ok hb)
    · cases hz
  | fdiv =>
    refine intOp_ok rel rd re h fun i j z hz q => ?_
    split at hz
    · rename_i hb
      cases hz
      exact ⟨i, j, rfl, rfl, hb, q⟩
    · cases hz
  | mod =>
    refine intOp_ok rel rd re h fun i j z hz q => ?_
    split at hz
    · rename_i hb
      cases hz
      exact ⟨i, j, rfl, rfl, hb, q⟩
    · cases hz
  | pow =>
    refine intOp_ok rel rd re h fun i j z hz q => ?_
    split at hz
    · rename_i hb
      cases hz
      exact ⟨i, j, rfl, rfl, hb, q⟩
    · cases hz
/-! ### comparisons -/
def rLt : R2 := fun x y H Q => ∃ i j, x = .str i ∧ y = .str j ∧ Q (.bl (decide (i.cps.toList < j.cps.toList))) H
def rLe : R2 := fun x y H Q => ∃ i j, x = .str i ∧ y = .str j ∧ Q (.bl (!decide (j.cps.toList < i.cps.toList))) H
def rIs (n : Bool) : R2 := fun x y H Q => y = .non ∧ Q (.bl (if n then !decide (x = .non) else decide (x = .non))) H
def rCmp (K : PySem.W.Frag) : CmpO → R2
  | .eq => rEqD K
  | .ne => rNeD K
  | .lt => fun x y H Q => rI0 (fun i j => .bl (decide (i < j))) x y H Q ∨ rLt x y H Q
  | .le => fun x y H Q => rI0 (fun i j => .bl (decide (i ≤ j))) x y H Q ∨ rLe x y H Q
  | .gt => rI0 fun i j => .bl (decide (j < i))
  | .ge => rI0 fun i j => .bl (decide (j ≤ i))
  | .isN => rIs false
  | .notN => rIs true
  | .inn => fun x y H Q => (rInD K x y H Q ∨ rIn K false x y H Q) ∨ (rDk false x y H Q ∨ rSD K false x y H Q)
  | .nin => fun x y H Q => (rNotInD K x y H Q ∨ rIn K true x y H Q) ∨ (rDk true x y H Q ∨ rSD K true x y H Q)
  | .isB => fun x y H Q => ∃ a b, x = .bl a ∧ y = .bl b ∧ Q (.bl (decide (a = b))) H
  | .notB => fun x y H Q => ∃ a b, x = .bl a ∧ y = .bl b ∧ Q (.bl (!decide (a = b))) H
theorem op_cmp {o : CmpOp} {o' : CmpO} {k : Nat} (hr : Room k X.A) (h : cCmp o = some o') : OpR X (compareOp o) (rCmp X.K o') := by
  have hu : X.A.units + 64 < cLine := hr.units
  have hu2 : X.A.units + 65 < cLine := by have := hr.un; omega
  cases o <;> simp [cCmp] at h <;> subst h
  · exact op_eqD hu
  · exact op_neD hu
  · exact op_lt.or op_lt_str
  · exact op_le.or op_le_str
  · exact op_gt
  · exact op_ge
  · exact op_isN
  · exact op_notN
  · exact ((op_inD hu2).or op_in_seq).or ((op_dk (by omega)).or (op_sd (by omega)))
  · exact ((op_notInD hu2).or op_notIn_seq).or ((op_ndk (by omega)).or (op_nsd (by omega)))
theorem op_cmp2 {o : CmpOp} {b : PySem.Expr} {o' : CmpO} {k : Nat} (hr : Room k X.A) (h : cCmp2 o b = some o') : OpR X (compareOp o) (rCmp X.K o') := by
  unfold cCmp2 at h
  split at h
  · cases h; exact op_is_bl
  · cases h; exact op_isnot_bl
  · exact op_cmp hr h
end
end Kp
/-! Operations: comparisons, items, slices, built-ins, kinds, truth. -/
namespace Kp
open PySem L2
def zipK (ks : List Cs) (vs : List V) : List (Key × V) := (ks.map fun c => (Sum.inr (stC c) : Key)).zip vs
theorem inr_eq (a b : Cs) : ((Sum.inr (stC a) : Key) = Sum.inr (stC b)) ↔ a = b := ⟨fun h => stC_inj (Sum.inr.inj h), fun h => by rw [h]⟩
theorem zipK_cons (k : Cs) (ks : List Cs) (v : V) (vs : List V) : zipK (k :: ks) (v :: vs) = (Sum.inr (stC k), v) :: zipK ks vs := rfl
section
variable {X : Cx} {K : PySem.W.Frag} {mg : Str → Option Value} {W : WX} {σ : L2.St} {c : Cfg} {H : Hp} {d e : D} {v u : V} {Q : VK}
theorem eq_ok (rel : Rel K c H) (rd : RD K c d v) (re : RD K c e u) {r : Bool} (h : eqV d e c.S = some r) : ∃ x y, Dp K H v x ∧ Dp K H u y ∧ SeqAt.shaped x = true ∧ SeqAt.shaped y = true ∧ PyData.eqv x y = r := by
  unfold eqV at h
  split at h
  · rename_i x y h1 h2
    split at h
    · rename_i hp
      cases h
      simp only [Bool.and_eq_true] at hp
      exact ⟨_, _, RD.toDp rel 0 d 8 h1 rd hp.1, RD.toDp rel 0 e 8 h2 re hp.2, plain_shaped hp.1, plain_shaped hp.2, eqT_plain hp.1 hp.2⟩
    · cases h
  · cases h
theorem any_py {x : T} (hx : plain x = true) : ∀ (ys : List T), ys.all (plainN 7) = true → ((toPys ys).any fun z => PyData.eqv z (toPy x)) = inT x ys
  | [], _ => rfl
  | y :: ys, h => by
    simp only [List.all_cons, Bool.and_eq_true] at h
    show (PyData.eqv (toPy y) (toPy x) || (toPys ys).any fun z => PyData.eqv z (toPy x)) = (eqT y x || inT x ys)
    rw [eqT_py y x ⟨7, h.1⟩ ⟨8, hx⟩, any_py hx ys h.2]
theorem flat_ok {G : Hp} {x : T} {v : V} (r : RT K G x v) (p : plainN 0 x = true) : flatV v = true := by
  cases x <;> simp [plainN] at p <;> (unfold RT at r; subst r; rfl)
theorem eqV_ok {G : Hp} {x y : T} {v u : V} (r : RT K G x v) (p : plainN 0 x = true) (r2 : RT K G y u) (p2 : plainN 0 y = true) : L2.eqV u v = eqT y x := by
  cases x <;> simp [plainN] at p <;> cases y <;> simp [plainN] at p2 <;> (unfold RT at r r2; subst r r2) <;> try rfl
  rename_i a b
  show (stC b == stC a) = (b == a)
  exact stC_eq b a
theorem inV_ok {G : Hp} {x : T} {v : V} (r : RT K G x v) (p : plainN 0 x = true) : ∀ {ys : List T} {us : List V}, RTs K G ys us → ys.all (plainN 0) = true → us.all flatV = true ∧ inV v us = inT x ys
  | [], us, h, _ => by
    unfold RTs at h
    subst h
    exact ⟨rfl, rfl⟩
  | y :: ys, us, h, q => by
    unfold RTs at h
    obtain ⟨w, r2, rfl, h2, h3⟩ := h
    simp only [List.all_cons, Bool.and_eq_true] at q ⊢
    obtain ⟨i1, i2⟩ := inV_ok r p h3 q.2
    refine ⟨⟨flat_ok h2 q.1, i1⟩, ?_⟩
    show (L2.eqV w v || inV v r2) = (eqT y x || inT x ys)
    rw [eqV_ok r p h2 q.1, i2]
theorem dct_at (rel : Rel K c H) {ks : List Cs} (h : dctKs d = some ks) (rd : RD K c d v) : ∃ (a : Addr) (vs : List V), v = .ref a ∧ H a = some (.dK (zipK ks vs)) ∧ ks.length = vs.length := by
  cases d with
  | t z =>
    cases z with
    | dct ks' xs =>
      cases h
      have q := rd.t
      unfold RT at q
      obtain ⟨a, vs, h1, h2, h3, h4⟩ := q
      exact ⟨a, vs, h1, rel.sub _ _ h2, h3⟩
    | _ => cases h
  | _ => cases h
theorem strs_all {G : Hp} : ∀ {ys : List T} {vs : List V}, ys.all isStrT = true → RTs K G ys vs → ∃ ss : List Str, vs = ss.map V.str
  | [], vs, _, r => by
    unfold RTs at r
    subst r
    exact ⟨[], rfl⟩
  | y :: ys, vs, h, r => by
    simp only [List.all_cons, Bool.and_eq_true] at h
    unfold RTs at r
    obtain ⟨v, w, rfl, h2, h3⟩ := r
    obtain ⟨ss, rfl⟩ := strs_all h.2 h3
    cases y with
    | str s =>
      unfold RT at h2
      subst h2
      exact ⟨stC s :: ss, rfl⟩
    | _ => exact absurd h.1 Bool.false_ne_true
theorem valV_any : ∀ {ks : List Cs} {vs : List V} (c : Cs), ks.length = vs.length → (valV (zipK ks vs) (Sum.inr (stC c))).isSome = ks.any fun k => decide (k = c)
  | [], [], c, _ => rfl
  | [], _ :: _, _, h => by simp at h
  | _ :: _, [], _, h => by simp at h
  | k :: ks, v :: vs, c, h => by
    rw [zipK_cons]
    simp only [valV, List.find?_cons, List.any_cons]
    by_cases e : k = c
    · subst e
      simp
    · have e2 : ¬ ((Sum.inr (stC k) : Key) = Sum.inr (stC c)) := fun z => e (stC_inj (Sum.inr.inj z))
      have := valV_any (ks := ks) (vs := vs) c (by simpa using h)
      unfold valV at this
      simp only [decide_eq_false e, decide_eq_false e2, Bool.false_or]
      exact this
theorem mem_ok (rel : Rel K c H) (rd : RD K c d v) (re : RD K c e u) {r : Bool} (h : memV d e c.S = some r) :
    (∃ x ys, Dp K H v x ∧ Dp K H u (.list ys) ∧ SeqAt.shaped x = true ∧ SeqAt.shaped (.list ys) = true ∧ (ys.any fun z => PyData.eqv z x) = r) ∨
    (∃ p ws, u = .ref p ∧ SqT K H p ws ∧ flatV v = true ∧ ws.all flatV = true ∧ inV v ws = r) ∨
    (∃ a o, u = .ref a ∧ DGet H a v o ∧ o.isSome = r) ∨
    (∃ (a : Addr) (kvs : List (Key × V)) (p : Addr) (ss : List Str), v = .ref a ∧ Rd H a (.dK kvs) ∧ u = .ref p ∧ SqL K H p (ss.map V.str) ∧ r = false) := by
  unfold memV at h
  split at h
  · rename_i ks hk
    split at h
    · rename_i cs hc
      cases h
      obtain ⟨a, vs, rfl, q1, q2⟩ := dct_at rel hk re
      rw [rd.str hc]
      refine .inr (.inr (.inl ⟨a, valV (zipK ks vs) (Sum.inr (stC cs)), rfl, DGet.k (k := Sum.inr (stC cs)) q1, ?_⟩))
      exact valV_any cs q2
    · cases h
  split at h
  · rename_i ks hk
    split at h
    · rename_i ys hy
      split at h
      · rename_i ha
        cases h
        obtain ⟨a, vs, rfl, q1, q2⟩ := dct_at rel hk rd
        obtain ⟨p, ws, rfl, p2, p3⟩ := re.asL rel hy
        obtain ⟨ss, rfl⟩ := strs_all ha p3
        exact .inr (.inr (.inr ⟨a, _, p, ss, rfl, .inl q1, rfl, SqL.of p2, rfl⟩))
      · cases h
    · cases h
  split at h
  · rename_i x h1
    split at h
    · rename_i ys h2
      split at h
      · rename_i hp
        cases h
        simp only [Bool.and_eq_true] at hp
        obtain ⟨a, vs, rfl, e2, e3⟩ := re.asL rel h2
        have hy : ys.all (plainN 7) = true := by simpa [plain, plainN] using hp.2
        exact .inl ⟨toPy x, toPys ys, RD.toDp rel 0 d 8 h1 rd hp.1, .lst (.inl (.inl e2)) (RTs.dp rel.sub ys ⟨7, hy⟩ e3), plain_shaped hp.1, plain_shaped (x := .lst ys) hp.2, any_py hp.1 ys hy⟩
      · cases h
    · split at h
      · rename_i ys h2
        split at h
        · rename_i hp
          cases h
          simp only [Bool.and_eq_true] at hp
          -- the needle is a flat tree
          have flatOf : ∀ {k : Nat} {d : D} {x : T}, toTf k 0 c.S d = some x → plainN 0 x = true → d = .t x := fun {k d x} h p => by
            rcases toTf_inv h with rfl | ⟨_, _, _, _, _, rfl⟩ | ⟨_, _, _, _, _, _, _, _, _, rfl⟩ | ⟨_, _, _, _, _, _, rfl⟩
            · rfl
            all_goals simp [plainN] at p
          have hd : d = .t x := flatOf h1 hp.1
          subst hd
          have key : ∃ p ws, u = .ref p ∧ SqT K H p ws ∧ RTs K c.G ys ws := by
            rcases toTf_inv h2 with rfl | ⟨_, _, _, _, _, e0⟩ | ⟨_, _, _, _, _, _, _, _, _, e0⟩ | ⟨ds, xs, k', rfl, _, e2, e0⟩
            · have q := re.t
              unfold RT at q
              obtain ⟨a, vs, q1, q2, q3⟩ := q
              exact ⟨a, vs, q1, sqT_mono rel.sub q2, q3⟩
            · cases e0
            · cases e0
            · cases e0
              unfold RD at re
              obtain ⟨a, vs, q1, q2, q3⟩ := re
              refine ⟨a, vs, q1, sqT_mono rel.sub q2, ?_⟩
              -- every item is a flat tree
              have : ∀ (ds : List D) (zs : List T) (vs : List V), allO (ds.map (toTf k' 0 c.S)) = some zs → zs.all (plainN 0) = true → RDs K c ds vs → RTs K c.G zs vs := by
                intro ds
                induction ds with
                | nil =>
                  intro zs vs h _ r
                  cases allO_nil_inv h
                  unfold RDs at r
                  unfold RTs
                  exact r
                | cons d ds ih =>
                  intro zs vs h p r
                  obtain ⟨y, ys, f1, f2, rfl⟩ := allO_cons_inv h
                  simp only [List.all_cons, Bool.and_eq_true] at p
                  unfold RDs at r
                  obtain ⟨v', w', g1, g2, g3⟩ := r
                  cases flatOf f1 p.1
                  unfold RTs
                  exact ⟨v', w', g1, g2.t, ih _ _ f2 p.2 g3⟩
              exact this ds _ vs e2 hp.2 q3
          obtain ⟨p, ws, q1, q2, q3⟩ := key
          obtain ⟨i1, i2⟩ := inV_ok rd.t hp.1 q3 hp.2
          exact .inr (.inl ⟨p, ws, q1, q2, flat_ok rd.t hp.1, i1, i2⟩)
        · cases h
      · cases h
  · cases h
theorem notO_some {o : Option Bool} {r : Bool} (h : notO o = some r) : o = some (!r) := by
  cases o with
  | none => cases h
  | some b =>
    have : (!b) = r := Option.some.inj h
    rw [← this, Bool.not_not]
theorem cmp_ok {o : CmpO} {r : Bool} (rel : Rel K c H) (rd : RD K c d v) (re : RD K c e u) (h : cmpV o d e c.S = some r) (q : Q (.bl r) H) : rCmp K o v u H Q := by
  have ord : ∀ {f : Int → Int → Bool} {g : Cs → Cs → Option Bool}, ordV d e f g = some r → (∃ i j, v = .int i ∧ u = .int j ∧ f i j = r) ∨ ∃ x y, v = .str (stC x) ∧ u = .str (stC y) ∧ g x y = some r := by
    intro f g h
    unfold ordV at h
    split at h
    · rename_i i j h1 h2
      cases h
      exact .inl ⟨i, j, rd.int h1, re.int h2, rfl⟩
    · split at h
      · rename_i x y h1 h2
        exact .inr ⟨x, y, rd.str h1, re.str h2, h⟩
      · cases h
  cases o with
  | eq =>
    obtain ⟨x, y, h1, h2, h3, h4, h5⟩ := eq_ok rel rd re h
    exact ⟨x, y, h1, h2, h3, h4, by rw [h5]; exact q⟩
  | ne =>
    obtain ⟨x, y, h1, h2, h3, h4, h5⟩ := eq_ok rel rd re (notO_some h)
    exact ⟨x, y, h1, h2, h3, h4, by rw [h5, Bool.not_not]; exact q⟩
  | lt =>
    rcases ord h with ⟨i, j, rfl, rfl, e⟩ | ⟨x, y, rfl, rfl, e⟩
    · exact .inl ⟨i, j, rfl, rfl, by dsimp only; rw [e]; exact q⟩
    · refine .inr ⟨_, _, rfl, rfl, ?_⟩
      have e' : ltS x y = r := Option.some.inj e
      rw [ltS_eq] at e'
      rw [stC_cps, stC_cps, e']
      exact q
  | le =>
    rcases ord h with ⟨i, j, rfl, rfl, e⟩ | ⟨x, y, rfl, rfl, e⟩
    · exact .inl ⟨i, j, rfl, rfl, by dsimp only; rw [e]; exact q⟩
    · refine .inr ⟨_, _, rfl, rfl, ?_⟩
      have e' : (!ltS y x) = r := Option.some.inj e
      rw [ltS_eq] at e'
      rw [stC_cps, stC_cps, e']
      exact q
  | gt =>
    rcases ord h with ⟨i, j, rfl, rfl, e⟩ | ⟨x, y, rfl, rfl, e⟩
    · exact ⟨i, j, rfl, rfl, by dsimp only; rw [e]; exact q⟩
    · cases e
  | ge =>
    rcases ord h with ⟨i, j, rfl, rfl, e⟩ | ⟨x, y, rfl, rfl, e⟩
    · exact ⟨i, j, rfl, rfl, by dsimp only; rw [e]; exact q⟩
    · cases e
  | isN =>
    have h' : (if isNon e then some (isNon d) else none) = some r := h
    split at h'
    · rename_i he
      cases h'
      have r1 := rd.isNon
      have r2 := re.isNon
      rw [he] at r2
      refine ⟨of_decide_eq_true r2, ?_⟩
      show Q (.bl (if false = true then _ else decide (v = .non))) H
      rw [if_neg Bool.false_ne_true, r1]
      exact q
    · cases h'
  | notN =>
    have h' : (if isNon e then some (!isNon d) else none) = some r := h
    split at h'
    · rename_i he
      cases h'
      have r1 := rd.isNon
      have r2 := re.isNon
      rw [he] at r2
      refine ⟨of_decide_eq_true r2, ?_⟩
      show Q (.bl (if true = true then !decide (v = .non) else _)) H
      rw [if_pos rfl, r1]
      exact q
    · cases h'
  | inn =>
    rcases mem_ok rel rd re h with ⟨x, ys, h1, h2, h3, h4, h5⟩ | ⟨p, ws, h1, h2, h3, h4, h5⟩ | ⟨a, o, h1, h2, h3⟩ | ⟨a, kvs, p, ss, h1, h2, h3, h4, h5⟩
    · exact .inl (.inl ⟨x, ys, h1, h2, h3, h4, by rw [h5]; exact q⟩)
    · refine .inl (.inr ⟨p, ws, h1, .inr h2, h3, h4, ?_⟩)
      rw [if_neg Bool.false_ne_true, h5]
      exact q
    · refine .inr (.inl ⟨a, o, h1, h2, ?_⟩)
      rw [if_neg Bool.false_ne_true, h3]
      exact q
    · subst h5
      exact .inr (.inr ⟨a, kvs, p, ss, h1, h2, h3, h4, q⟩)
  | nin =>
    rcases mem_ok rel rd re (notO_some h) with ⟨x, ys, h1, h2, h3, h4, h5⟩ | ⟨p, ws, h1, h2, h3, h4, h5⟩ | ⟨a, o, h1, h2, h3⟩ | ⟨a, kvs, p, ss, h1, h2, h3, h4, h5⟩
    · exact .inl (.inl ⟨x, ys, h1, h2, h3, h4, by rw [h5, Bool.not_not]; exact q⟩)
    · refine .inl (.inr ⟨p, ws, h1, .inr h2, h3, h4, ?_⟩)
      rw [if_pos rfl, h5, Bool.not_not]
      exact q
    · refine .inr (.inl ⟨a, o, h1, h2, ?_⟩)
      rw [if_pos rfl, h3, Bool.not_not]
      exact q
    · have e : r = true := by rw [← Bool.not_not r, h5]; rfl
      subst e
      exact .inr (.inr ⟨a, kvs, p, ss, h1, h2, h3, h4, q⟩)
  | isB =>
    have h' : (match asBl d, asBl e with | some x, some y => some (decide (x = y)) | _, _ => none) = some r := h
    split at h'
    · rename_i x y h1 h2
      cases h'
      exact ⟨x, y, rd.bl h1, re.bl h2, q⟩
    · cases h'
  | notB =>
    have h' : (match asBl d, asBl e with | some x, some y => some (!decide (x = y)) | _, _ => none) = some r := h
    split at h'
    · rename_i x y h1 h2
      cases h'
      exact ⟨x, y, rd.bl h1, re.bl h2, q⟩
    · cases h'
/-! ### items -/
theorem atI_RDs {ds : List D} {vs : List V} {i : Int} {x : D} (r : RDs K c ds vs) (h : atI ds i = some x) : ∃ w, L2.atI vs i = some w ∧ RD K c x w := by
  have h' : (L2.ixN ds.length i).bind (fun j => ds[j]?) = some x := h
  cases e : L2.ixN ds.length i with
  | none => rw [e] at h'; cases h'
  | some j =>
    rw [e] at h'
    obtain ⟨w, q1, q2⟩ := r.get (i := j) h'
    refine ⟨w, ?_, q2⟩
    show (L2.ixN vs.length i).bind (fun j => vs[j]?) = some w
    rw [r.len, e]
    exact q1
theorem atI_map {α β : Type} {f : α → β} {xs : List α} {i : Int} {x : α} (h : L2.atI xs i = some x) : L2.atI (xs.map f) i = some (f x) := by
  have h' : (L2.ixN xs.length i).bind (fun j => xs[j]?) = some x := h
  cases e : L2.ixN xs.length i with
  | none => rw [e] at h'; cases h'
  | some j =>
    rw [e] at h'
    have h'' : xs[j]? = some x := h'
    show (L2.ixN (xs.map f).length i).bind (fun j => (xs.map f)[j]?) = some (f x)
    rw [List.length_map, e]
    show (xs.map f)[j]? = some (f x)
    rw [List.getElem?_map, h'']
    rfl
theorem idx_ok {z : D} (rel : Rel K c H) (rd : RD K c d v) (re : RD K c e u) (h : idxV d e c.S = some z) (q : ∀ w, RD K c z w → Q w H) : rIx K v u H Q := by
  unfold idxV at h
  split at h
  · cases h
  · rename_i i hi
    have eu := re.int hi
    split at h
    · rename_i s hs
      split at h
      · rename_i hl
        split at h
        · rename_i x hx
          cases h
          refine .inr (.inr ⟨stC s, i, x.toNat, rd.str hs, eu, ?_, ?_, ?_⟩)
          · rw [stC_len]; exact Nat.le_trans hl lim_line
          · rw [stC_cps]; exact atI_map hx
          · exact q _ (RD.mkStr [x])
        · cases h
      · cases h
    · split at h
      · rename_i ns hs
        split at h
        · rename_i n hx
          cases h
          obtain ⟨a, q1, q2⟩ := rd.scr rel hs
          exact .inl ⟨a, _, i, .int n, q1, eu, q2, atI_map hx, q _ (RD.mkInt n)⟩
        · cases h
      · split at h
        · rename_i ds hs
          obtain ⟨a, vs, q1, q2, q3⟩ := rd.lstOf rel hs
          obtain ⟨w, q4, q5⟩ := atI_RDs q3 h
          exact .inl ⟨a, vs, i, w, q1, eu, SqL.of q2, q4, q w q5⟩
        · split at h
          · rename_i ds hs
            obtain ⟨a, vs, q1, q2, q3⟩ := rd.tupOf rel hs
            obtain ⟨w, q4, q5⟩ := atI_RDs q3 h
            exact .inr (.inl ⟨a, vs, i, w, q1, eu, q2, q4, q w q5⟩)
          · cases h
/-! ### slices -/
def rSlc (K : PySem.W.Frag) : V → Option Int → Option Int → Hp → VK → Prop := fun x lo hi H Q => rSlS x lo hi H Q ∨ rSlL K x lo hi H Q
theorem sl_all : SlR X (rSlc X.K) := sl_str.or sl_list
theorem slc_ok {b : Bool} {lo hi : Option Int} (rel : Rel K c H) (rd : RD K c d v) (h : PR K mg W σ (rD K) c H ((opt (slcV d lo hi c.S) c.S).bind (fin b)) Q) : rSlc K v lo hi H Q := by
  unfold slcV at h
  split at h
  · rename_i s hs
    split at h
    · rename_i hl
      refine .inl ⟨stC s, rd.str hs, by rw [stC_len]; exact Nat.le_trans hl lim_line, ?_⟩
      have e : cutS (stC s) lo hi = stC (cut s lo hi) := by
        unfold cutS cut stC
        simp only [List.map_take, List.map_drop, Str.mk.injEq]
        have e1 : (Str.mk (List.map Char.toNat s).toArray).length = s.length := stC_len s
        rw [e1]
      rw [e]
      exact fin_val rel (RD.mkStr _) h (fun _ xs q => by cases q)
    · exact h.elim
  · split at h
    · rename_i xs hs
      obtain ⟨a, vs, q1, q2, q3⟩ := rd.asL rel hs
      refine .inr ⟨a, vs, q1, SqL.of q2, fun p hp => ?_⟩
      refine fin_lst rel hp ?_ h
      unfold cut cutV
      rw [q3.len]
      exact (q3.drop _).take _
    · exact h.elim
/-! ### truth, kinds, lengths -/
theorem seq_ok {ds : List D} (rel : Rel K c H) (rd : RD K c d v) (h : seqOf c.S d = some ds) : ∃ a vs, v = .ref a ∧ (H a = some (.lst vs) ∨ SqT K H a vs) ∧ RDs K c ds vs := by
  unfold seqOf at h
  split at h
  · rename_i xs hs
    cases h
    obtain ⟨a, vs, q1, q2, q3⟩ := rd.lstOf rel hs
    exact ⟨a, vs, q1, .inl q2, q3⟩
  · obtain ⟨a, vs, q1, q2, q3⟩ := rd.tupOf rel h
    exact ⟨a, vs, q1, .inr q2, q3⟩
theorem isEmpty_len {α β : Type} {xs : List α} {ys : List β} (h : xs.length = ys.length) : xs.isEmpty = ys.isEmpty := by
  cases xs <;> cases ys <;> simp at h ⊢
theorem truth_ok {r : Bool} (rel : Rel K c H) (rd : RD K c d v) (h : truth c.S d = some r) : TruV K v H r := by
  unfold truth at h
  split at h
  · rename_i b hb
    cases h
    rw [rd.bl hb]; rfl
  · split at h
    · rename_i i hi
      cases h
      rw [rd.int hi]; rfl
    · split at h
      · rename_i s hs
        split at h
        · rename_i hl
          cases h
          rw [rd.str hs]
          refine ⟨by rw [stC_len]; exact Nat.le_trans hl lim_line, ?_⟩
          rw [stC_len]
          cases s with
          | nil => rfl
          | cons x s =>
            have e1 : ((x :: s).length != 0) = true := rfl
            have e2 : (((x :: s).length : Int) != 0) = true := by
              rw [bne_iff_ne]
              simp only [List.length_cons]
              omega
            rw [e1, e2]
        · cases h
      · split at h
        · rename_i hn
          cases h
          have q := rd.isNon
          rw [hn] at q
          rw [of_decide_eq_true q]; rfl
        · split at h
          · rename_i ds hs
            cases h
            obtain ⟨a, vs, rfl, q2, q3⟩ := rd.lstOf rel hs
            refine .inl ⟨vs, SqL.of q2, ?_⟩
            rw [isEmpty_len q3.len]
          · split at h
            · rename_i ds hs
              cases h
              obtain ⟨a, vs, rfl, q2, q3⟩ := rd.tupOf rel hs
              refine .inr (.inl ⟨vs, q2, ?_⟩)
              rw [isEmpty_len q3.len]
            · cases h
def kndN : Knd → String
  | .non => "NoneType"
  | .bl => "bool"
  | .int => "int"
  | .str => "str"
  | .tup => "tuple"
  | .lst => "list"
  | .dct => "dict"
def tyN : Ty → String
  | .str => "str"
  | .int => "int"
  | .bool => "bool"
  | .list => "list"
  | .tuple => "tuple"
  | .dict => "dict"
theorem sqT_ty {a : Addr} {vs : List V} (h : SqT K H a vs) : TyX K H (.ref a) (.type "tuple") := by
  rcases h with (h | ⟨o, h⟩) | ⟨o, its, n, h1, h2, _⟩
  · exact .base (.tup h)
  · exact .fTuple h
  · exact .kTuple h1 h2
theorem sqL_ty {a : Addr} {vs : List V} (h : SqL K H a vs) : TyX K H (.ref a) (.type "list") := by
  rcases h with (h | ⟨o, h⟩) | ⟨o, its, n, h1, h2, _⟩
  · exact .base (.lst h)
  · exact .base (.frz h)
  · exact .kList h1 h2
theorem knd_ok {k : Knd} (rel : Rel K c H) (rd : RD K c d v) (h : kndOf c.S d = some k) : TyX K H v (.type (kndN k)) := by
  unfold kndOf at h
  split at h
  · rename_i x
    cases h
    have q := rd.t
    cases x with
    | non => unfold RT at q; subst q; exact .base .non
    | bl b => unfold RT at q; subst q; exact .base (.bl b)
    | int i => unfold RT at q; subst q; exact .base (.int i)
    | str s => unfold RT at q; subst q; exact .base (.str _)
    | tup xs => unfold RT at q; obtain ⟨a, vs, rfl, q2, _⟩ := q; exact sqT_ty (sqT_mono rel.sub q2)
    | lst xs => unfold RT at q; obtain ⟨a, vs, rfl, q2, _⟩ := q; exact .base (.lst (rel.sub _ _ q2))
    | dct ks xs => unfold RT at q; obtain ⟨a, vs, rfl, q2, _⟩ := q; exact .base (.dK (rel.sub _ _ q2))
    | scr ns => unfold RT at q; obtain ⟨a, rfl, q2⟩ := q; exact sqL_ty (sqL_mono rel.sub q2)
  · cases h
    unfold RD at rd
    obtain ⟨a, vs, rfl, q2, _⟩ := rd
    exact sqT_ty (sqT_mono rel.sub q2)
  · rename_i n
    unfold RD at rd
    obtain ⟨a, rfl, h2⟩ := rd
    split at h
    · rename_i xs e
      cases h
      obtain ⟨_, q⟩ := rel.cellAt e h2 (by intro z; cases z)
      unfold RC at q
      obtain ⟨vs, q1, _⟩ := q
      exact .base (.lst q1)
    · rename_i xs e
      cases h
      obtain ⟨_, q⟩ := rel.cellAt e h2 (by intro z; cases z)
      unfold RC at q
      obtain ⟨vs, q1, _⟩ := q
      exact .base (.lst q1)
    · cases h
  · cases h
theorem kit_knd (k : Knd) (t : Ty) : kitB (kndN k) (tyN t) = some (isKnd k t) := by
  cases k <;> cases t <;> decide +kernel
theorem isTy_ok {t : Ty} {r : Bool} (rel : Rel K c H) (rd : RD K c d v) (h : isTy c.S d t = some r) (q : Q (.bl r) H) : rIsi K [v, .ty (tyN t)] H Q := by
  unfold isTy at h
  split at h
  · rename_i k hk
    cases h
    exact ⟨v, .ty (tyN t), .type (kndN k), .type (tyN t), isKnd k t, rfl, .ty _, knd_ok rel rd hk, kit_ty (kit_knd k t), q⟩
  · cases h
theorem len_ok {n : Nat} (rel : Rel K c H) (rd : RD K c d v) (h : lenV c.S d = some n) : LenV K v H n := by
  unfold lenV at h
  split at h
  · rename_i s hs
    split at h
    · rename_i hl
      cases h
      rw [rd.str hs]
      exact ⟨by rw [stC_len]; exact Nat.le_trans hl lim_line, (stC_len s).symm⟩
    · cases h
  · split at h
    · rename_i ns hs
      cases h
      obtain ⟨a, rfl, q2⟩ := rd.scr rel hs
      exact .inl ⟨_, q2, by simp⟩
    · split at h
      · rename_i ds hs
        cases h
        obtain ⟨a, vs, rfl, q2, q3⟩ := seq_ok rel rd hs
        rcases q2 with q2 | q2
        · exact .inl ⟨vs, SqL.of q2, q3.len.symm⟩
        · exact .inr ⟨vs, q2, q3.len.symm⟩
      · cases h
theorem bls_ok : ∀ {ds : List D} {vs : List V} {bs : List Bool}, RDs K c ds vs → blsOf ds = some bs → vs = bs.map V.bl
  | [], vs, bs, r, h => by
    unfold blsOf at h
    cases h
    unfold RDs at r
    subst r
    rfl
  | d :: ds, vs, bs, r, h => by
    unfold blsOf at h
    split at h
    · rename_i b hb
      split at h
      · rename_i bs' hbs
        cases h
        unfold RDs at r
        obtain ⟨v, w, rfl, q2, q3⟩ := r
        rw [q2.bl hb, bls_ok q3 hbs]
        rfl
      · cases h
    · cases h
theorem blsIn_ok {bs : List Bool} (rel : Rel K c H) (rd : RD K c d v) (h : blsIn c.S d = some bs) : ∃ a, v = .ref a ∧ SqL K H a (bs.map V.bl) := by
  unfold blsIn at h
  split at h
  · rename_i xs hs
    obtain ⟨a, vs, q1, q2, q3⟩ := rd.lstOf rel hs
    rw [← bls_ok q3 h]
    exact ⟨a, q1, SqL.of q2⟩
  · cases h
/-! ### dicts by texts -/
theorem zipK_any : ∀ {ks : List Cs} {vs : List V} (c : Cs), ks.length = vs.length → ((zipK ks vs).any fun kv => decide (kv.1 = (Sum.inr (stC c) : Key))) = ks.any fun k => decide (k = c)
  | [], [], c, _ => rfl
  | [], _ :: _, c, h => by cases h
  | _ :: _, [], c, h => by cases h
  | k :: ks, v :: vs, c, h => by
    rw [zipK_cons, List.any_cons, List.any_cons, zipK_any c (by simpa using h)]
    simp only [inr_eq]
theorem zipK_map : ∀ {ks : List Cs} {vs : List V} (c : Cs) (w : V), ks.length = vs.length → ((zipK ks vs).map fun kv => if kv.1 = (Sum.inr (stC c) : Key) then (kv.1, w) else kv) = zipK ks (List.zipWith (fun k v => if k = c then w else v) ks vs)
  | [], [], c, w, _ => rfl
  | [], _ :: _, c, w, h => by cases h
  | _ :: _, [], c, w, h => by cases h
  | k :: ks, v :: vs, c, w, h => by
    rw [zipK_cons, List.map_cons, zipK_map c w (by simpa using h), List.zipWith_cons_cons, zipK_cons]
    by_cases e : k = c
    · rw [if_pos ((inr_eq k c).mpr e), if_pos e]
    · rw [if_neg (fun z => e ((inr_eq k c).mp z)), if_neg e]
theorem zipK_app (ks : List Cs) (vs : List V) (c : Cs) (w : V) (h : ks.length = vs.length) : zipK ks vs ++ [(Sum.inr (stC c), w)] = zipK (ks ++ [c]) (vs ++ [w]) := by
  unfold zipK
  rw [List.map_append, List.zip_append (by simpa using h)]
  rfl
theorem RTs.nil {G : Hp} : RTs K G [] [] := by
  unfold RTs
  rfl
theorem RTs.zipW {G : Hp} {y : T} {w : V} (c : Cs) : ∀ {ks : List Cs} {xs : List T} {vs : List V}, RTs K G xs vs → RT K G y w → RTs K G (List.zipWith (fun k x => if k = c then y else x) ks xs) (List.zipWith (fun k v => if k = c then w else v) ks vs)
  | [], xs, vs, _, _ => RTs.nil
  | k :: ks, [], vs, r, _ => by
    unfold RTs at r
    subst r
    exact RTs.nil
  | k :: ks, x :: xs, vs, r, q => by
    unfold RTs at r
    obtain ⟨v, us, rfl, h2, h3⟩ := r
    rw [List.zipWith_cons_cons, List.zipWith_cons_cons]
    unfold RTs
    refine ⟨_, _, rfl, ?_, RTs.zipW c h3 q⟩
    by_cases e : k = c
    · rw [if_pos e, if_pos e]; exact q
    · rw [if_neg e, if_neg e]; exact h2
theorem putD_ok {G : Hp} {ks : List Cs} {xs : List T} {vs : List V} {c : Cs} {y : T} {w : V} (hl : ks.length = vs.length) (r : RTs K G xs vs) (q : RT K G y w) :
    ∃ ws, putK (zipK ks vs) (Sum.inr (stC c)) w = zipK (putD ks xs c y).1 ws ∧ (putD ks xs c y).1.length = ws.length ∧ RTs K G (putD ks xs c y).2 ws := by
  unfold putK putD
  rw [zipK_any c hl]
  by_cases e : (ks.any fun k => decide (k = c)) = true
  · rw [if_pos e, if_pos e]
    exact ⟨_, zipK_map c w hl, by simp [hl], r.zipW c q⟩
  · rw [if_neg e, if_neg e]
    exact ⟨vs ++ [w], zipK_app ks vs c w hl, by simp [hl], r.app (RTs.one q)⟩
theorem mergeD_ok {G : Hp} : ∀ (ps : List (Cs × T)) {more : List (Key × V)} {ks : List Cs} {xs : List T} {vs : List V}, ks.length = vs.length → RTs K G xs vs → Paired (fun p kv => kv.1 = (Sum.inr (stC p.1) : Key) ∧ RT K G p.2 kv.2) ps more →
    ∃ ws, (more.foldl (fun acc kv => putK acc kv.1 kv.2) (zipK ks vs)) = zipK (mergeD ks xs ps).1 ws ∧ (mergeD ks xs ps).1.length = ws.length ∧ RTs K G (mergeD ks xs ps).2 ws
  | [], more, ks, xs, vs, hl, r, p => by
    cases p
    exact ⟨vs, rfl, hl, r⟩
  | q :: ps, more, ks, xs, vs, hl, r, p => by
    cases p with
    | cons a b =>
      rename_i kv more
      rw [List.foldl_cons, a.1]
      obtain ⟨ws, e1, e2, e3⟩ := putD_ok (c := q.1) hl r a.2
      rw [e1]
      exact mergeD_ok ps e2 e3 b
theorem pairs_ok {G : Hp} : ∀ {xs : List T} {ps : List (Cs × T)} {vs : List V}, pairsT xs = some ps → RTs K G xs vs →
    ∃ (as : List Addr) (kvs : List (Key × V)), vs = as.map V.ref ∧ Paired (fun p kv => SqT K G p [kV kv.1, kv.2]) as kvs ∧ Paired (fun p kv => kv.1 = (Sum.inr (stC p.1) : Key) ∧ RT K G p.2 kv.2) ps kvs
  | [], ps, vs, h, r => by
    unfold pairsT at h
    cases h
    unfold RTs at r
    subst r
    exact ⟨[], [], rfl, .nil, .nil⟩
  | x :: xs, ps, vs, h, r => by
    unfold pairsT at h
    split at h
    · rename_i e; cases e
    · rename_i k v r' e
      cases e
      split at h
      · rename_i ps' e2
        cases h
        unfold RTs at r
        obtain ⟨u, us, rfl, h2, h3⟩ := r
        unfold RT at h2
        obtain ⟨a, ws, rfl, h4, h5⟩ := h2
        unfold RTs at h5
        obtain ⟨w1, w2, rfl, h6, h7⟩ := h5
        unfold RTs at h7
        obtain ⟨w3, w4, rfl, h8, h9⟩ := h7
        unfold RTs at h9
        subst h9
        unfold RT at h6
        subst h6
        obtain ⟨as, kvs, e3, e4, e5⟩ := pairs_ok e2 h3
        refine ⟨a :: as, (Sum.inr (stC k), w3) :: kvs, by rw [e3]; rfl, .cons h4 e4, .cons ⟨rfl, h8⟩ e5⟩
      · cases h
    · cases h
theorem getD_ok {G : Hp} : ∀ {ks : List Cs} {xs : List T} {vs : List V} {c : Cs} {x : T}, getD ks xs c = some x → ks.length = vs.length → RTs K G xs vs → ∃ w, valV (zipK ks vs) (Sum.inr (stC c)) = some w ∧ RT K G x w
  | [], xs, vs, c, x, h, _, _ => by
    unfold getD at h
    cases h
  | k :: ks, [], vs, c, x, h, _, _ => by
    unfold getD at h
    cases h
  | k :: ks, y :: xs, vs, c, x, h, hl, r => by
    unfold getD at h
    unfold RTs at r
    obtain ⟨v, us, rfl, h2, h3⟩ := r
    rw [zipK_cons]
    unfold valV
    rw [List.find?_cons]
    by_cases e : k = c
    · rw [if_pos e] at h
      cases h
      simp only [(inr_eq k c).mpr e, decide_true]
      exact ⟨v, rfl, h2⟩
    · rw [if_neg e] at h
      have ne : ¬ ((Sum.inr (stC k) : Key) = Sum.inr (stC c)) := fun z => e ((inr_eq k c).mp z)
      simp only [ne, decide_false]
      obtain ⟨w, q1, q2⟩ := getD_ok h (by simpa using hl) h3
      exact ⟨w, q1, q2⟩
end
end Kp
/-! sorted of ints, texts, tuples of such. -/
namespace Kp
open PySem L2 PyProof.Rows
/-! ### the order -/
mutual
theorem shEq_symm : ∀ (x y : T), shEq x y = true → shEq y x = true
  | .int _, y, h => by cases y <;> first | rfl | (simp [shEq] at h)
  | .str _, y, h => by cases y <;> first | rfl | (simp [shEq] at h)
  | .tup xs, y, h => by
    cases y with
    | tup ys => simp only [shEq] at h ⊢; exact shEqs_symm xs ys h
    | _ => simp [shEq] at h
  | .non, y, h => by cases y <;> simp [shEq] at h
  | .bl _, y, h => by cases y <;> simp [shEq] at h
  | .lst _, y, h => by cases y <;> simp [shEq] at h
  | .dct _ _, y, h => by cases y <;> simp [shEq] at h
  | .scr _, y, h => by cases y <;> simp [shEq] at h
theorem shEqs_symm : ∀ (xs ys : List T), shEqs xs ys = true → shEqs ys xs = true
  | [], [], _ => rfl
  | [], _ :: _, h => by simp [shEqs] at h
  | _ :: _, [], h => by simp [shEqs] at h
  | x :: xs, y :: ys, h => by
    simp only [shEqs, Bool.and_eq_true] at h ⊢
    exact ⟨shEq_symm x y h.1, shEqs_symm xs ys h.2⟩
end
mutual
theorem shEq_trans : ∀ (x y z : T), shEq x y = true → shEq y z = true → shEq x z = true
  | .int _, y, z, h, q => by
    cases y <;> (try (simp [shEq] at h; done))
    cases z <;> first | rfl | (simp [shEq] at q)
  | .str _, y, z, h, q => by
    cases y <;> (try (simp [shEq] at h; done))
    cases z <;> first | rfl | (simp [shEq] at q)
  | .tup xs, y, z, h, q => by
    cases y with
    | tup ys =>
      cases z with
      | tup zs => simp only [shEq] at h q ⊢; exact shEqs_trans xs ys zs h q
      | _ => simp [shEq] at q
    | _ => simp [shEq] at h
  | .non, y, _, h, _ => by cases y <;> simp [shEq] at h
  | .bl _, y, _, h, _ => by cases y <;> simp [shEq] at h
  | .lst _, y, _, h, _ => by cases y <;> simp [shEq] at h
  | .dct _ _, y, _, h, _ => by cases y <;> simp [shEq] at h
  | .scr _, y, _, h, _ => by cases y <;> simp [shEq] at h
theorem shEqs_trans : ∀ (xs ys zs : List T), shEqs xs ys = true → shEqs ys zs = true → shEqs xs zs = true
  | [], ys, zs, h, q => by
    cases ys with
    | nil => exact q
    | cons => simp [shEqs] at h
  | x :: xs, ys, zs, h, q => by
    cases ys with
    | nil => simp [shEqs] at h
    | cons y ys =>
      cases zs with
      | nil => simp [shEqs] at q
      | cons z zs =>
        simp only [shEqs, Bool.and_eq_true] at h q ⊢
        exact ⟨shEq_trans x y z h.1 q.1, shEqs_trans xs ys zs h.2 q.2⟩
end
mutual
theorem eqT_iff : ∀ (x y : T), shEq x y = true → (eqT x y = true ↔ x = y)
  | .int i, y, h => by
    cases y with
    | int j => simp [eqT]
    | _ => simp [shEq] at h
  | .str s, y, h => by
    cases y with
    | str t => simp [eqT]
    | _ => simp [shEq] at h
  | .tup xs, y, h => by
    cases y with
    | tup ys =>
      simp only [shEq] at h
      simp only [eqT, T.tup.injEq]
      exact eqTs_iff xs ys h
    | _ => simp [shEq] at h
  | .non, y, h => by cases y <;> simp [shEq] at h
  | .bl _, y, h => by cases y <;> simp [shEq] at h
  | .lst _, y, h => by cases y <;> simp [shEq] at h
  | .dct _ _, y, h => by cases y <;> simp [shEq] at h
  | .scr _, y, h => by cases y <;> simp [shEq] at h
theorem eqTs_iff : ∀ (xs ys : List T), shEqs xs ys = true → (eqTs xs ys = true ↔ xs = ys)
  | [], [], _ => by simp [eqTs]
  | [], _ :: _, h => by simp [shEqs] at h
  | _ :: _, [], h => by simp [shEqs] at h
  | x :: xs, y :: ys, h => by
    simp only [shEqs, Bool.and_eq_true] at h
    simp only [eqTs, Bool.and_eq_true, List.cons.injEq, eqT_iff x y h.1, eqTs_iff xs ys h.2]
end
theorem ltS_irr : ∀ a : Cs, ltS a a = false
  | [] => rfl
  | x :: a => by simp [ltS, ltS_irr a]
theorem ltS_asym : ∀ a b : Cs, ltS a b = true → ltS b a = false
  | [], [], h => by simp [ltS] at h
  | [], _ :: _, _ => rfl
  | _ :: _, [], h => by simp [ltS] at h
  | x :: a, y :: b, h => by
    unfold ltS at h ⊢
    by_cases e : x.toNat = y.toNat
    · rw [if_pos e] at h; rw [if_pos e.symm]; exact ltS_asym a b h
    · rw [if_neg e] at h; rw [if_neg (Ne.symm e)]
      have := of_decide_eq_true h
      exact decide_eq_false (by omega)
theorem ltS_tri : ∀ a b : Cs, ltS a b = false → ltS b a = false → a = b
  | [], [], _, _ => rfl
  | [], _ :: _, h, _ => by simp [ltS] at h
  | _ :: _, [], _, h => by simp [ltS] at h
  | x :: a, y :: b, h, q => by
    unfold ltS at h q
    by_cases e : x.toNat = y.toNat
    · rw [if_pos e] at h; rw [if_pos e.symm] at q
      rw [toNat_inj e, ltS_tri a b h q]
    · rw [if_neg e] at h; rw [if_neg (Ne.symm e)] at q
      have := of_decide_eq_false h
      have := of_decide_eq_false q
      omega
theorem ltS_trans : ∀ a b c : Cs, ltS a b = true → ltS b c = true → ltS a c = true
  | [], b, [], h, q => by cases b <;> simp [ltS] at h q
  | [], _, _ :: _, _, _ => rfl
  | _ :: _, [], _, h, _ => by simp [ltS] at h
  | _ :: _, _ :: _, [], _, q => by simp [ltS] at q
  | x :: a, y :: b, z :: c, h, q => by
    unfold ltS at h q ⊢
    by_cases e : x.toNat = y.toNat
    · rw [if_pos e] at h
      by_cases f : y.toNat = z.toNat
      · rw [if_pos f] at q; rw [if_pos (e.trans f)]; exact ltS_trans a b c h q
      · rw [if_neg f] at q; rw [if_neg (fun g => f (e.symm.trans g))]
        have := of_decide_eq_true q
        exact decide_eq_true (by omega)
    · rw [if_neg e] at h
      have h := of_decide_eq_true h
      by_cases f : y.toNat = z.toNat
      · rw [if_neg (fun g => by omega)]
        exact decide_eq_true (by omega)
      · rw [if_neg f] at q
        have := of_decide_eq_true q
        rw [if_neg (fun g => by omega)]
        exact decide_eq_true (by omega)
theorem eqT_refl' (x : T) (h : shEq x x = true) : eqT x x = true := (eqT_iff x x h).mpr rfl
mutual
theorem ltT_asym : ∀ (x y : T), shEq x y = true → ltT x y = true → ltT y x = false
  | .int i, y, h, q => by
    cases y with
    | int j =>
      simp only [ltT, decide_eq_true_eq, decide_eq_false_iff_not] at q ⊢
      omega
    | _ => simp [shEq] at h
  | .str s, y, h, q => by
    cases y with
    | str t => simp only [ltT] at q ⊢; exact ltS_asym s t q
    | _ => simp [shEq] at h
  | .tup xs, y, h, q => by
    cases y with
    | tup ys => simp only [ltT, shEq] at h q ⊢; exact ltTs_asym xs ys h q
    | _ => simp [shEq] at h
  | .non, y, h, _ => by cases y <;> simp [shEq] at h
  | .bl _, y, h, _ => by cases y <;> simp [shEq] at h
  | .lst _, y, h, _ => by cases y <;> simp [shEq] at h
  | .dct _ _, y, h, _ => by cases y <;> simp [shEq] at h
  | .scr _, y, h, _ => by cases y <;> simp [shEq] at h
theorem ltTs_asym : ∀ (xs ys : List T), shEqs xs ys = true → ltTs xs ys = true → ltTs ys xs = false
  | [], _, _, h => by simp [ltTs] at h
  | _ :: _, [], _, h => by simp [ltTs] at h
  | x :: xs, y :: ys, h, q => by
    simp only [shEqs, Bool.and_eq_true] at h
    unfold ltTs at q ⊢
    by_cases e : eqT x y = true
    · rw [if_pos e] at q
      have := (eqT_iff x y h.1).mp e
      subst this
      rw [if_pos e]
      exact ltTs_asym xs ys h.2 q
    · rw [if_neg e] at q
      rw [if_neg (fun z => e ((eqT_iff x y h.1).mpr ((eqT_iff y x (shEq_symm _ _ h.1)).mp z).symm))]
      exact ltT_asym x y h.1 q
end
mutual
theorem ltT_tri : ∀ (x y : T), shEq x y = true → ltT x y = false → ltT y x = false → x = y
  | .int i, y, h, q, r => by
    cases y with
    | int j =>
      simp only [ltT, decide_eq_false_iff_not] at q r
      rw [show i = j by omega]
    | _ => simp [shEq] at h
  | .str s, y, h, q, r => by
    cases y with
    | str t => simp only [ltT] at q r; rw [ltS_tri s t q r]
    | _ => simp [shEq] at h
  | .tup xs, y, h, q, r => by
    cases y with
    | tup ys => simp only [ltT, shEq] at h q r; rw [ltTs_tri xs ys h q r]
    | _ => simp [shEq] at h
  | .non, y, h, _, _ => by cases y <;> simp [shEq] at h
  | .bl _, y, h, _, _ => by cases y <;> simp [shEq] at h
  | .lst _, y, h, _, _ => by cases y <;> simp [shEq] at h
  | .dct _ _, y, h, _, _ => by cases y <;> simp [shEq] at h
  | .scr _, y, h, _, _ => by cases y <;> simp [shEq] at h
theorem ltTs_tri : ∀ (xs ys : List T), shEqs xs ys = true → ltTs xs ys = false → ltTs ys xs = false → xs = ys
  | [], [], _, _, _ => rfl
  | [], _ :: _, h, _, _ => by simp [shEqs] at h
  | _ :: _, [], h, _, _ => by simp [shEqs] at h
  | x :: xs, y :: ys, h, q, r => by
    simp only [shEqs, Bool.and_eq_true] at h
    unfold ltTs at q r
    by_cases e : eqT x y = true
    · rw [if_pos e] at q
      have z := (eqT_iff x y h.1).mp e
      subst z
      rw [if_pos e] at r
      rw [ltTs_tri xs ys h.2 q r]
    · rw [if_neg e] at q
      rw [if_neg (fun z => e ((eqT_iff x y h.1).mpr ((eqT_iff y x (shEq_symm _ _ h.1)).mp z).symm))] at r
      exact absurd ((eqT_iff x y h.1).mpr (ltT_tri x y h.1 q r)) e
end
mutual
theorem ltT_trans : ∀ (x y z : T), shEq x y = true → shEq y z = true → ltT x y = true → ltT y z = true → ltT x z = true
  | .int i, y, z, h, g, q, r => by
    cases y <;> (try (simp [shEq] at h; done))
    cases z <;> (try (simp [shEq] at g; done))
    simp only [ltT, decide_eq_true_eq] at q r ⊢
    omega
  | .str s, y, z, h, g, q, r => by
    cases y <;> (try (simp [shEq] at h; done))
    cases z <;> (try (simp [shEq] at g; done))
    simp only [ltT] at q r ⊢
    exact ltS_trans _ _ _ q r
  | .tup xs, y, z, h, g, q, r => by
    cases y <;> (try (simp [shEq] at h; done))
    cases z <;> (try (simp [shEq] at g; done))
    simp only [ltT, shEq] at h g q r ⊢
    exact ltTs_trans _ _ _ h g q r
  | .non, y, _, h, _, _, _ => by cases y <;> simp [shEq] at h
  | .bl _, y, _, h, _, _, _ => by cases y <;> simp [shEq] at h
  | .lst _, y, _, h, _, _, _ => by cases y <;> simp [shEq] at h
  | .dct _ _, y, _, h, _, _, _ => by cases y <;> simp [shEq] at h
  | .scr _, y, _, h, _, _, _ => by cases y <;> simp [shEq] at h
theorem ltTs_trans : ∀ (xs ys zs : List T), shEqs xs ys = true → shEqs ys zs = true → ltTs xs ys = true → ltTs ys zs = true → ltTs xs zs = true
  | [], _, _, _, _, q, _ => by simp [ltTs] at q
  | _ :: _, [], _, _, _, q, _ => by simp [ltTs] at q
  | _ :: _, _ :: _, [], _, _, _, r => by simp [ltTs] at r
  | x :: xs, y :: ys, z :: zs, h, g, q, r => by
    simp only [shEqs, Bool.and_eq_true] at h g
    unfold ltTs at q r ⊢
    by_cases e : eqT x y = true
    · have e' := (eqT_iff x y h.1).mp e
      subst e'
      rw [if_pos e] at q
      by_cases f : eqT x z = true
      · rw [if_pos f] at r ⊢
        exact ltTs_trans xs ys zs h.2 g.2 q r
      · rw [if_neg f] at r ⊢
        exact r
    · rw [if_neg e] at q
      by_cases f : eqT y z = true
      · have f' := (eqT_iff y z g.1).mp f
        subst f'
        rw [if_neg e]
        exact q
      · rw [if_neg f] at r
        have t := ltT_trans x y z h.1 g.1 q r
        rw [if_neg (fun w => ?_)]
        · exact t
        · have w' := (eqT_iff x z (shEq_trans _ _ _ h.1 g.1)).mp w
          subst w'
          have := ltT_asym x y h.1 q
          rw [r] at this
          cases this
end
/-- .. as the sort machine wants it -/
theorem ltT_nt {x y z : T} (h : shEq x y = true) (g : shEq y z = true) (q : ltT x y = false) (r : ltT y z = false) : ltT x z = false := by
  cases e : ltT x z with
  | false => rfl
  | true =>
    cases f : ltT y x with
    | true =>
      have := ltT_trans y x z (shEq_symm _ _ h) (shEq_trans _ _ _ h g) f e
      rw [r] at this
      cases this
    | false =>
      have := ltT_tri x y h q f
      subst this
      rw [r] at e
      cases e
/-! ### the list sorted -/
theorem sortT_perm (xs : List T) : (sortT xs).Perm xs := List.mergeSort_perm _ _
/-- one form -/
def OneSh (xs : List T) : Prop := ∀ x ∈ xs, ∀ y ∈ xs, shEq x y = true
theorem sortable_sh {xs : List T} (h : sortable xs = true) : OneSh xs ∧ xs.length ≤ lim ∧ (∀ x ∈ xs, plainN 8 x = true) := by
  cases xs with
  | nil => exact ⟨fun x hx => by simp at hx, Nat.zero_le _, fun x hx => by simp at hx⟩
  | cons x r =>
    unfold sortable at h
    simp only [Bool.and_eq_true, decide_eq_true_eq, List.all_eq_true] at h
    obtain ⟨⟨h1, h2⟩, h3⟩ := h
    refine ⟨fun a ha b hb => shEq_trans _ x _ (shEq_symm _ _ (h1 a ha).1) (h1 b hb).1, by simp only [List.length_cons]; omega, fun a ha => (h1 a ha).2⟩
theorem leT_trans {xs : List T} (h : OneSh xs) : ∀ a b c : {x // x ∈ xs}, (!ltT b.1 a.1) = true → (!ltT c.1 b.1) = true → (!ltT c.1 a.1) = true := fun a b c q r => by
  simp only [Bool.not_eq_true'] at q r ⊢
  exact ltT_nt (h c.1 c.2 b.1 b.2) (h b.1 b.2 a.1 a.2) r q
theorem sorted_uniq : ∀ {xs ys : List T}, OneSh xs → xs.Perm ys → xs.Pairwise (fun x y => ltT y x = false) → ys.Pairwise (fun x y => ltT y x = false) → xs = ys
  | [], ys, _, p, _, _ => (List.Perm.eq_nil p.symm).symm
  | x :: xs, [], _, p, _, _ => absurd p.length_eq (by simp)
  | x :: xs, y :: ys, h, p, hx, hy => by
    have hx' := List.pairwise_cons.mp hx
    have hy' := List.pairwise_cons.mp hy
    have self : ∀ z, z ∈ x :: xs → ltT z z = false := fun z hz => by
      cases e : ltT z z with
      | false => rfl
      | true => have := ltT_asym z z (h z hz z hz) e; rw [e] at this; cases this
    have my : y ∈ x :: xs := p.mem_iff.mpr List.mem_cons_self
    have mx : x ∈ y :: ys := p.mem_iff.mp List.mem_cons_self
    have e1 : ltT y x = false := by
      rcases List.mem_cons.mp my with e | e
      · rw [e]; exact self x List.mem_cons_self
      · exact hx'.1 y e
    have e2 : ltT x y = false := by
      rcases List.mem_cons.mp mx with e | e
      · rw [e]; exact self y my
      · exact hy'.1 x e
    have e := ltT_tri x y (h x List.mem_cons_self y my) e2 e1
    subst e
    rw [sorted_uniq (fun a ha b hb => h a (List.mem_cons_of_mem _ ha) b (List.mem_cons_of_mem _ hb)) p.cons_inv hx'.2 hy'.2]
theorem merge_pair {xs : List T} (h : OneSh xs) : (sortT xs).Pairwise (fun x y => ltT y x = false) := by
  have key := List.pairwise_mergeSort (le := fun (x y : {x // x ∈ xs}) => !ltT y.1 x.1) (leT_trans h) (fun a b => by
    cases e : ltT b.1 a.1 with
    | false => simp
    | true => simp [ltT_asym b.1 a.1 (h b.1 b.2 a.1 a.2) e]) xs.attach
  have e : sortT xs = (xs.attach.mergeSort fun x y => !ltT y.1 x.1).map Subtype.val := by
    unfold sortT
    have := List.map_mergeSort (r := fun (x y : {x // x ∈ xs}) => !ltT y.1 x.1) (s := fun x y => !ltT y x) (f := Subtype.val) (l := xs.attach) (fun a _ b _ => rfl)
    rw [this, List.attach_map_subtype_val]
  rw [e, List.pairwise_map]
  exact key.imp fun {a b} q => by simpa using q
theorem sortT_uniq {xs ys : List T} (h : OneSh xs) (p : ys.Perm xs) (s : ys.Pairwise (fun x y => ltT y x = false)) : ys = sortT xs :=
  sorted_uniq (fun a ha b hb => h a (p.mem_iff.mp ha) b (p.mem_iff.mp hb)) (p.trans (sortT_perm xs).symm) s (merge_pair h)
end Kp
/-! sorted: the library's rule. -/
namespace Kp
open PySem PySem.W L2 PyProof.Rows
theorem cps_lt (a b : Cs) : decide ((stC a).cps.toList < (stC b).cps.toList) = ltS a b := by
  rw [stC_cps, stC_cps, ← ltS_eq]
mutual
theorem alike_py : ∀ (x y : T), shEq x y = true → alike (toPy x) (toPy y) = true
  | .int _, y, h => by cases y <;> first | (simp [shEq] at h; done) | simp [toPy, alike]
  | .str _, y, h => by cases y <;> first | (simp [shEq] at h; done) | simp [toPy, alike]
  | .tup xs, y, h => by
    cases y with
    | tup ys => simp only [toPy, alike]; exact alikes_py xs ys (by simpa [shEq] using h)
    | _ => simp [shEq] at h
  | .non, y, h => by cases y <;> simp [shEq] at h
  | .bl _, y, h => by cases y <;> simp [shEq] at h
  | .lst _, y, h => by cases y <;> simp [shEq] at h
  | .dct _ _, y, h => by cases y <;> simp [shEq] at h
  | .scr _, y, h => by cases y <;> simp [shEq] at h
theorem alikes_py : ∀ (xs ys : List T), shEqs xs ys = true → alikeAll (toPys xs) (toPys ys) = true
  | [], ys, h => by cases ys <;> simp [toPys, alikeAll]
  | _ :: _, [], h => by simp [shEqs] at h
  | x :: xs, y :: ys, h => by
    simp only [shEqs, Bool.and_eq_true] at h
    simp only [toPys, alikeAll, Bool.and_eq_true]
    exact ⟨alike_py x y h.1, alikes_py xs ys h.2⟩
end
mutual
theorem lt_py : ∀ (x y : T), shEq x y = true → (∃ n, plainN n x = true) → (∃ n, plainN n y = true) → dataLt (toPy x) (toPy y) = ltT x y
  | .int i, y, h, _, _ => by
    cases y <;> (try (simp [shEq] at h; done))
    simp only [toPy, ltT]
    exact dataLt_int _ _
  | .str a, y, h, _, _ => by
    cases y <;> (try (simp [shEq] at h; done))
    simp only [toPy, ltT]
    rw [dataLt_str, cps_lt]
  | .tup xs, y, h, hx, hy => by
    cases y with
    | tup ys =>
      simp only [toPy, ltT]
      rw [dataLt_tuple]
      exact lts_py xs ys (by simpa [shEq] using h) (by
        obtain ⟨n, q⟩ := hx
        cases n with
        | zero => simp [plainN] at q
        | succ n => exact ⟨n, by simpa [plainN] using q⟩) (by
        obtain ⟨n, q⟩ := hy
        cases n with
        | zero => simp [plainN] at q
        | succ n => exact ⟨n, by simpa [plainN] using q⟩)
    | _ => simp [shEq] at h
  | .non, y, h, _, _ => by cases y <;> simp [shEq] at h
  | .bl _, y, h, _, _ => by cases y <;> simp [shEq] at h
  | .lst _, y, h, _, _ => by cases y <;> simp [shEq] at h
  | .dct _ _, y, h, _, _ => by cases y <;> simp [shEq] at h
  | .scr _, y, h, _, _ => by cases y <;> simp [shEq] at h
theorem lts_py : ∀ (xs ys : List T), shEqs xs ys = true → (∃ n, xs.all (plainN n) = true) → (∃ n, ys.all (plainN n) = true) → PyProof.Rows.lexLt itemOrd (keyToksAll (toPys xs)) (keyToksAll (toPys ys)) = ltTs xs ys
  | [], [], _, _, _ => by
    simp only [toPys, ltTs]
    exact lex_irrefl _
  | [], _ :: _, h, _, _ => by simp [shEqs] at h
  | _ :: _, [], h, _, _ => by simp [shEqs] at h
  | x :: xs, y :: ys, h, hx, hy => by
    simp only [shEqs, Bool.and_eq_true] at h
    obtain ⟨n, p⟩ := hx
    obtain ⟨m, q⟩ := hy
    simp only [List.all_cons, Bool.and_eq_true] at p q
    simp only [toPys, ltTs]
    rw [dataLt_cons (alike_py x y h.1), eqT_py x y ⟨n, p.1⟩ ⟨m, q.1⟩, lts_py xs ys h.2 ⟨n, p.2⟩ ⟨m, q.2⟩, lt_py x y h.1 ⟨n, p.1⟩ ⟨m, q.1⟩]
end
theorem merge_congr {α : Type} {f g : α → α → Bool} (l : List α) (h : ∀ a ∈ l, ∀ b ∈ l, f a b = g a b) : l.mergeSort f = l.mergeSort g := by
  have e1 := List.map_mergeSort (r := fun (x y : {x // x ∈ l}) => f x.1 y.1) (s := f) (f := Subtype.val) (l := l.attach) (fun a _ b _ => rfl)
  have e2 := List.map_mergeSort (r := fun (x y : {x // x ∈ l}) => f x.1 y.1) (s := g) (f := Subtype.val) (l := l.attach) (fun a _ b _ => h a.1 a.2 b.1 b.2)
  rw [List.attach_map_subtype_val] at e1 e2
  rw [← e1, ← e2]
theorem sort_py {xs : List T} (h : sortable xs = true) : xs.mergeSort (dataLe false toPy) = sortT xs := by
  obtain ⟨h1, h2, h3⟩ := sortable_sh h
  unfold sortT
  rw [dataLe_eq]
  refine merge_congr _ fun a ha b hb => ?_
  show (!dataLt (toPy b) (toPy a)) = _
  rw [lt_py b a (h1 b hb a ha) ⟨8, h3 b hb⟩ ⟨8, h3 a ha⟩]
theorem sortable_ok {xs : List T} (h : sortable xs = true) : Sortable (xs.map toPy) := by
  cases xs with
  | nil => exact .inl fun d hd => by simp at hd
  | cons x r =>
    obtain ⟨h1, _, _⟩ := sortable_sh h
    unfold sortable at h
    simp only [Bool.and_eq_true] at h
    have hx := h.1.2
    cases x with
    | tup zs =>
      refine .inl fun d hd => ?_
      obtain ⟨y, hy, rfl⟩ := List.mem_map.mp hd
      have q := h1 _ List.mem_cons_self y hy
      cases zs with
      | nil => exact absurd hx Bool.false_ne_true
      | cons z zs =>
        cases y with
        | tup ys =>
          cases ys with
          | nil => simp [shEq, shEqs] at q
          | cons y ys => exact ⟨_, _, by simp only [toPy, toPys]; rfl⟩
        | _ => simp [shEq] at q
    | int i =>
      refine .inr fun d hd => ?_
      obtain ⟨y, hy, rfl⟩ := List.mem_map.mp hd
      have q := h1 _ List.mem_cons_self y hy
      cases y <;> first | (simp [shEq] at q; done) | exact ⟨by simp [toPy], fun xs => by simp [toPy]⟩
    | str i =>
      refine .inr fun d hd => ?_
      obtain ⟨y, hy, rfl⟩ := List.mem_map.mp hd
      have q := h1 _ List.mem_cons_self y hy
      cases y <;> first | (simp [shEq] at q; done) | exact ⟨by simp [toPy], fun xs => by simp [toPy]⟩
    | _ =>
      have q := h1 _ List.mem_cons_self _ List.mem_cons_self
      simp [shEq] at q
/-- sorted(xs) -/
def rSrt (K : PySem.W.Frag) : List V → Hp → VK → Prop := fun vs H Q => ∃ (a : Addr) (ws : List V) (G : Hp) (xs : List T), vs = [.ref a] ∧ SqL K H a ws ∧ (∀ a o, G a = some o → H a = some o) ∧ RTs K G xs ws ∧ sortable xs = true ∧
  ∀ ws' p, RTs K G (sortT xs) ws' → H p = none → Q (.ref p) (upd H p (.lst ws'))
section
variable {X : Cx}
theorem each_of {K : PySem.W.Frag} {G : Hp} : ∀ {xs : List T} {ws : List V} {its : List Value}, RTs K G xs ws → Vals ws its → EachIs (fun v x => ∃ w, RelV w v ∧ RT K G x w) its xs
  | [], ws, its, h, r => by
    unfold RTs at h
    subst h
    cases r
    exact .nil
  | x :: xs, ws, its, h, r => by
    unfold RTs at h
    obtain ⟨w, ws', rfl, h2, h3⟩ := h
    cases r with
    | cons r1 r2 => exact .cons ⟨w, r1, h2⟩ (each_of h3 r2)
theorem of_each {K : PySem.W.Frag} {G : Hp} : ∀ {xs : List T} {its : List Value}, EachIs (fun v x => ∃ w, RelV w v ∧ RT K G x w) its xs → ∃ ws, RTs K G xs ws ∧ Vals ws its
  | _, _, .nil => ⟨[], RTs.nil, .nil⟩
  | _, _, .cons ⟨w, h1, h2⟩ t => by
    obtain ⟨ws, h3, h4⟩ := of_each t
    exact ⟨w :: ws, by unfold RTs; exact ⟨w, ws, rfl, h2, h3⟩, .cons h1 h4⟩
theorem cr_srt {kk : Nat} (hr : Room kk X.A) : CallR X (.builtin "sorted") (rSrt X.K) := by
  intro pins s σ H vs us Q I r h
  obtain ⟨a, ws, G, xs, rfl, hs, sub, rts, hso, q⟩ := h
  obtain ⟨its, rv, hl, hz⟩ := I.list hs
  rw [Vals.ref1 r]
  obtain ⟨h1, h2, h3⟩ := sortable_sh hso
  have e := each_of rts rv
  have hu := hr.un
  have hal : AllAlike (xs.map toPy) := fun d hd d' hd' => by
    obtain ⟨x, hx, rfl⟩ := List.mem_map.mp hd
    obtain ⟨y, hy, rfl⟩ := List.mem_map.mp hd'
    exact alike_py x y (h1 x hx y hy)
  have er : EachIs (fun v b => ∃ as, Reads s.heap v (toPy b) as) its xs := (each_mem e).mono fun v x ⟨⟨w, hw, hx⟩, hm⟩ => Dp.reads I (toPy x) w v (RT.dp sub x ⟨8, h3 x hm⟩ hx) hw
  refine sorted_data hl.isList e er hal (sortable_ok hso) (Nat.le_trans h2 lim_line) (fun x hx => ?_) fun out ho eo => ?_
  · have := (plain_canLay 8 x (h3 x hx)).2
    omega
  · rw [sort_py hso] at eo
    obtain ⟨ws', w1, w2⟩ := of_each eo
    obtain ⟨ep, he'⟩ := PyProof.Rows.sortedAll_at s.heap its out.toArray
    have hlen : ws'.length ≤ sizeLine := by
      rw [w1.len, (sortT_perm xs).length_eq]
      exact Nat.le_trans h2 lim_line
    exact ⟨.ref _, upd H (s.heap.objs.size + 1) (.lst ws'), I.laid (t' := s.toks) (fun _ _ => PyProof.Rows.sortedAll_old) (Nat.le_succ _) ⟨hlen, out, ep, w2, he'⟩, rfl, q _ _ w1 (I.hok.fresh (Nat.le_succ _))⟩
end
end Kp
/-! Built-ins. -/
namespace Kp
open PySem L2
section
variable {X : Cx} {K : PySem.W.Frag} {mg : Str → Option Value} {W : WX} {σ : L2.St} {c : Cfg} {H : Hp} {d e : D} {v u : V} {Q : VK}
def rBi (K : PySem.W.Frag) : Bi → List V → Hp → VK → Prop
  | .len => fun xs H Q => ∃ x n, xs = [x] ∧ LenV K x H n ∧ Q (.int n) H
  | .all => rAll K
  | .any => rAny K
  | .max2 => fun xs H Q => ∃ i j, xs = [.int i, .int j] ∧ Q (.int (if j > i then j else i)) H
  | .min2 => fun xs H Q => ∃ i j, xs = [.int i, .int j] ∧ Q (.int (if j < i then j else i)) H
  | .int1 => fun xs H Q => (∃ i, xs = [.int i] ∧ Q (.int i) H) ∨ ∃ k, xs = [.bl k] ∧ Q (.int (if k then 1 else 0)) H
  | .list => fun xs H Q => ∃ p ys, xs = [.ref p] ∧ (SqL K H p ys ∨ SqT K H p ys) ∧ ∀ l, H l = none → Q (.ref l) (upd H l (.lst ys))
  | .dict => fun xs H Q => ∃ (a : Addr) (ps : List Addr) (kvs : List (Key × V)), xs = [.ref a] ∧ SqL K H a (ps.map V.ref) ∧ Paired (fun p kv => SqT K H p [kV kv.1, kv.2]) ps kvs ∧ ∀ p, H p = none → Q (.ref p) (upd H p (.dK (mergeK [] kvs)))
  | .tuple => fun xs H Q => ∃ p ys, xs = [.ref p] ∧ ((SqL K H p ys ∧ ∀ l, H l = none → Q (.ref l) (upd H l (.tup ys))) ∨ (SqT K H p ys ∧ Q (.ref p) H))
  | .sorted => rSrt K
  | .repr => fun xs H Q => (∃ v d, xs = [v] ∧ Dp K H v d ∧ SeqAt.shaped d = true ∧ d.showable = true ∧ d.shown.length ≤ sizeLine ∧ Q (.str d.shown) H) ∨ ∃ a, xs = [.ref a] ∧ H a = some (.dK []) ∧ Q (.str (stC ['{', '}'])) H
theorem RDs.one {vs : List V} (r : RDs K c [d] vs) : ∃ v, vs = [v] ∧ RD K c d v := by
  unfold RDs at r
  obtain ⟨v, w, rfl, q2, q3⟩ := r
  unfold RDs at q3
  subst q3
  exact ⟨v, rfl, q2⟩
theorem RDs.two {vs : List V} (r : RDs K c [d, e] vs) : ∃ v u, vs = [v, u] ∧ RD K c d v ∧ RD K c e u := by
  unfold RDs at r
  obtain ⟨v, w, rfl, q2, q3⟩ := r
  obtain ⟨u, rfl, q4⟩ := q3.one
  exact ⟨v, u, rfl, q2, q4⟩
theorem mkLst_eq {ds : List D} {z : D} (h : mkLst ds = some z) : ∃ xs, z = .t (.lst xs) ∧ ds = xs.map .t := by
  unfold mkLst at h
  split at h
  · rename_i xs hx
    cases h
    exact ⟨xs, rfl, allT_some hx⟩
  · cases h
theorem dct_lay {d : D} {m : Nat} {S : Sto} (hx : toT m S d = some (.dct [] [])) : d = .t (.dct [] []) := by
  rcases toTf_inv hx with rfl | ⟨_, _, _, _, _, e⟩ | ⟨_, _, _, _, _, _, _, _, _, e⟩ | ⟨_, _, _, _, _, _, e⟩
  · rfl
  all_goals cases e
theorem bi_ok {fb : Bool} {b : Bi} {ds : List D} {vs : List V} (rel : Rel K c H) (rds : RDs K c ds vs) (h : PR K mg W σ (rD K) c H ((opt (biV b ds c.S) c.S).bind (fin fb)) Q) : rBi K b vs H Q := by
  unfold biV at h
  split at h
  · obtain ⟨v, rfl, r⟩ := rds.one
    split at h
    · rename_i n hn
      exact ⟨v, n, rfl, len_ok rel r hn, fin_val rel (RD.mkInt _) h (fun _ xs q => by cases q)⟩
    · exact h.elim
  · obtain ⟨v, rfl, r⟩ := rds.one
    split at h
    · rename_i bs hn
      obtain ⟨a, rfl, q2⟩ := blsIn_ok rel r hn
      exact ⟨a, bs, rfl, q2, fin_val rel (RD.mkBl _) h (fun _ xs q => by cases q)⟩
    · exact h.elim
  · obtain ⟨v, rfl, r⟩ := rds.one
    split at h
    · rename_i bs hn
      obtain ⟨a, rfl, q2⟩ := blsIn_ok rel r hn
      exact ⟨a, bs, rfl, q2, fin_val rel (RD.mkBl _) h (fun _ xs q => by cases q)⟩
    · exact h.elim
  · obtain ⟨v, u, rfl, r1, r2⟩ := rds.two
    split at h
    · rename_i i j h1 h2
      exact ⟨i, j, by rw [r1.int h1, r2.int h2], fin_val rel (RD.mkInt _) h (fun _ xs q => by cases q)⟩
    · exact h.elim
  · obtain ⟨v, u, rfl, r1, r2⟩ := rds.two
    split at h
    · rename_i i j h1 h2
      exact ⟨i, j, by rw [r1.int h1, r2.int h2], fin_val rel (RD.mkInt _) h (fun _ xs q => by cases q)⟩
    · exact h.elim
  · obtain ⟨v, rfl, r⟩ := rds.one
    split at h
    · rename_i i hn
      exact .inl ⟨i, by rw [r.int hn], fin_val rel (RD.mkInt _) h (fun _ xs q => by cases q)⟩
    · split at h
      · rename_i k hn
        exact .inr ⟨k, by rw [r.bl hn], fin_val rel (RD.mkInt _) h (fun _ xs q => by cases q)⟩
      · exact h.elim
  · obtain ⟨v, rfl, r⟩ := rds.one
    split at h
    · rename_i xs hn
      obtain ⟨a, ws, rfl, q2, q3⟩ := seq_ok rel r hn
      obtain ⟨z, hz, h2⟩ : ∃ z, mkLst xs = some z ∧ PR K mg W σ (rD K) c H (fin fb z c.S) Q := by
        cases e : mkLst xs with
        | none => rw [e] at h; exact h.elim
        | some z => rw [e] at h; exact ⟨z, rfl, h⟩
      obtain ⟨ts, rfl, rfl⟩ := mkLst_eq hz
      refine ⟨a, ws, rfl, ?_, fun l hl => fin_lst rel hl (RDs_RTs q3) h2⟩
      rcases q2 with q2 | q2
      · exact .inl (SqL.of q2)
      · exact .inr q2
    · exact h.elim
  · obtain ⟨v, rfl, r⟩ := rds.one
    split at h
    · rename_i xs hn
      split at h
      · rename_i ps hp
        obtain ⟨a, ws, rfl, q2, q3⟩ := r.asL rel hn
        obtain ⟨as, kvs, rfl, p1, p2⟩ := pairs_ok hp q3
        obtain ⟨us, m1, m2, m3⟩ := mergeD_ok ps (ks := []) (xs := []) (vs := []) rfl RTs.nil p2
        refine ⟨a, as, kvs, rfl, SqL.of q2, p1.mono (fun p kv z => sqT_mono rel.sub z), fun l hl => ?_⟩
        have e : mergeK [] kvs = zipK (mergeD [] [] ps).1 us := m1
        rw [e]
        obtain ⟨rel2, s2⟩ := rel.lay (o := .dK (zipK (mergeD [] [] ps).1 us)) hl
        cases fb with
        | true => exact h.elim
        | false =>
          refine h (.ref l) ⟨upd c.G l (.dK (zipK (mergeD [] [] ps).1 us)), c.ρ, c.S⟩ _ rfl rel2 s2 ?_
          show RD K _ _ _
          unfold RD RT
          exact ⟨l, us, rfl, upd_same, m2, RTs.mono s2.ext _ m3⟩
      · exact h.elim
    · exact h.elim
  · obtain ⟨v, rfl, r⟩ := rds.one
    split at h
    · rename_i xs hx
      obtain ⟨a, vs, rfl, q2, q3⟩ := r.lstOf rel hx
      refine ⟨a, vs, rfl, .inl ⟨SqL.of q2, fun l hl => ?_⟩⟩
      cases fb with
      | true =>
        exfalso
        have h' : PR K mg W σ (rD K) c H (fin true (mkTup xs) c.S) Q := h
        unfold fin mkTup at h'
        rw [if_pos rfl] at h'
        split at h'
        · rename_i e
          split at e <;> cases e
        · exact h'.elim
      | false =>
        obtain ⟨rel2, s2⟩ := rel.lay (o := .tup vs) hl
        have h' : PR K mg W σ (rD K) c H (.ok (mkTup xs) c.S) Q := h
        refine h' (.ref l) ⟨upd c.G l (.tup vs), c.ρ, c.S⟩ _ rfl rel2 s2 ?_
        have r2 := q3.mono s2
        show RD K _ _ _
        unfold mkTup
        split
        · rename_i ys hy
          have e := allT_some hy
          subst e
          unfold RD RT
          exact ⟨l, vs, rfl, .inl (.inl upd_same), RDs_RTs r2⟩
        · unfold RD
          exact ⟨l, vs, rfl, .inl (.inl upd_same), r2⟩
    · split at h
      · rename_i ys hy
        obtain ⟨a, vs, rfl, q2, q3⟩ := r.tupOf rel hy
        refine ⟨a, vs, rfl, .inr ⟨q2, fin_val rel r h fun _ xs z => ?_⟩⟩
        subst z
        cases hy
      · exact h.elim
  · obtain ⟨v, rfl, r⟩ := rds.one
    split at h
    · rename_i xs hx
      split at h
      · rename_i hs
        obtain ⟨a, vs, rfl, q2, q3⟩ := r.asL rel hx
        exact ⟨a, vs, c.G, xs, rfl, SqL.of q2, rel.sub, q3, hs, fun ws p w1 hp => fin_lst rel hp w1 h⟩
      · exact h.elim
    · exact h.elim
  · obtain ⟨v, rfl, r⟩ := rds.one
    split at h
    · rename_i k hk
      have e : (PyData.bool k).shown = stC (if k then tTrue else tFalse) := by cases k <;> decide
      refine .inl ⟨.bl k, .bool k, by rw [r.bl hk], .bl k, by cases k <;> decide, by cases k <;> rfl, by cases k <;> decide, fin_val rel ?_ h (fun _ xs q => by cases q)⟩
      rw [e]
      exact RD.mkStr _
    · split at h
      · rename_i s hs
        unfold reprV at hs
        split at hs
        · rename_i x hx
          split at hs
          · rename_i hc
            simp only [Bool.and_eq_true, decide_eq_true_eq] at hc
            obtain ⟨⟨h1, h2⟩, h3⟩ := hc
            refine .inl ⟨v, toPy x, rfl, RD.toDp rel 0 _ 8 hx r h1, plain_shaped h1, h2, Nat.le_trans h3 (by unfold lim; decide), fin_val rel ?_ h (fun _ xs q => by cases q)⟩
            rw [← csOf_some hs]
            exact RD.mkStr _
          · split at hs
            · rename_i he
              cases hs
              have ex : x = .dct [] [] := by
                unfold isE at he
                split at he
                · rfl
                · cases he
              subst ex
              have ed := dct_lay hx
              subst ed
              have q := r.t
              unfold RT at q
              obtain ⟨a, vs, rfl, q2, _, _⟩ := q
              exact .inr ⟨a, rfl, rel.sub _ _ q2, fin_val rel (RD.mkStr _) h (fun _ xs q => by cases q)⟩
            · cases hs
        · cases hs
      · exact h.elim
  · exact h.elim
end
end Kp
/-! Texts cut at one sign. -/
namespace Kp
open PySem Builtin Builtin.Str StrLaws
/-- where the sign stands -/
def posC (c : Char) : Nat → Cs → List Nat
  | _, [] => []
  | k, x :: r => if x = c then k :: posC c (k + 1) r else posC c (k + 1) r
theorem posC_len (c : Char) : ∀ (s : Cs) (k : Nat), (posC c k s).length = (s.filter fun x => x == c).length
  | [], _ => rfl
  | x :: r, k => by
    unfold posC
    by_cases h : x = c
    · rw [if_pos h]
      simp [h, posC_len c r]
    · rw [if_neg h]
      simp [h, posC_len c r]
theorem posC_le (c : Char) (s : Cs) (k : Nat) : (posC c k s).length ≤ s.length := by
  rw [posC_len]
  exact List.length_filter_le _ _
theorem sub_one (p : Cs) (x c : Char) (r : Cs) : subAt (stC (p ++ x :: r)) (stC [c]) p.length = (x == c) := by
  rw [subAt_eq, stC_cps, stC_cps, stC_len]
  have e : (List.drop p.length ((p ++ x :: r).map Char.toNat)) = x.toNat :: r.map Char.toNat := by
    rw [List.map_append, List.drop_append, List.drop_of_length_le (by simp)]
    simp
  rw [e]
  show ([x.toNat] == [c.toNat]) = _
  by_cases h : x = c
  · subst h; simp
  · have h2 : ¬ x.toNat = c.toNat := fun e => h (toNat_inj e)
    rw [beq_eq_false_iff_ne.mpr h]
    exact beq_eq_false_iff_ne.mpr (fun e => h2 (by simpa using e))
theorem occ_go (c : Char) (lim : Nat) (s : Cs) : ∀ (r p : Cs) (found : Array Nat) (free : Nat), s = p ++ r → free ≤ p.length →
    (forIn (List.range' p.length (r.length + 1)) (found, free) (occBody (stC s) (stC [c]) s.length lim)).run.fst.toList = found.toList ++ (posC c p.length r).take (lim - found.size)
  | [], p, found, free, hs, hf => by
    rw [show ([] : Cs).length + 1 = 1 from rfl, List.range'_succ, List.range'_zero, List.forIn_cons]
    unfold occBody
    rw [if_neg (fun h => by
      have := h.1.2
      rw [stC_len, hs] at this
      simp at this
      omega)]
    simp [posC]
  | x :: r, p, found, free, hs, hf => by
    rw [show (x :: r).length + 1 = (r.length + 1) + 1 from rfl, List.range'_succ, List.forIn_cons]
    have e1 : subAt (stC s) (stC [c]) p.length = (x == c) := by rw [hs]; exact sub_one p x c r
    have e2 : p.length + 1 = (p ++ [x]).length := by simp
    have e3 : s = (p ++ [x]) ++ r := by rw [hs]; simp
    have hl : p.length + (stC [c]).length ≤ s.length := by
      rw [stC_len, hs]
      simp
    unfold occBody
    by_cases h : x = c
    · subst h
      by_cases hsz : found.size < lim
      · rw [if_pos ⟨⟨⟨hsz, hf⟩, hl⟩, by rw [e1]; simp⟩]
        show (forIn (List.range' (p.length + 1) (r.length + 1)) (found.push p.length, p.length + (stC [x]).length) (occBody (stC s) (stC [x]) s.length lim)).run.fst.toList = _
        rw [e2, occ_go x lim s r (p ++ [x]) _ _ e3 (by rw [stC_len]; simp)]
        have : posC x p.length (x :: r) = p.length :: posC x (p.length + 1) r := by
          show (if x = x then _ else _) = _
          rw [if_pos rfl]
        rw [this]
        have e4 : lim - found.size = (lim - (found.size + 1)) + 1 := by omega
        rw [e4, List.take_succ_cons, Array.toList_push, Array.size_push, ← e2]
        simp
      · rw [if_neg (fun h => hsz h.1.1.1)]
        show (forIn (List.range' (p.length + 1) (r.length + 1)) (found, free) (occBody (stC s) (stC [x]) s.length lim)).run.fst.toList = _
        rw [e2, occ_go x lim s r (p ++ [x]) _ _ e3 (by simp; omega)]
        have z : lim - found.size = 0 := by omega
        rw [z]
        simp
    · rw [if_neg (fun q => by
        have := q.2
        rw [e1] at this
        simp at this
        exact h this)]
      show (forIn (List.range' (p.length + 1) (r.length + 1)) (found, free) (occBody (stC s) (stC [c]) s.length lim)).run.fst.toList = _
      rw [e2, occ_go c lim s r (p ++ [x]) _ _ e3 (by simp; omega)]
      have : posC c p.length (x :: r) = posC c (p.length + 1) r := by
        show (if x = c then _ else _) = _
        rw [if_neg h]
      rw [this, e2]
theorem occ_one (c : Char) (s : Cs) (lim : Nat) : occurrences (stC s) (stC [c]) 0 (stC s).length lim = (posC c 0 s).take lim := by
  rw [occ_eq, stC_len]
  have := occ_go c lim s s [] #[] 0 rfl (Nat.le_refl _)
  simpa using this
theorem strSub_stC (s : Cs) (i j : Nat) : strSub (stC s) i j = stC ((s.drop i).take (j - i)) := by
  apply Str.ext'
  apply Array.toList_inj.mp
  rw [strSub_toList, stC_cps, stC_cps, List.map_take, List.map_drop]
theorem splitC_cons (c x : Char) (r : Cs) : splitC c (x :: r) = if x = c then [] :: splitC c r else match splitC c r with
    | p :: ps => (x :: p) :: ps
    | [] => [[x]] := rfl
theorem splitC_ne (c : Char) : ∀ r : Cs, ∃ x xs, splitC c r = x :: xs
  | [] => ⟨_, _, rfl⟩
  | y :: r => by
    rw [splitC_cons]
    split
    · exact ⟨_, _, rfl⟩
    · split
      · exact ⟨_, _, rfl⟩
      · exact ⟨_, _, rfl⟩
theorem parts_go (c : Char) (s : Cs) : ∀ (r p q : Cs), s = p ++ q ++ r → c ∉ q → partsFrom (stC s) 1 p.length (posC c (p.length + q.length) r) = match splitC c r with
    | x :: xs => stC (q ++ x) :: xs.map stC
    | [] => []
  | [], p, q, hs, hq => by
    show [strSub (stC s) p.length (stC s).length] = [stC (q ++ [])]
    rw [strSub_stC, hs, stC_len]
    simp
  | x :: r, p, q, hs, hq => by
    by_cases h : x = c
    · subst h
      have e1 : posC x (p.length + q.length) (x :: r) = (p.length + q.length) :: posC x (p.length + q.length + 1) r := by
        show (if x = x then _ else _) = _
        rw [if_pos rfl]
      have e2 : splitC x (x :: r) = [] :: splitC x r := by
        show (if x = x then _ else _) = _
        rw [if_pos rfl]
      rw [e1, e2]
      show strSub (stC s) p.length (p.length + q.length) :: partsFrom (stC s) 1 (p.length + q.length + 1) _ = stC (q ++ []) :: (splitC x r).map stC
      have ih := parts_go x s r (p ++ q ++ [x]) [] (by rw [hs]; simp) (by simp)
      have e3 : (p ++ q ++ [x]).length = p.length + q.length + 1 := by simp; omega
      rw [e3] at ih
      rw [show p.length + q.length + 1 + ([] : Cs).length = p.length + q.length + 1 from rfl] at ih
      rw [ih]
      congr 1
      · rw [strSub_stC, hs]
        simp
      · cases splitC x r with
        | nil => rfl
        | cons y ys => rfl
    · have e1 : posC c (p.length + q.length) (x :: r) = posC c (p.length + (q ++ [x]).length) r := by
        show (if x = c then _ else _) = _
        rw [if_neg h]
        simp [Nat.add_assoc]
      rw [e1, parts_go c s r p (q ++ [x]) (by rw [hs]; simp) (by simp [hq]; exact fun e => h e.symm)]
      rw [splitC_cons, if_neg h]
      obtain ⟨y, ys, e⟩ := splitC_ne c r
      rw [e]
      simp
theorem split_none (c : Char) : ∀ (s : Cs) (k : Nat), posC c k s = [] → splitC c s = [s]
  | [], _, _ => rfl
  | x :: r, k, h => by
    unfold posC at h
    by_cases e : x = c
    · rw [if_pos e] at h
      cases h
    · rw [if_neg e] at h
      rw [splitC_cons, if_neg e, split_none c r _ h]
theorem split_stC (c : Char) (hc : c.toNat < 128) (s : Cs) : Txt.split (stC s) (stC [c]) = (splitC c s).map stC := by
  unfold Txt.split
  rw [occ_one, partsBetween_eq, stC_len, stC_len, List.take_of_length_le (Nat.le_succ_of_le (posC_le c s 0))]
  have := parts_go c s s [] [] rfl (by simp)
  rw [show ([] : Cs).length = 0 from rfl] at this
  rw [show [c].length = 1 from rfl]
  rw [show (0 : Nat) + 0 = 0 from rfl] at this
  rw [this]
  obtain ⟨x, xs, e⟩ := splitC_ne c s
  by_cases h : posC c 0 s = []
  · rw [split_none c s 0 h, h]
    simp
  · have h2 : (posC c 0 s).isEmpty = false := by simpa using h
    have h3 : decide (s.length < 1) = false := by
      refine decide_eq_false fun q => h ?_
      cases s with
      | nil => rfl
      | cons y r => simp at q
    have h4 : decide (Str.strKind (stC s) < Str.strKind (stC [c])) = false := by
      refine decide_eq_false fun q => ?_
      have : Str.strKind (stC [c]) = 1 := by
        unfold Str.strKind
        rw [if_pos]
        simp [stC]
        omega
      rw [this] at q
      unfold Str.strKind at q
      split at q
      · omega
      · split at q <;> omega
    rw [h2, h3, h4, e]
    rfl
theorem partC_pos (c : Char) : ∀ (s : Cs) (k : Nat), match partC c s with
    | some (p, q) => (posC c k s).take 1 = [k + p.length] ∧ s = p ++ c :: q
    | none => posC c k s = []
  | [], _ => rfl
  | x :: r, k => by
    unfold partC posC
    by_cases h : x = c
    · rw [if_pos h, if_pos h]
      subst h
      exact ⟨rfl, rfl⟩
    · rw [if_neg h, if_neg h]
      have ih := partC_pos c r (k + 1)
      cases e : partC c r with
      | none => rw [e] at ih; exact ih
      | some pq =>
        obtain ⟨p, q⟩ := pq
        rw [e] at ih
        obtain ⟨h1, h2⟩ := ih
        refine ⟨?_, by show x :: r = (x :: p) ++ c :: q; rw [h2]; rfl⟩
        rw [h1]
        show [k + 1 + p.length] = [k + (x :: p).length]
        rw [List.length_cons]
        congr 1
        omega
theorem part_stC (c : Char) (s : Cs) : Txt.partition (stC s) (stC [c]) = match partC c s with
    | some (p, q) => (stC p, stC [c], stC q)
    | none => (stC s, stC [], stC []) := by
  unfold Txt.partition
  rw [occ_one]
  have h := partC_pos c s 0
  cases e : partC c s with
  | none =>
    rw [e] at h
    rw [show posC c 0 s = [] from h]
    rfl
  | some pq =>
    obtain ⟨p, q⟩ := pq
    rw [e] at h
    obtain ⟨h1, h2⟩ := h
    rw [h1]
    show (strSub (stC s) 0 (0 + p.length), stC [c], strSub (stC s) (0 + p.length + (stC [c]).length) (stC s).length) = (stC p, stC [c], stC q)
    rw [strSub_stC, strSub_stC, stC_len, stC_len, h2]
    simp
    rw [List.take_of_length_le (by omega)]
theorem count_stC (c : Char) (s : Cs) : Txt.count (stC s) (stC [c]) = (((s.filter fun x => x == c).length : Nat) : Int) := by
  unfold Txt.count
  rw [occ_one, stC_len, List.take_of_length_le (Nat.le_succ_of_le (posC_le c s 0)), posC_len]
theorem starts_stC (c : Char) (s : Cs) : Txt.startswith (stC s) (stC [c]) = (s.head? == some c) := by
  unfold Txt.startswith
  cases s with
  | nil => rfl
  | cons x r =>
    have e : subAt (stC (x :: r)) (stC [c]) 0 = (x == c) := sub_one [] x c r
    rw [e, stC_len, stC_len]
    simp
theorem ends_stC (c : Char) (s : Cs) : Txt.endswith (stC s) (stC [c]) = (s.getLast? == some c) := by
  unfold Txt.endswith
  rw [stC_len, stC_len]
  cases e : s.getLast? with
  | none =>
    have : s = [] := List.getLast?_eq_none_iff.mp e
    subst this
    rfl
  | some x =>
    obtain ⟨p, rfl⟩ := List.getLast?_eq_some_iff.mp e
    have e1 : (p ++ [x]).length - [c].length = p.length := by simp
    rw [e1, sub_one p x c []]
    simp
end Kp
/-! Targets, cells that change. -/
namespace Kp
open PySem L2
section
variable {X : Cx} {K : PySem.W.Frag} {mg : Str → Option Value} {W : WX} {σ : L2.St} {c : Cfg} {H : Hp} {d e : D} {v u : V} {Q : VK}
/-- a cell's list changes -/
theorem Rel.setCellG (rel : Rel K c H) {n : Nat} {a : Addr} {x0 y0 : Cell} {vs ws : List V} (h1 : c.S[n]? = some x0) (hx0 : x0 ≠ .gone) (h2 : c.ρ[n]? = some a) (h3 : c.G a = none) (h4 : H a = some (.lst vs)) (r : ∀ S', RC K ⟨c.G, c.ρ, S'⟩ (upd H a (.lst ws)) a y0) :
    Rel K ⟨c.G, c.ρ, c.S.set n y0⟩ (upd H a (.lst ws)) ∧ Stp c H ⟨c.G, c.ρ, c.S.set n y0⟩ (upd H a (.lst ws)) := by
  have hn : n < c.S.length := (List.getElem?_eq_some_iff.mp h1).1
  have lv : ∀ m, live (c.S.set n y0) m → live c.S m := fun m ⟨y, q1, q2⟩ => by
    by_cases e : m = n
    · subst e
      exact ⟨_, h1, hx0⟩
    · rw [List.getElem?_set_ne (Ne.symm e)] at q1
      exact ⟨y, q1, q2⟩
  have ln : live c.S n := ⟨_, h1, hx0⟩
  refine ⟨⟨fun b o h => ?_, by simp [rel.len], fun m y b q1 q2 q3 => ?_, fun m k b q1 q2 l1 l2 => rel.inj m k b q1 q2 (lv m l1) (lv k l2)⟩,
    ⟨fun _ _ h => h, fun _ _ h => .inl h, ⟨[], (List.append_nil _).symm⟩, fun b o h => ?_, fun b o h q => ?_, fun m b q1 q2 => ?_, fun m _ l => lv m l⟩⟩
  · have e : b ≠ a := fun z => by
      rw [z] at h
      have h' : c.G a = some o := h
      rw [h3] at h'
      cases h'
    rw [upd_ne e]
    exact rel.sub b o h
  · by_cases e : m = n
    · subst e
      have q2' : c.ρ[m]? = some b := q2
      rw [h2] at q2'
      cases q2'
      have q1' : (c.S.set m y0)[m]? = some y := q1
      rw [List.getElem?_set_self hn] at q1'
      cases q1'
      exact ⟨h3, r _⟩
    · have q1' : (c.S.set n y0)[m]? = some y := q1
      rw [List.getElem?_set_ne (Ne.symm e)] at q1'
      obtain ⟨g, q⟩ := rel.cellAt q1' q2 q3
      have ne : b ≠ a := fun z => by
        subst z
        exact e (rel.inj m n b q2 h2 ⟨y, q1', q3⟩ ln)
      refine ⟨g, ?_⟩
      cases y with
      | gone => exact absurd rfl q3
      | lst zs =>
        unfold RC at q ⊢
        rw [upd_ne ne]
        exact q
      | lsr ds =>
        unfold RC at q ⊢
        obtain ⟨us, q4, q5⟩ := q
        refine ⟨us, by rw [upd_ne ne]; exact q4, RDs.mono' (c := c) (c1 := ⟨c.G, c.ρ, c.S.set n y0⟩) (fun _ _ h => h) ⟨[], (List.append_nil _).symm⟩ _ q5⟩
      | dcr ks ds => unfold RC at q; exact q.elim
      | ins cl fs => unfold RC at q; exact q.elim
  · by_cases e : b = a
    · rw [e]; exact ⟨_, upd_same⟩
    · exact ⟨o, by rw [upd_ne e]; exact h⟩
  · have e : b ≠ a := fun z => by
      subst z
      exact q n h2 ln
    rw [upd_ne e]
    exact h
  · have := (List.getElem?_eq_some_iff.mp q2).1
    have q3 : m < c.ρ.length := this
    omega
theorem Rel.setCell (rel : Rel K c H) {n : Nat} {a : Addr} {xs ys : List T} {vs ws : List V} (h1 : c.S[n]? = some (.lst xs)) (h2 : c.ρ[n]? = some a) (h3 : c.G a = none) (h4 : H a = some (.lst vs)) (r : RTs K c.G ys ws) :
    Rel K ⟨c.G, c.ρ, c.S.set n (.lst ys)⟩ (upd H a (.lst ws)) ∧ Stp c H ⟨c.G, c.ρ, c.S.set n (.lst ys)⟩ (upd H a (.lst ws)) := rel.setCellG h1 (by intro z; cases z) h2 h3 h4 fun S' => by
  unfold RC
  exact ⟨ws, upd_same, r⟩
theorem Rel.setCellR (rel : Rel K c H) {n : Nat} {a : Addr} {x0 : Cell} {ys : List D} {vs ws : List V} (h1 : c.S[n]? = some x0) (hx0 : x0 ≠ .gone) (h2 : c.ρ[n]? = some a) (h3 : c.G a = none) (h4 : H a = some (.lst vs)) (r : RDs K c ys ws) :
    Rel K ⟨c.G, c.ρ, c.S.set n (.lsr ys)⟩ (upd H a (.lst ws)) ∧ Stp c H ⟨c.G, c.ρ, c.S.set n (.lsr ys)⟩ (upd H a (.lst ws)) := rel.setCellG h1 hx0 h2 h3 h4 fun S' => by
  unfold RC
  exact ⟨ws, upd_same, RDs.mono' (c := c) (c1 := ⟨c.G, c.ρ, S'⟩) (fun _ _ h => h) ⟨[], (List.append_nil _).symm⟩ _ r⟩
theorem RD.cellR {n : Nat} {ds : List D} (rel : Rel K c H) (r : RD K c d v) (h : cellR c.S d = some (n, ds)) :
    ∃ x0, x0 ≠ Cell.gone ∧ c.S[n]? = some x0 ∧ ∃ a vs, v = .ref a ∧ c.ρ[n]? = some a ∧ c.G a = none ∧ H a = some (.lst vs) ∧ RDs K c ds vs := by
  unfold Kp.cellR at h
  split at h
  · rename_i m e
    cases asRef_eq e
    unfold RD at r
    obtain ⟨a, h1, h2⟩ := r
    split at h
    · rename_i ys e2
      cases h
      obtain ⟨g, q⟩ := rel.cellAt e2 h2 (by intro z; cases z)
      unfold RC at q
      obtain ⟨vs, h3, h4⟩ := q
      exact ⟨_, (by intro z; cases z), e2, a, vs, h1, h2, g, h3, RTs_RDs h4⟩
    · rename_i ys e2
      cases h
      obtain ⟨g, q⟩ := rel.cellAt e2 h2 (by intro z; cases z)
      unfold RC at q
      obtain ⟨vs, h3, h4⟩ := q
      exact ⟨_, (by intro z; cases z), e2, a, vs, h1, h2, g, h3, h4⟩
    · cases h
  · cases h
theorem RDs.appD : ∀ {xs ys : List D} {vs ws : List V}, RDs K c xs vs → RDs K c ys ws → RDs K c (xs ++ ys) (vs ++ ws)
  | [], ys, vs, ws, h, q => by
    unfold RDs at h
    subst h
    exact q
  | x :: xs, ys, vs, ws, h, q => by
    unfold RDs at h
    obtain ⟨v, r, rfl, h2, h3⟩ := h
    show RDs K c (x :: (xs ++ ys)) (v :: (r ++ ws))
    unfold RDs
    exact ⟨v, r ++ ws, rfl, h2, RDs.appD h3 q⟩
theorem RDs.oneD {x : D} {v : V} (h : RD K c x v) : RDs K c [x] [v] := by
  unfold RDs
  refine ⟨v, [], rfl, h, ?_⟩
  unfold RDs
  rfl
theorem RDs.takeD : ∀ {xs : List D} {vs : List V} (n : Nat), RDs K c xs vs → RDs K c (xs.take n) (vs.take n)
  | _, _, 0, h => by
    simp only [List.take_zero]
    unfold RDs
    rfl
  | [], vs, n + 1, h => by
    unfold RDs at h
    subst h
    simp only [List.take_nil]
    unfold RDs
    rfl
  | x :: xs, vs, n + 1, h => by
    unfold RDs at h
    obtain ⟨v, r, rfl, h2, h3⟩ := h
    simp only [List.take_succ_cons]
    unfold RDs
    exact ⟨v, _, rfl, h2, RDs.takeD n h3⟩
theorem RDs.initD {xs : List D} {vs : List V} (h : RDs K c xs vs) : RDs K c xs.dropLast vs.dropLast := by
  rw [List.dropLast_eq_take, List.dropLast_eq_take, h.len]
  exact h.takeD _
theorem RTs.erase {G : Hp} : ∀ {xs : List T} {vs : List V} (n : Nat), RTs K G xs vs → RTs K G (xs.eraseIdx n) (vs.eraseIdx n)
  | [], vs, n, h => by
    unfold RTs at h
    subst h
    simp only [List.eraseIdx_nil]
    unfold RTs
    rfl
  | x :: xs, vs, 0, h => by
    unfold RTs at h
    obtain ⟨v, r, rfl, h2, h3⟩ := h
    exact h3
  | x :: xs, vs, n + 1, h => by
    unfold RTs at h
    obtain ⟨v, r, rfl, h2, h3⟩ := h
    simp only [List.eraseIdx_cons_succ]
    unfold RTs
    exact ⟨v, _, rfl, h2, RTs.erase n h3⟩
theorem set_ok {S' : Sto} {w : V} {d i x : D} {v j : V} {R : Hp → Prop} (rel : Rel K c H) (rd : RD K c d v) (ri : RD K c i j) (rx : RD K c x w) (h : setV d i x c.S = some S')
    (q : ∀ c' H', c'.S = S' → Rel K c' H' → Stp c H c' H' → R H') : rSetL v j w H R := by
  unfold setV at h
  split at h
  · rename_i n xs k y h1 h2 h3
    split at h
    · rename_i m hm
      cases h
      obtain ⟨e0, e1, a, vs, rfl, e3, e4, e5, e6⟩ := rd.cellL rel h1
      cases asTree_eq h3
      obtain ⟨r2, s2⟩ := rel.setCell e1 e3 e4 e5 (e6.set m rx.t)
      refine ⟨a, vs, k, m, rfl, ri.int h2, e5, ?_, q _ _ rfl r2 s2⟩
      rw [e6.len]
      exact hm
    · cases h
  · cases h
/-- a live cell is a list -/
theorem live_list {n : Nat} (rel : Rel K c H) (r : RD K c (.ref n) v) (l : live c.S n) : ∃ a vs, v = .ref a ∧ H a = some (.lst vs) := by
  unfold RD at r
  obtain ⟨a, h1, h2⟩ := r
  obtain ⟨y, q1, q3⟩ := l
  obtain ⟨_, q⟩ := rel.cellAt q1 h2 q3
  cases y with
  | gone => exact absurd rfl q3
  | lst zs => unfold RC at q; obtain ⟨vs, q4, _⟩ := q; exact ⟨a, vs, h1, q4⟩
  | lsr ds => unfold RC at q; obtain ⟨vs, q4, _⟩ := q; exact ⟨a, vs, h1, q4⟩
  | dcr ks ds => unfold RC at q; exact q.elim
  | ins cl fs => unfold RC at q; exact q.elim
theorem app_ok {ds : List D} {vs : List V} (rel : Rel K c H) (rd : RD K c d v) (rds : RDs K c ds vs) (h : PR K mg W σ (rD K) c H (mtV .append d ds c.S) Q) : rAppend v vs H Q := by
  match ds, h with
  | [], h => exact h.elim
  | _ :: _ :: _, h => exact h.elim
  | [x], h =>
    obtain ⟨w, rfl, r⟩ := rds.one
    have h' : PR K mg W σ (rD K) c H (match cellL c.S d, asTree x with
      | some (n, xs), some x => if xs.length < lim then R.ok (D.t .non) (c.S.set n (.lst (xs ++ [x]))) else .stuck
      | _, _ => match cellR c.S d with
        | some (n, es) => if es.length < lim then .ok (.t .non) (c.S.set n (.lsr (es ++ [x]))) else .stuck
        | none => .stuck) Q := h
    split at h'
    · rename_i n xs y h1 h2
      split at h'
      · rename_i hl
        obtain ⟨e0, e1, a, ws, rfl, e3, e4, e5, e6⟩ := rd.cellL rel h1
        cases asTree_eq h2
        obtain ⟨r2, s2⟩ := rel.setCell e1 e3 e4 e5 (e6.app (RTs.one r.t))
        refine ⟨a, ws, w, rfl, rfl, e5, ?_, ?_⟩
        · rw [e6.len]
          exact Nat.lt_of_lt_of_le hl lim_line
        · exact h' .non ⟨c.G, c.ρ, c.S.set n (.lst (xs ++ [y]))⟩ _ rfl r2 s2 RD.mkNon
      · exact h'.elim
    · split at h'
      · rename_i n es h1
        split at h'
        · rename_i hl
          obtain ⟨x0, g0, e1, a, ws, rfl, e3, e4, e5, e6⟩ := rd.cellR rel h1
          obtain ⟨r2, s2⟩ := rel.setCellR e1 g0 e3 e4 e5 (e6.appD (RDs.oneD r))
          refine ⟨a, ws, w, rfl, rfl, e5, ?_, ?_⟩
          · rw [e6.len]
            exact Nat.lt_of_lt_of_le hl lim_line
          · exact h' .non ⟨c.G, c.ρ, c.S.set n (.lsr (es ++ [x]))⟩ _ rfl r2 s2 RD.mkNon
        · exact h'.elim
      · exact h'.elim
def rMt (K : PySem.W.Frag) : Mt → V → List V → Hp → VK → Prop
  | .append => rAppend
  | .insert => fun x vs H Q => ∃ (l : Addr) (xs : List V) (i : Int) (y : V), x = .ref l ∧ vs = [.int i, y] ∧ H l = some (.lst xs) ∧ xs.length < sizeLine ∧ 0 ≤ i ∧ i < 2 ^ 63 ∧ Q .non (upd H l (.lst (xs.take i.toNat ++ [y] ++ xs.drop i.toNat)))
  | .clear => rClear
  | .pop => rPop
  | .join => fun x xs H Q => ∃ a p, ∃ ys : List Str, x = .str a ∧ xs = [.ref p] ∧ (SqL K H p (ys.map V.str) ∨ SqT K H p (ys.map V.str)) ∧ (ys.map (·.length)).sum + ys.length * a.length ≤ 16777216 ∧ Q (.str (Txt.join a ys)) H
  | .upper => fun x xs H Q => ∃ a, x = .str a ∧ xs = [] ∧ a.length ≤ 5592405 ∧ Q (.str (Txt.upper a)) H
  | .extend => rExtend
  | .popAt => rPopAt
  | .split => fun x xs H Q => ∃ a b, x = .str a ∧ xs = [.str b] ∧ (b.length == 0) = false ∧ a.length + 2 ≤ sizeLine ∧ rNewStrs (Txt.split a b) H Q
  | .part => fun x xs H Q => ∃ a b, x = .str a ∧ xs = [.str b] ∧ (b.length == 0) = false ∧ a.length ≤ sizeLine ∧ ∀ p, H p = none → Q (.ref p) (upd H p (.tup [.str (Txt.partition a b).1, .str (Txt.partition a b).2.1, .str (Txt.partition a b).2.2]))
  | .count => fun x xs H Q => ∃ a b, x = .str a ∧ xs = [.str b] ∧ Q (.int (Txt.count a b)) H
  | .starts => fun x xs H Q => ∃ a b, x = .str a ∧ xs = [.str b] ∧ Q (.bl (Txt.startswith a b)) H
  | .ends => fun x xs H Q => ∃ a b, x = .str a ∧ xs = [.str b] ∧ Q (.bl (Txt.endswith a b)) H
theorem RDs.none {vs : List V} (r : RDs K c [] vs) : vs = [] := by
  unfold RDs at r
  exact r
theorem ins_ok {ds : List D} {vs : List V} (rel : Rel K c H) (rd : RD K c d v) (rds : RDs K c ds vs) (h : PR K mg W σ (rD K) c H (mtV .insert d ds c.S) Q) : rMt K .insert v vs H Q := by
  match ds, h with
  | [], h => exact h.elim
  | [_], h => exact h.elim
  | _ :: _ :: _ :: _, h => exact h.elim
  | [i, x], h =>
    obtain ⟨w1, w2, rfl, r1, r2⟩ := rds.two
    have h' : PR K mg W σ (rD K) c H (match cellL c.S d, asInt i, asTree x with
      | some (n, xs), some k, some x => if xs.length < lim ∧ 0 ≤ k ∧ k < 2 ^ 62 then R.ok (D.t .non) (c.S.set n (.lst (xs.take k.toNat ++ [x] ++ xs.drop k.toNat))) else .stuck
      | _, _, _ => .stuck) Q := h
    split at h'
    · rename_i n xs k y h1 h2 h3
      split at h'
      · rename_i hl
        obtain ⟨e0, e1, a, ws, rfl, e3, e4, e5, e6⟩ := rd.cellL rel h1
        cases asTree_eq h3
        obtain ⟨r3, s3⟩ := rel.setCell e1 e3 e4 e5 (((e6.take k.toNat).app (RTs.one r2.t)).app (e6.drop k.toNat))
        refine ⟨a, ws, k, w2, rfl, by rw [r1.int h2], e5, ?_, hl.2.1, by have := hl.2.2; omega, ?_⟩
        · rw [e6.len]
          exact Nat.lt_of_lt_of_le hl.1 lim_line
        · exact h' .non ⟨c.G, c.ρ, c.S.set n (.lst (xs.take k.toNat ++ [y] ++ xs.drop k.toNat))⟩ _ rfl r3 s3 RD.mkNon
      · exact h'.elim
    · exact h'.elim
theorem clr_ok {ds : List D} {vs : List V} (rel : Rel K c H) (rd : RD K c d v) (rds : RDs K c ds vs) (h : PR K mg W σ (rD K) c H (mtV .clear d ds c.S) Q) : rMt K .clear v vs H Q := by
  cases ds with
  | cons d1 ds => exact h.elim
  | nil =>
    have h' : PR K mg W σ (rD K) c H (match cellL c.S d with | some (n, _) => .ok (.t .non) (c.S.set n (.lst [])) | none => match cellR c.S d with | some (n, _) => .ok (.t .non) (c.S.set n (.lst [])) | none => .stuck) Q := h
    split at h'
    · rename_i n xs h1
      obtain ⟨e0, e1, a, ws, rfl, e3, e4, e5, e6⟩ := rd.cellL rel h1
      obtain ⟨r3, s3⟩ := rel.setCell e1 e3 e4 e5 (RTs.nil (K := K) (G := c.G))
      exact ⟨a, ws, rfl, rds.none, e5, h' .non ⟨c.G, c.ρ, c.S.set n (.lst [])⟩ _ rfl r3 s3 RD.mkNon⟩
    · split at h'
      · rename_i n xs h1
        obtain ⟨x0, g0, e1, a, ws, rfl, e3, e4, e5, e6⟩ := rd.cellR rel h1
        obtain ⟨r3, s3⟩ := rel.setCellG (y0 := .lst []) (ws := []) e1 g0 e3 e4 e5 (fun S' => by
          unfold RC
          exact ⟨[], upd_same, RTs.nil (K := K) (G := c.G)⟩)
        exact ⟨a, ws, rfl, rds.none, e5, h' .non ⟨c.G, c.ρ, c.S.set n (.lst [])⟩ _ rfl r3 s3 RD.mkNon⟩
      · exact h'.elim
theorem RTs.getAt {G : Hp} : ∀ {xs : List T} {vs : List V} {i : Nat} {x : T}, RTs K G xs vs → xs[i]? = some x → ∃ v, vs[i]? = some v ∧ RT K G x v
  | [], _, _, _, _, h => by simp at h
  | d :: ds, vs, 0, e, h, q => by
    unfold RTs at h
    obtain ⟨v, r, rfl, h2, h3⟩ := h
    simp at q
    subst q
    exact ⟨v, rfl, h2⟩
  | d :: ds, vs, i + 1, e, h, q => by
    unfold RTs at h
    obtain ⟨v, r, rfl, h2, h3⟩ := h
    obtain ⟨w, h4, h5⟩ := RTs.getAt (i := i) h3 (by simpa using q)
    exact ⟨w, by simpa using h4, h5⟩
theorem RTs.initL {G : Hp} : ∀ {xs : List T} {vs : List V}, RTs K G xs vs → RTs K G xs.dropLast vs.dropLast := fun {xs vs} h => by
  rw [List.dropLast_eq_take, List.dropLast_eq_take, h.len]
  exact h.take _
theorem pop_ok {ds : List D} {vs : List V} (rel : Rel K c H) (rd : RD K c d v) (rds : RDs K c ds vs) (h : PR K mg W σ (rD K) c H (mtV .pop d ds c.S) Q) : rMt K .pop v vs H Q := by
  cases ds with
  | cons d1 ds => exact h.elim
  | nil =>
    have h' : PR K mg W σ (rD K) c H (match cellL c.S d with | some (n, xs) => (match xs[xs.length - 1]? with | some x => .ok (.t x) (c.S.set n (.lst xs.dropLast)) | none => .stuck) | none => match cellR c.S d with | some (n, es) => (match es[es.length - 1]? with | some x => .ok x (c.S.set n (.lsr es.dropLast)) | none => .stuck) | none => .stuck) Q := h
    split at h'
    · rename_i n xs h1
      split at h'
      · rename_i x hx
        obtain ⟨e0, e1, a, ws, rfl, e3, e4, e5, e6⟩ := rd.cellL rel h1
        obtain ⟨r3, s3⟩ := rel.setCell e1 e3 e4 e5 e6.initL
        obtain ⟨w, q1, q2⟩ := e6.getAt hx
        refine ⟨a, ws, w, rfl, rds.none, e5, by rw [e6.len]; exact q1, h' w ⟨c.G, c.ρ, c.S.set n (.lst xs.dropLast)⟩ _ rfl r3 s3 ?_⟩
        show RD K _ _ _
        unfold RD
        exact q2
      · exact h'.elim
    · split at h'
      · rename_i n es h1
        split at h'
        · rename_i x hx
          obtain ⟨x0, g0, e1, a, ws, rfl, e3, e4, e5, e6⟩ := rd.cellR rel h1
          obtain ⟨r3, s3⟩ := rel.setCellR e1 g0 e3 e4 e5 e6.initD
          obtain ⟨w, q1, q2⟩ := e6.get hx
          exact ⟨a, ws, w, rfl, rds.none, e5, by rw [e6.len]; exact q1, h' w ⟨c.G, c.ρ, c.S.set n (.lsr es.dropLast)⟩ _ rfl r3 s3 (RD.mono' (c := c) (c1 := ⟨c.G, c.ρ, c.S.set n (.lsr es.dropLast)⟩) (fun _ _ h => h) ⟨[], (List.append_nil _).symm⟩ _ q2)⟩
        · exact h'.elim
      · exact h'.elim
theorem strs_ok {G : Hp} : ∀ {xs : List T} {ss : List Cs} {vs : List V}, strsT xs = some ss → RTs K G xs vs → vs = (ss.map stC).map V.str
  | [], ss, vs, h, r => by
    unfold strsT at h
    cases h
    unfold RTs at r
    exact r
  | x :: xs, ss, vs, h, r => by
    unfold strsT at h
    split at h
    · rename_i e; cases e
    · rename_i k r' e
      cases e
      split at h
      · rename_i ss' e2
        cases h
        unfold RTs at r
        obtain ⟨u, us, rfl, h2, h3⟩ := r
        unfold RT at h2
        subst h2
        rw [strs_ok e2 h3]
        rfl
      · cases h
    · cases h
theorem glue_stC (s : Cs) : ∀ (r : List Cs) (acc : Cs), List.foldl (fun (acc : Array Nat) (p : Str) => acc ++ (stC s).cps ++ p.cps) (stC acc).cps (r.map stC) = (stC (acc ++ r.flatMap fun p => s ++ p)).cps
  | [], acc => by simp
  | p :: r, acc => by
    rw [List.map_cons, List.foldl_cons]
    have e : (stC acc).cps ++ (stC s).cps ++ (stC p).cps = (stC (acc ++ s ++ p)).cps := by
      unfold stC
      simp
    rw [e, glue_stC s r]
    simp
theorem join_stC (s : Cs) (ss : List Cs) : Txt.join (stC s) (ss.map stC) = stC (joinC s ss) := by
  cases ss with
  | nil => rfl
  | cons x r =>
    show Str.mk (List.foldl (fun (acc : Array Nat) (p : Str) => acc ++ (stC s).cps ++ p.cps) (stC x).cps (r.map stC)) = _
    rw [glue_stC]
    rfl
theorem sum_stC : ∀ ss : List Cs, ((ss.map stC).map (·.length)).sum = ss.flatten.length
  | [] => rfl
  | x :: r => by
    simp only [List.map_cons, List.sum_cons, List.flatten_cons, List.length_append]
    rw [sum_stC r, stC_len]
theorem join_ok {ds : List D} {vs : List V} (rel : Rel K c H) (rd : RD K c d v) (rds : RDs K c ds vs) (h : PR K mg W σ (rD K) c H (mtV .join d ds c.S) Q) : rMt K .join v vs H Q := by
  match ds, h with
  | [], h => exact h.elim
  | _ :: _ :: _, h => exact h.elim
  | [x], h =>
    obtain ⟨w, rfl, r⟩ := rds.one
    have h' : PR K mg W σ (rD K) c H (match asStr d, joinL c.S x with
      | some s, some r => if s.length ≤ 10 then R.ok (D.t (.str (joinC s r))) c.S else .stuck
      | _, _ => .stuck) Q := h
    split at h'
    · rename_i s ss h1 h2
      split at h'
      · rename_i hl
        unfold joinL at h2
        split at h2
        · rename_i xs hx
          split at h2
          · rename_i ss' hs
            split at h2
            · rename_i hb
              cases h2
              obtain ⟨a, ws, rfl, q2, q3⟩ := r.asL rel hx
              have e := strs_ok hs q3
              refine ⟨stC s, a, ss.map stC, rd.str h1, rfl, .inl (by rw [← e]; exact SqL.of q2), ?_, ?_⟩
              · rw [sum_stC, List.length_map, stC_len]
                have b1 := hb.1
                have b2 := hb.2
                unfold lim at b1 b2
                have : ss.length * s.length ≤ 100000 * 10 := Nat.mul_le_mul b1 hl
                omega
              · rw [join_stC]
                exact PR.now h' rel (RD.mkStr _)
            · cases h2
          · cases h2
        · cases h2
      · exact h'.elim
    · exact h'.elim
theorem oneSign_eq {z : Cs} {ch : Char} (h : oneSign z = some ch) : z = [ch] ∧ ch.toNat < 128 := by
  unfold oneSign at h
  split at h
  · split at h
    · rename_i hl
      cases h
      exact ⟨rfl, hl⟩
    · cases h
  · cases h
theorem two_sign {x : D} {ws : List V} {g : Cs → Char → R D} (rd : RD K c d v) (rds : RDs K c [x] ws) (h : PR K mg W σ (rD K) c H (match asStr d, asStr x with
      | some s, some z => match oneSign z with
        | some ch => g s ch
        | none => .stuck
      | _, _ => .stuck) Q) : ∃ s ch, ch.toNat < 128 ∧ v = .str (stC s) ∧ ws = [.str (stC [ch])] ∧ PR K mg W σ (rD K) c H (g s ch) Q := by
  obtain ⟨w, rfl, r⟩ := rds.one
  split at h
  · rename_i s z h1 h2
    split at h
    · rename_i ch h3
      obtain ⟨rfl, hl⟩ := oneSign_eq h3
      exact ⟨s, ch, hl, rd.str h1, by rw [r.str h2], h⟩
    · exact h.elim
  · exact h.elim
theorem strs_RTs (G : Hp) : ∀ l : List Cs, RTs K G (l.map .str) ((l.map stC).map V.str)
  | [] => by unfold RTs; rfl
  | y :: l => by
    simp only [List.map_cons]
    unfold RTs
    refine ⟨_, _, rfl, ?_, strs_RTs G l⟩
    unfold RT
    rfl
theorem spl_ok {ds : List D} {vs : List V} (rel : Rel K c H) (rd : RD K c d v) (rds : RDs K c ds vs) (h : PR K mg W σ (rD K) c H (mtV .split d ds c.S) Q) : rMt K .split v vs H Q := by
  match ds, h with
  | [], h => exact h.elim
  | _ :: _ :: _, h => exact h.elim
  | [x], h =>
    obtain ⟨s, ch, hl, rfl, rfl, h'⟩ := two_sign (g := fun s ch => if s.length + 2 ≤ lim then R.ok (D.t (.lst ((splitC ch s).map .str))) c.S else .stuck) rd rds h
    split at h'
    · rename_i hz
      refine ⟨stC s, stC [ch], rfl, rfl, by rw [stC_len]; rfl, by rw [stC_len]; exact Nat.le_trans hz lim_line, fun p hp => ?_⟩
      rw [split_stC ch hl]
      obtain ⟨rel2, s2⟩ := rel.lay (o := .lst (((splitC ch s).map stC).map V.str)) hp
      refine h' (.ref p) ⟨upd c.G p (.lst (((splitC ch s).map stC).map V.str)), c.ρ, c.S⟩ _ rfl rel2 s2 ?_
      show RD K _ _ _
      unfold RD RT
      refine ⟨p, _, rfl, upd_same, ?_⟩
      exact strs_RTs _ _
    · exact h'.elim
theorem prt_ok {ds : List D} {vs : List V} (rel : Rel K c H) (rd : RD K c d v) (rds : RDs K c ds vs) (h : PR K mg W σ (rD K) c H (mtV .part d ds c.S) Q) : rMt K .part v vs H Q := by
  match ds, h with
  | [], h => exact h.elim
  | _ :: _ :: _, h => exact h.elim
  | [x], h =>
    obtain ⟨s, ch, hl, rfl, rfl, h'⟩ := two_sign (g := fun s ch => if s.length ≤ lim then R.ok (D.t (match partC ch s with
          | some (p, q) => T.tup [.str p, .str [ch], .str q]
          | none => .tup [.str s, .str [], .str []])) c.S else .stuck) rd rds h
    split at h'
    · rename_i hz
      refine ⟨stC s, stC [ch], rfl, rfl, by rw [stC_len]; rfl, by rw [stC_len]; exact Nat.le_trans hz lim_line, fun p hp => ?_⟩
      have three : ∀ (G : Hp) (a b e : Cs), G p = some (.tup [.str (stC a), .str (stC b), .str (stC e)]) → RT K G (.tup [.str a, .str b, .str e]) (.ref p) := fun G a b e hg => by
        unfold RT
        refine ⟨p, _, rfl, .inl (.inl hg), ?_⟩
        unfold RTs
        refine ⟨_, _, rfl, by unfold RT; rfl, ?_⟩
        unfold RTs
        refine ⟨_, _, rfl, by unfold RT; rfl, ?_⟩
        unfold RTs
        refine ⟨_, _, rfl, by unfold RT; rfl, ?_⟩
        unfold RTs
        rfl
      rw [part_stC]
      cases e : partC ch s with
      | none =>
        rw [e] at h'
        obtain ⟨rel2, s2⟩ := rel.lay (o := .tup [.str (stC s), .str (stC []), .str (stC [])]) hp
        refine h' (.ref p) ⟨upd c.G p (.tup [.str (stC s), .str (stC []), .str (stC [])]), c.ρ, c.S⟩ _ rfl rel2 s2 ?_
        show RD K _ _ _
        unfold RD
        exact three _ _ _ _ upd_same
      | some pq =>
        obtain ⟨y, z⟩ := pq
        rw [e] at h'
        obtain ⟨rel2, s2⟩ := rel.lay (o := .tup [.str (stC y), .str (stC [ch]), .str (stC z)]) hp
        refine h' (.ref p) ⟨upd c.G p (.tup [.str (stC y), .str (stC [ch]), .str (stC z)]), c.ρ, c.S⟩ _ rfl rel2 s2 ?_
        show RD K _ _ _
        unfold RD
        exact three _ _ _ _ upd_same
    · exact h'.elim
theorem cnt_ok {ds : List D} {vs : List V} (rel : Rel K c H) (rd : RD K c d v) (rds : RDs K c ds vs) (h : PR K mg W σ (rD K) c H (mtV .count d ds c.S) Q) : rMt K .count v vs H Q := by
  match ds, h with
  | [], h => exact h.elim
  | _ :: _ :: _, h => exact h.elim
  | [x], h =>
    obtain ⟨s, ch, hl, rfl, rfl, h'⟩ := two_sign (g := fun s ch => R.ok (D.t (.int ((s.filter fun x => x == ch).length : Nat))) c.S) rd rds h
    refine ⟨stC s, stC [ch], rfl, rfl, ?_⟩
    rw [count_stC]
    exact PR.now h' rel (RD.mkInt _)
theorem sta_ok {ds : List D} {vs : List V} (rel : Rel K c H) (rd : RD K c d v) (rds : RDs K c ds vs) (h : PR K mg W σ (rD K) c H (mtV .starts d ds c.S) Q) : rMt K .starts v vs H Q := by
  match ds, h with
  | [], h => exact h.elim
  | _ :: _ :: _, h => exact h.elim
  | [x], h =>
    obtain ⟨s, ch, hl, rfl, rfl, h'⟩ := two_sign (g := fun s ch => R.ok (D.t (.bl (s.head? == some ch))) c.S) rd rds h
    refine ⟨stC s, stC [ch], rfl, rfl, ?_⟩
    rw [starts_stC]
    exact PR.now h' rel (RD.mkBl _)
theorem end_ok {ds : List D} {vs : List V} (rel : Rel K c H) (rd : RD K c d v) (rds : RDs K c ds vs) (h : PR K mg W σ (rD K) c H (mtV .ends d ds c.S) Q) : rMt K .ends v vs H Q := by
  match ds, h with
  | [], h => exact h.elim
  | _ :: _ :: _, h => exact h.elim
  | [x], h =>
    obtain ⟨s, ch, hl, rfl, rfl, h'⟩ := two_sign (g := fun s ch => R.ok (D.t (.bl (s.getLast? == some ch))) c.S) rd rds h
    refine ⟨stC s, stC [ch], rfl, rfl, ?_⟩
    rw [ends_stC]
    exact PR.now h' rel (RD.mkBl _)
theorem pop1_ok {ds : List D} {vs : List V} (rel : Rel K c H) (rd : RD K c d v) (rds : RDs K c ds vs) (h : PR K mg W σ (rD K) c H (mtV .popAt d ds c.S) Q) : rMt K .popAt v vs H Q := by
  match ds, h with
  | [], h => exact h.elim
  | _ :: _ :: _, h => exact h.elim
  | [x], h =>
    obtain ⟨w, rfl, r⟩ := rds.one
    have h' : PR K mg W σ (rD K) c H (match cellL c.S d, asInt x with
      | some (n, xs), some i => if 0 ≤ i ∧ i < 2 ^ 62 then match xs[i.toNat]? with
          | some x => R.ok (D.t x) (c.S.set n (.lst (xs.eraseIdx i.toNat)))
          | none => .stuck
        else .stuck
      | _, _ => .stuck) Q := h
    split at h'
    · rename_i n xs i h1 h2
      split at h'
      · rename_i hi
        split at h'
        · rename_i y hy
          obtain ⟨e0, e1, a, ws, rfl, e3, e4, e5, e6⟩ := rd.cellL rel h1
          obtain ⟨r3, s3⟩ := rel.setCell e1 e3 e4 e5 (e6.erase i.toNat)
          obtain ⟨u, q1, q2⟩ := e6.getAt hy
          have hlt : i.toNat < ws.length := (List.getElem?_eq_some_iff.mp q1).1
          refine ⟨a, ws, i, i.toNat, u, rfl, by rw [r.int h2], e5, by omega, by omega, ?_, q1, h' u ⟨c.G, c.ρ, c.S.set n (.lst (xs.eraseIdx i.toNat))⟩ _ rfl r3 s3 ?_⟩
          · unfold seqIndex?
            have n0 : ¬ i < 0 := by omega
            simp only [if_neg n0]
            rw [if_pos]
            simp only [Bool.and_eq_true, decide_eq_true_eq]
            omega
          · show RD K _ _ _
            unfold RD
            exact q2
        · exact h'.elim
      · exact h'.elim
    · exact h'.elim
theorem ext_ok {ds : List D} {vs : List V} (rel : Rel K c H) (rd : RD K c d v) (rds : RDs K c ds vs) (h : PR K mg W σ (rD K) c H (mtV .extend d ds c.S) Q) : rMt K .extend v vs H Q := by
  match ds, h with
  | [], h => exact h.elim
  | [d1], h =>
    have h' : PR K mg W σ (rD K) c H (match cellL c.S d, asL c.S d1 with | some (n, xs), some ys => if xs.length + ys.length ≤ lim then .ok (.t .non) (c.S.set n (.lst (xs ++ ys))) else .stuck | _, _ => .stuck) Q := h
    obtain ⟨w, rfl, r⟩ := rds.one
    split at h'
    · rename_i n xs ys h1 h2
      split at h'
      · rename_i hl
        obtain ⟨e0, e1, a, ws, rfl, e3, e4, e5, e6⟩ := rd.cellL rel h1
        obtain ⟨b, us, rfl, f2, f3⟩ := r.asL rel h2
        obtain ⟨r2, s2⟩ := rel.setCell e1 e3 e4 e5 (e6.app f3)
        refine ⟨a, b, ws, us, rfl, rfl, e5, f2, ?_, ?_⟩
        · rw [e6.len, f3.len]
          exact Nat.le_trans hl lim_line
        · exact h' .non ⟨c.G, c.ρ, c.S.set n (.lst (xs ++ ys))⟩ _ rfl r2 s2 RD.mkNon
      · exact h'.elim
    · exact h'.elim
  | _ :: _ :: _, h => exact h.elim
theorem upper_low : ∀ s : Cs, s.all isLow = true → Txt.upper (stC s) = stC (s.map upC)
  | [], _ => rfl
  | c :: s, h => by
    rw [List.all_cons, Bool.and_eq_true] at h
    have e1 : stC (c :: s) = stC [c] ++ stC s := by rw [stC_app]; rfl
    have e2 : stC ((c :: s).map upC) = stC [upC c] ++ stC (s.map upC) := by rw [stC_app]; rfl
    rw [e1, e2, PySem.W.KOpn.upper_app, upper_low s h.2]
    congr 1
    have hc := h.1
    unfold isLow at hc
    rw [Bool.and_eq_true, decide_eq_true_eq, decide_eq_true_eq] at hc
    have tab : ∀ n < 123, 97 ≤ n → Unicode.upperOf n = [n - 32] := by decide +kernel
    have e3 := tab c.toNat (by omega) hc.1
    have e4 : (upC c).toNat = c.toNat - 32 := by
      have tab2 : ∀ n < 123, 97 ≤ n → (Char.ofNat (n - 32)).toNat = n - 32 := by decide +kernel
      exact tab2 c.toNat (by omega) hc.1
    show Str.mk (placed (stC [c]) fun _ c => Unicode.upperOf c) = stC [upC c]
    rw [stC_sign, stC_sign, e4]
    unfold placed
    simp [e3]
theorem up_ok {ds : List D} {vs : List V} (rel : Rel K c H) (rd : RD K c d v) (rds : RDs K c ds vs) (h : PR K mg W σ (rD K) c H (mtV .upper d ds c.S) Q) : rMt K .upper v vs H Q := by
  cases ds with
  | cons d1 ds => exact h.elim
  | nil =>
    have h' : PR K mg W σ (rD K) c H (match asStr d with | some s => (if s.all isLow && decide (s.length ≤ lim) then R.ok (.t (.str (s.map upC))) c.S else .stuck) | none => .stuck) Q := h
    split at h'
    · rename_i s hs
      split at h'
      · rename_i hl
        rw [Bool.and_eq_true, decide_eq_true_eq] at hl
        refine ⟨stC s, rd.str hs, rds.none, ?_, ?_⟩
        · rw [stC_len]
          have := hl.2
          unfold lim at this
          omega
        · rw [upper_low s hl.1]
          exact PR.now h' rel (RD.mkStr _)
      · exact h'.elim
    · exact h'.elim
theorem mt_ok {m : Mt} {ds : List D} {vs : List V} (rel : Rel K c H) (rd : RD K c d v) (rds : RDs K c ds vs) (h : PR K mg W σ (rD K) c H (mtV m d ds c.S) Q) : rMt K m v vs H Q := by
  cases m with
  | append => exact app_ok rel rd rds h
  | insert => exact ins_ok rel rd rds h
  | clear => exact clr_ok rel rd rds h
  | pop => exact pop_ok rel rd rds h
  | join => exact join_ok rel rd rds h
  | upper => exact up_ok rel rd rds h
  | extend => exact ext_ok rel rd rds h
  | popAt => exact pop1_ok rel rd rds h
  | split => exact spl_ok rel rd rds h
  | part => exact prt_ok rel rd rds h
  | count => exact cnt_ok rel rd rds h
  | starts => exact sta_ok rel rd rds h
  | ends => exact end_ok rel rd rds h
end

/-! ### targets -/
def Keeps (l : List Nat) (σ σ' : L2.St) : Prop := σ'.length = σ.length ∧ ∀ i, i ∉ l → σ'[i]? = σ[i]?
theorem Keeps.refl (l : List Nat) (σ : L2.St) : Keeps l σ σ := ⟨rfl, fun _ _ => rfl⟩
theorem Keeps.trans {l m : List Nat} {σ σ1 σ2 : L2.St} (a : Keeps l σ σ1) (b : Keeps m σ1 σ2) : Keeps (l ++ m) σ σ2 := ⟨b.1.trans a.1, fun i h => by
  simp only [List.mem_append, not_or] at h
  rw [b.2 i h.2, a.2 i h.1]⟩
theorem EnvR.set {K : PySem.W.Frag} {c : Cfg} {σ : L2.St} {env : Env} {d : D} {v : V} (e : EnvR K c σ env) (r : RD K c d v) (i : Nat) : EnvR K c (σ.set i (some v)) (env.set i (some d)) := ⟨by simp [e.len], fun j d' h => by
  by_cases q : i = j
  · subst q
    have hi : i < env.length := by
      have := (List.getElem?_eq_some_iff.mp h).1
      simpa using this
    rw [List.getElem?_set_self hi] at h
    cases h
    exact ⟨v, by rw [List.getElem?_set_self (by rw [← e.len]; exact hi)], r⟩
  · rw [List.getElem?_set_ne q] at h ⊢
    exact e.get j d' h⟩
section
variable (K : PySem.W.Frag)
def gT (tg : Tg) : TG := fun v σ H Q => ∃ env c d env', Rel K c H ∧ EnvR K c σ env ∧ RD K c d v ∧ setTg tg d env = some env' ∧ ∀ σ', EnvR K c σ' env' → Keeps (tgSl tg) σ σ' → Q σ' H
def gTs (ts : List Tg) : TGs := fun vs σ H Q => ∃ env c ds env', Rel K c H ∧ EnvR K c σ env ∧ RDs K c ds vs ∧ setTgs ts ds env = some env' ∧ ∀ σ', EnvR K c σ' env' → Keeps (tgsSl ts) σ σ' → Q σ' H
end
theorem impPG {X : Cx} {e : PySem.Expr} {t t' : TG} (h : PG X e t') (i : ∀ v σ H Q, t v σ H Q → t' v σ H Q) : PG X e t := ⟨fun pins s σ H v u Q I r q => h.run pins s σ H v u Q I r (i v σ H Q q)⟩
theorem impPGs {X : Cx} {e : List PySem.Expr} {t t' : TGs} (h : PGs X e t') (i : ∀ v σ H Q, t v σ H Q → t' v σ H Q) : PGs X e t := ⟨fun pins s σ H v u Q I r q => h.run pins s σ H v u Q I r (i v σ H Q q)⟩
theorem ae_cons {e : PySem.Expr} (h : isStar e = false) (es : List PySem.Expr) (env : PySem.Env) : assignEach (e :: es) env = (false, assign e env) :: assignEach es env := by
  cases e <;> first | rfl | cases h
theorem se_cons {e : PySem.Expr} (h : isStar e = false) (es : List PySem.Expr) (env : PySem.Env) : starEach (e :: es) env = (false, eval e env) :: starEach es env := by
  cases e <;> first | rfl | cases h
/-- no star among these -/
def noStar (es : List PySem.Expr) : Bool := es.all fun e => !isStar e
theorem ae_len : ∀ (es : List PySem.Expr) (env : PySem.Env), noStar es = true → (assignEach es env).length = es.length ∧ (assignEach es env).findIdx? (·.1) = none
  | [], _, _ => ⟨rfl, rfl⟩
  | e :: es, env, h => by
    unfold noStar at h
    simp only [List.all_cons, Bool.and_eq_true, Bool.not_eq_true'] at h
    rw [ae_cons h.1]
    obtain ⟨h1, h2⟩ := ae_len es env h.2
    refine ⟨by simp [h1], ?_⟩
    rw [List.findIdx?_cons]
    simp [h2]
theorem se_any : ∀ (es : List PySem.Expr) (env : PySem.Env) (pos : Pos), noStar es = true → (backTo pos (starEach es env)).any (·.1) = false
  | [], _, _, _ => rfl
  | e :: es, env, pos, h => by
    unfold noStar at h
    simp only [List.all_cons, Bool.and_eq_true, Bool.not_eq_true'] at h
    rw [se_cons h.1]
    show (false || (backTo pos (starEach es env)).any (·.1)) = false
    rw [se_any es env pos h.2]
    rfl
theorem kindS_loc {sc : Scope} {x : Str} (h : isLoc sc x = true) : sc.names.lookup x = some .local ∨ sc.names.lookup x = some .cell := by
  unfold isLoc kindS at h
  split at h
  · left; assumption
  · right; assumption
  · cases h
section
variable {X : Cx} {sc : Scope} {N : List Str}
theorem tg_sound (C : TX X sc N) : ∀ n : Nat, (∀ (e : PySem.Expr) (t : Tg), cTg sc N n e = some t → PG X e (gT X.K t)) ∧ ∀ (es : List PySem.Expr) (ts : List Tg), cTgs sc N n es = some ts → PGs X es (gTs X.K ts) ∧ noStar es = true ∧ es.length = ts.length
  | 0 => ⟨fun e t h => (by unfold cTg at h; cases h), fun es ts h => (by unfold cTgs at h; cases h)⟩
  | n + 1 => by
    obtain ⟨i1, i2⟩ := tg_sound C n
    refine ⟨fun e t h => ?_, fun es ts h => ?_⟩
    · unfold cTg at h
      split at h
      · rename_i n' e' n2 e2
        cases e2
      · rename_i n' x p e2
        cases e2
        split at h
        · rename_i hl
          split at h
          · rename_i i hi
            cases h
            have hN : X.N[i]? = some x := by rw [C.hN]; exact ixS_some hi
            have hx : Loc X.env.scope x := by
              rcases kindS_loc hl with z | z
              · exact .inl (C.loc x z)
              · exact .inr (C.cell x z).1
            refine impPG (pg_name (i := i) C.nd hN hx ?_) fun v σ H Q q => ?_
            · rcases kindS_loc hl with z | z
              · exact .inr (C.loc x z)
              · exact .inl (C.cell x z).2
            · obtain ⟨env, c, d, env', rel, er, rd, st, qq⟩ := q
              unfold setTg at st
              cases st
              refine qq _ (er.set rd i) ⟨by simp, fun j hj => ?_⟩
              unfold tgSl at hj
              rw [List.getElem?_set_ne]
              intro z
              subst z
              simp at hj
          · cases h
        · cases h
      · rename_i n' es k p e2
        cases e2
        split at h
        · rename_i ts hts
          cases h
          obtain ⟨g, ns, hl⟩ := i2 es ts hts
          obtain ⟨a1, a2⟩ := ae_len es X.env ns
          refine impPG (pg_tup C.calm g a1 a2) fun v σ H Q q => ?_
          obtain ⟨env, c, d, env', rel, er, rd, st, qq⟩ := q
          unfold setTg at st
          split at st
          · rename_i ds hds
            obtain ⟨a, vs, e1, e2, e3⟩ := rd.tupOf rel hds
            refine ⟨a, vs, e1, e2, ?_, env, c, ds, env', rel, er, e3, st, fun σ' h1 h2 => qq σ' h1 (by unfold tgSl; exact h2)⟩
            rw [e3.len, hl]
            -- the numbers agree
            have len : ∀ (ts : List Tg) (ds : List D) (env env' : Env), setTgs ts ds env = some env' → ds.length = ts.length := by
              intro ts
              induction ts with
              | nil =>
                intro ds env env' h
                cases ds with
                | nil => rfl
                | cons d ds => unfold setTgs at h; cases h
              | cons t ts ih =>
                intro ds env env' h
                cases ds with
                | nil => unfold setTgs at h; cases h
                | cons d ds =>
                  unfold setTgs at h
                  split at h
                  · rename_i env1 h1
                    simp [ih ds _ _ h]
                  · cases h
            exact len ts ds env env' st
          · cases st
        · cases h
      · cases h
    · unfold cTgs at h
      split at h
      · rename_i n' e' n2 e2
        cases e2
      · rename_i e2
        cases e2
        cases h
        refine ⟨impPGs pgs_nil fun vs σ H Q q => ?_, rfl, rfl⟩
        obtain ⟨env, c, ds, env', rel, er, rds, st, qq⟩ := q
        cases ds with
        | nil =>
          unfold setTgs at st
          cases st
          unfold RDs at rds
          exact ⟨rds, qq σ er (Keeps.refl _ _)⟩
        | cons d ds => unfold setTgs at st; cases st
      · rename_i n' e r e2
        cases e2
        split at h
        · cases h
        · rename_i hstar
          split at h
          · rename_i t ht
            split at h
            · rename_i ts hts
              cases h
              obtain ⟨g, ns, hl⟩ := i2 r ts hts
              have hs : isStar e = false := by simpa using hstar
              refine ⟨impPGs (pgs_cons (i1 e t ht) g (by rw [ae_cons hs]; rfl)) fun vs σ H Q q => ?_, ?_, by simp [hl]⟩
              · obtain ⟨env, c, ds, env', rel, er, rds, st, qq⟩ := q
                cases ds with
                | nil => unfold setTgs at st; cases st
                | cons d ds =>
                  unfold setTgs at st
                  split at st
                  · rename_i env1 h1
                    unfold RDs at rds
                    obtain ⟨v, w, rfl, q2, q3⟩ := rds
                    refine ⟨v, w, rfl, env, c, d, env1, rel, er, q2, h1, fun σ1 er1 k1 => ?_⟩
                    exact ⟨env1, c, ds, env', rel, er1, q3, st, fun σ2 er2 k2 => qq σ2 er2 (by unfold tgsSl; exact k1.trans k2)⟩
                  · cases st
              · unfold noStar at ns ⊢
                simp [hs, ns]
            · cases h
          · cases h
end
end Kp
/-! Calls of the text's own defs, each with a store of its own. -/
namespace Kp
open PySem L2
open Classical
theorem backC_len : ∀ (ns : List Nat) (cs S : Sto), (backC ns cs S).length = S.length
  | [], _, _ => rfl
  | _ :: _, [], _ => rfl
  | n :: r, c :: cs, S => by
    unfold backC
    rw [backC_len r cs]
    simp
theorem backC_out : ∀ (ns : List Nat) (cs S : Sto) (n : Nat), n ∉ ns → (backC ns cs S)[n]? = S[n]?
  | [], _, _, _, _ => rfl
  | _ :: _, [], _, _, _ => rfl
  | m :: r, c :: cs, S, n, h => by
    simp only [List.mem_cons, not_or] at h
    unfold backC
    rw [backC_out r cs _ n h.2, List.getElem?_set_ne (Ne.symm h.1)]
theorem backC_in : ∀ (ns : List Nat) (cs S : Sto) (j n : Nat), ns.Nodup → ns[j]? = some n → n < S.length → j < cs.length → (backC ns cs S)[n]? = cs[j]?
  | [], _, _, _, _, _, h, _, _ => by simp at h
  | _ :: _, [], _, _, _, _, _, _, h => by simp at h
  | m :: r, c :: cs, S, 0, n, nd, h, hn, _ => by
    simp at h
    subst h
    unfold backC
    rw [backC_out r cs _ m (List.nodup_cons.mp nd).1, List.getElem?_set_self hn]
    rfl
  | m :: r, c :: cs, S, j + 1, n, nd, h, hn, hj => by
    unfold backC
    rw [backC_in r cs _ j n (List.nodup_cons.mp nd).2 (by simpa using h) (by simpa using hn) (by simpa using hj)]
    simp
theorem lentC_get {S : Sto} : ∀ {ns : List Nat} {cs : List Cell}, lentC S ns = some cs → cs.length = ns.length ∧ ∀ (j n : Nat), ns[j]? = some n → ∃ xs, S[n]? = some (.lst xs) ∧ cs[j]? = some (.lst xs)
  | [], cs, h => by
    unfold lentC at h
    cases h
    exact ⟨rfl, fun j n h => by simp at h⟩
  | m :: r, cs, h => by
    unfold lentC at h
    split at h
    · rename_i xs e
      split at h
      · rename_i cs' e2
        cases h
        obtain ⟨h1, h2⟩ := lentC_get e2
        refine ⟨by simp [h1], fun j n q => ?_⟩
        cases j with
        | zero =>
          simp at q
          subst q
          exact ⟨xs, e, rfl⟩
        | succ j =>
          obtain ⟨ys, q1, q2⟩ := h2 j n (by simpa using q)
          exact ⟨ys, q1, by simpa using q2⟩
      · cases h
    · cases h
section
variable {X : Cx} {K : PySem.W.Frag} {mg : Str → Option Value} {W : WX} {σ : L2.St} {c c1 : Cfg} {H H1 : Hp} {d : D} {v : V} {Q : VK}
/-- the callee's config -/
def lend (c : Cfg) (ns : List Nat) (cs : List Cell) : Cfg := ⟨c.G, ns.map fun n => c.ρ.getD n 0, cs⟩
structure Lent (c : Cfg) (ns : List Nat) (cs : List Cell) : Prop where
  nd : ns.Nodup
  len : cs.length = ns.length
  get : ∀ (j n : Nat), ns[j]? = some n → ∃ xs, c.S[n]? = some (.lst xs) ∧ cs[j]? = some (.lst xs)
theorem lend_at {ns : List Nat} {cs : List Cell} (rel : Rel K c H) (L : Lent c ns cs) {j : Nat} {a : Addr} (h : (lend c ns cs).ρ[j]? = some a) : ∃ n, ns[j]? = some n ∧ c.ρ[n]? = some a ∧ live c.S n := by
  have h' : (ns.map fun n => c.ρ.getD n 0)[j]? = some a := h
  rw [List.getElem?_map] at h'
  cases e : ns[j]? with
  | none => rw [e] at h'; cases h'
  | some n =>
    rw [e] at h'
    have h2 : c.ρ.getD n 0 = a := Option.some.inj h'
    obtain ⟨xs, q1, q2⟩ := L.get j n e
    have hn : n < c.ρ.length := by
      rw [rel.len]
      exact (List.getElem?_eq_some_iff.mp q1).1
    refine ⟨n, rfl, ?_, ⟨_, q1, by intro z; cases z⟩⟩
    rw [List.getD_eq_getElem?_getD, List.getElem?_eq_getElem hn] at h2
    rw [List.getElem?_eq_getElem hn]
    exact congrArg some h2
theorem lend_of {ns : List Nat} {cs : List Cell} {j n : Nat} {a : Addr} (h1 : ns[j]? = some n) (h2 : c.ρ[n]? = some a) : (lend c ns cs).ρ[j]? = some a := by
  show (ns.map fun n => c.ρ.getD n 0)[j]? = some a
  rw [List.getElem?_map, h1]
  show some (c.ρ.getD n 0) = some a
  rw [List.getD_eq_getElem?_getD, h2]
  rfl
theorem lend_rel {ns : List Nat} {cs : List Cell} (rel : Rel K c H) (L : Lent c ns cs) : Rel K (lend c ns cs) H where
  sub := rel.sub
  len := by
    show (ns.map fun n => c.ρ.getD n 0).length = cs.length
    rw [List.length_map, L.len]
  cell := fun j x a h1 h2 h3 => by
    obtain ⟨n, q1, q2, q3⟩ := lend_at rel L h2
    obtain ⟨xs, q4, q5⟩ := L.get j n q1
    have h1' : cs[j]? = some x := h1
    rw [q5] at h1'
    cases h1'
    obtain ⟨g, q⟩ := rel.cellAt q4 q2 (by intro z; cases z)
    refine ⟨g, ?_⟩
    unfold RC at q ⊢
    exact q
  inj := fun i j a h1 h2 l1 l2 => by
    obtain ⟨n, q1, q2, q3⟩ := lend_at rel L h1
    obtain ⟨m, p1, p2, p3⟩ := lend_at rel L h2
    have e := rel.inj n m a q2 p2 q3 p3
    subst e
    exact (List.getElem?_inj (List.getElem?_eq_some_iff.mp q1).1 L.nd).mp (q1.trans p1.symm)
theorem lend_RDs {ns : List Nat} {cs : List Cell} : ∀ {ds as : List D} {vs : List V} {r : List Nat} {k : Nat}, isoArgs ds k = some (as, r) → (∀ (j n : Nat), r[j]? = some n → ns[k + j]? = some n) → RDs K c ds vs → RDs K (lend c ns cs) as vs
  | [], as, vs, r, k, h, _, q => by
    unfold isoArgs at h
    cases h
    unfold RDs at q ⊢
    exact q
  | .t x :: ds, as, vs, r, k, h, hr, q => by
    unfold isoArgs at h
    split at h
    · rename_i a n e
      cases h
      unfold RDs at q ⊢
      obtain ⟨v, w, q1, q2, q3⟩ := q
      exact ⟨v, w, q1, by unfold RD at q2 ⊢; exact q2, lend_RDs e hr q3⟩
    · cases h
  | .ref m :: ds, as, vs, r, k, h, hr, q => by
    unfold isoArgs at h
    split at h
    · rename_i a n e
      cases h
      unfold RDs at q ⊢
      obtain ⟨v, w, q1, q2, q3⟩ := q
      refine ⟨v, w, q1, ?_, lend_RDs e (fun j n' hj => ?_) q3⟩
      · unfold RD at q2 ⊢
        obtain ⟨b, b1, b2⟩ := q2
        refine ⟨b, b1, lend_of (hr 0 m rfl) b2⟩
      · have := hr (j + 1) n' (by simpa using hj)
        rw [show k + 1 + j = k + (j + 1) by omega]
        exact this
    · cases h
  | .exc cl fs :: ds, as, vs, r, k, h, hr, q => by
    unfold isoArgs at h
    split at h
    · rename_i a n e
      cases h
      unfold RDs at q ⊢
      obtain ⟨v, w, q1, q2, q3⟩ := q
      exact ⟨v, w, q1, by unfold RD at q2 ⊢; exact q2, lend_RDs e hr q3⟩
    · cases h
  | .tp xs :: ds, as, vs, r, k, h, hr, q => by
    unfold isoArgs at h
    cases h
theorem flat_at {S : Sto} (h : S.all flatC = true) {n : Nat} {x : Cell} (e : S[n]? = some x) : x = .gone ∨ ∃ xs, x = .lst xs := by
  have q := List.all_eq_true.mp h x (List.mem_of_getElem? e)
  cases x with
  | lst xs => exact .inr ⟨xs, rfl⟩
  | gone => exact .inl rfl
  | lsr ds => cases q
  | dcr ks ds => cases q
  | ins cl fs => cases q
/-- behind the call, in the caller's numbers; what F tells is frozen -/
structure Beh (K : PySem.W.Frag) (c : Cfg) (H : Hp) (ns : List Nat) (cs : List Cell) (c1 : Cfg) (H1 : Hp) : Prop where
  rel : Rel K c H
  L : Lent c ns cs
  rel1 : Rel K c1 H1
  stp : Stp (lend c ns cs) H c1 H1
  flat : c1.S.all flatC = true
theorem Beh.m {ns : List Nat} {cs : List Cell} (B : Beh K c H ns cs c1 H1) : ns.length ≤ c1.ρ.length := by
  have := B.stp.len_le
  have e : (lend c ns cs).ρ.length = ns.length := by
    show (ns.map fun n => c.ρ.getD n 0).length = ns.length
    simp
  omega
/-- a lent cell's address -/
theorem Beh.lentAt {ns : List Nat} {cs : List Cell} (B : Beh K c H ns cs c1 H1) {j n : Nat} {a : Addr} (h1 : ns[j]? = some n) (h2 : c.ρ[n]? = some a) : c1.ρ[j]? = some a := B.stp.get (lend_of h1 h2)
/-- an address of the caller's that isn't lent -/
theorem Beh.other {ns : List Nat} {cs : List Cell} (B : Beh K c H ns cs c1 H1) {n : Nat} {a : Addr} (h2 : c.ρ[n]? = some a) (l : live c.S n) (hn : n ∉ ns) : (∀ o, H a = some o → H1 a = some o) ∧ c1.G a = none := by
  have key : ∀ j, (lend c ns cs).ρ[j]? = some a → False := fun j hj => by
    obtain ⟨m, q1, q2, q3⟩ := lend_at B.rel B.L hj
    have e := B.rel.inj n m a h2 q2 l q3
    subst e
    exact hn (List.mem_of_getElem? q1)
  refine ⟨fun o h => B.stp.frm a o h fun j hj _ => key j hj, ?_⟩
  cases e : c1.G a with
  | none => rfl
  | some o =>
    exfalso
    obtain ⟨x, q1, q3⟩ := l
    obtain ⟨g, q⟩ := B.rel.cellAt q1 h2 q3
    have hH : ∃ u, H a = some u := by
      cases x with
      | gone => exact absurd rfl q3
      | lst xs => unfold RC at q; obtain ⟨vs, z, _⟩ := q; exact ⟨_, z⟩
      | lsr xs => unfold RC at q; obtain ⟨vs, z, _⟩ := q; exact ⟨_, z⟩
      | dcr ks ds => unfold RC at q; exact q.elim
      | ins cl fs => unfold RC at q; exact q.elim
    obtain ⟨u, hu⟩ := hH
    rcases B.stp.new a o e with z | z | ⟨j, z, _⟩
    · have z' : c.G a = some o := z
      rw [g] at z'
      cases z'
    · rw [hu] at z
      cases z
    · exact key j z
/-- a cell of the caller's is known to the heap -/
theorem Rel.known (rel : Rel K c H) {n : Nat} {a : Addr} (h2 : c.ρ[n]? = some a) (l : live c.S n) : ∃ u, H a = some u := by
  obtain ⟨x, q1, q3⟩ := l
  obtain ⟨g, q⟩ := rel.cellAt q1 h2 q3
  cases x with
  | gone => exact absurd rfl q3
  | lst xs => unfold RC at q; obtain ⟨vs, z, _⟩ := q; exact ⟨_, z⟩
  | lsr xs => unfold RC at q; obtain ⟨vs, z, _⟩ := q; exact ⟨_, z⟩
  | dcr ks ds => unfold RC at q; exact q.elim
  | ins cl fs => unfold RC at q; exact q.elim
/-- behind the call: frozen are the callee's own cells -/
theorem Beh.freeze {ns : List Nat} {cs : List Cell} (B : Beh K c H ns cs c1 H1) (fz : Bool) :
    ∃ c2 : Cfg, c2.S = backC ns c1.S c.S ∧ Rel K c2 H1 ∧ Stp c H c2 H1 ∧ (∀ a o, c1.G a = some o → c2.G a = some o) ∧ (fz = true → ∀ (n : Nat) a vs, ns.length ≤ n → c1.ρ[n]? = some a → live c1.S n → H1 a = some (.lst vs) → c2.G a = some (.lst vs)) := by
  have m := B.m
  refine ⟨⟨fun a => if fz = true ∧ ∃ n, ns.length ≤ n ∧ c1.ρ[n]? = some a ∧ live c1.S n then H1 a else c1.G a, c.ρ, backC ns c1.S c.S⟩, rfl, ?_, ?_, ?_, ?_⟩
  · -- Rel
    have ext : ∀ a o, c1.G a = some o → (if fz = true ∧ ∃ n, ns.length ≤ n ∧ c1.ρ[n]? = some a ∧ live c1.S n then H1 a else c1.G a) = some o := fun a o h => by
      by_cases q : fz = true ∧ ∃ n, ns.length ≤ n ∧ c1.ρ[n]? = some a ∧ live c1.S n
      · rw [if_pos q]
        exact B.rel1.sub a o h
      · rw [if_neg q]
        exact h
    have lv : ∀ n, live (backC ns c1.S c.S) n → live c.S n := fun n ⟨x, q1, q3⟩ => by
      by_cases hn : n ∈ ns
      · obtain ⟨j, hj⟩ := List.getElem?_of_mem hn
        obtain ⟨xs, q, _⟩ := B.L.get j n hj
        exact ⟨_, q, by intro z; cases z⟩
      · rw [backC_out _ _ _ _ hn] at q1
        exact ⟨x, q1, q3⟩
    -- a caller's live cell is none of the callee's own
    have notNew : ∀ n a, c.ρ[n]? = some a → live c.S n → ¬ ∃ k, ns.length ≤ k ∧ c1.ρ[k]? = some a ∧ live c1.S k := fun n a h l ⟨k, k1, k2, _⟩ => by
      obtain ⟨u, hu⟩ := B.rel.known h l
      have z := B.stp.fresh k a (by
        show (ns.map fun n => c.ρ.getD n 0).length ≤ k
        simpa using k1) k2
      rw [hu] at z
      cases z
    refine ⟨fun a o h => ?_, by rw [B.rel.len, backC_len], fun n x a h1 h2 h3 => ?_, fun n k a h1 h2 l1 l2 => B.rel.inj n k a h1 h2 (lv n l1) (lv k l2)⟩
    · have h' : (if fz = true ∧ ∃ n, ns.length ≤ n ∧ c1.ρ[n]? = some a ∧ live c1.S n then H1 a else c1.G a) = some o := h
      by_cases q : fz = true ∧ ∃ n, ns.length ≤ n ∧ c1.ρ[n]? = some a ∧ live c1.S n
      · rw [if_pos q] at h'
        exact h'
      · rw [if_neg q] at h'
        exact B.rel1.sub a o h'
    · have l : live c.S n := lv n ⟨x, h1, h3⟩
      have nn := notNew n a h2 l
      have nn2 : ¬ (fz = true ∧ ∃ k, ns.length ≤ k ∧ c1.ρ[k]? = some a ∧ live c1.S k) := fun z => nn z.2
      by_cases hn : n ∈ ns
      · obtain ⟨j, hj⟩ := List.getElem?_of_mem hn
        have hjl : j < ns.length := (List.getElem?_eq_some_iff.mp hj).1
        have hnl : n < c.S.length := by
          obtain ⟨xs, q, _⟩ := B.L.get j n hj
          exact (List.getElem?_eq_some_iff.mp q).1
        have h1' : (backC ns c1.S c.S)[n]? = some x := h1
        rw [backC_in ns c1.S c.S j n B.L.nd hj hnl (by rw [← B.rel1.len]; omega)] at h1'
        obtain ⟨g, q⟩ := B.rel1.cellAt h1' (B.lentAt hj h2) h3
        refine ⟨?_, ?_⟩
        · show (if fz = true ∧ ∃ n, ns.length ≤ n ∧ c1.ρ[n]? = some a ∧ live c1.S n then H1 a else c1.G a) = none
          rw [if_neg nn2]
          exact g
        · rcases flat_at B.flat h1' with z | ⟨xs, z⟩
          · exact absurd z h3
          · subst z
            unfold RC at q ⊢
            obtain ⟨vs, q1, q2⟩ := q
            exact ⟨vs, q1, RTs.mono ext _ q2⟩
      · have h1' : (backC ns c1.S c.S)[n]? = some x := h1
        rw [backC_out _ _ _ _ hn] at h1'
        obtain ⟨k1, k2⟩ := B.other h2 l hn
        obtain ⟨g, q⟩ := B.rel.cellAt h1' h2 h3
        have ext2 : ∀ a o, c.G a = some o → (if fz = true ∧ ∃ n, ns.length ≤ n ∧ c1.ρ[n]? = some a ∧ live c1.S n then H1 a else c1.G a) = some o := fun a o h => ext a o (B.stp.ext a o h)
        refine ⟨?_, ?_⟩
        · show (if fz = true ∧ ∃ n, ns.length ≤ n ∧ c1.ρ[n]? = some a ∧ live c1.S n then H1 a else c1.G a) = none
          rw [if_neg nn2]
          exact k2
        · cases x with
          | gone => exact absurd rfl h3
          | lst xs =>
            unfold RC at q ⊢
            obtain ⟨vs, q1, q2⟩ := q
            exact ⟨vs, k1 _ q1, RTs.mono ext2 _ q2⟩
          | lsr ds =>
            unfold RC at q ⊢
            obtain ⟨vs, q1, q2⟩ := q
            exact ⟨vs, k1 _ q1, RDs.mono' (c := c) (c1 := ⟨_, c.ρ, backC ns c1.S c.S⟩) ext2 ⟨[], (List.append_nil _).symm⟩ _ q2⟩
          | dcr ks ds => unfold RC at q; exact q.elim
          | ins cl fs => unfold RC at q; exact q.elim
  · -- Stp
    refine ⟨fun a o h => ?_, fun a o h => ?_, ⟨[], (List.append_nil _).symm⟩, B.stp.dom, fun a o h hn => B.stp.frm a o h fun j hj _ => ?_, fun n a h1 h2 => ?_, fun n hn l => ?_⟩
    · show (if fz = true ∧ ∃ n, ns.length ≤ n ∧ c1.ρ[n]? = some a ∧ live c1.S n then H1 a else c1.G a) = some o
      by_cases q : fz = true ∧ ∃ n, ns.length ≤ n ∧ c1.ρ[n]? = some a ∧ live c1.S n
      · rw [if_pos q]
        exact B.rel1.sub a o (B.stp.ext a o h)
      · rw [if_neg q]
        exact B.stp.ext a o h
    · have h' : (if fz = true ∧ ∃ n, ns.length ≤ n ∧ c1.ρ[n]? = some a ∧ live c1.S n then H1 a else c1.G a) = some o := h
      by_cases q : fz = true ∧ ∃ n, ns.length ≤ n ∧ c1.ρ[n]? = some a ∧ live c1.S n
      · obtain ⟨_, k, k1, k2, _⟩ := q
        exact .inr (.inl (B.stp.fresh k a (by
          show (ns.map fun n => c.ρ.getD n 0).length ≤ k
          simpa using k1) k2))
      · rw [if_neg q] at h'
        rcases B.stp.new a o h' with z | z | ⟨j, z, _⟩
        · exact .inl z
        · exact .inr (.inl z)
        · obtain ⟨n, q1, q2, q3⟩ := lend_at B.rel B.L z
          exact .inr (.inr ⟨n, q2, q3⟩)
    · obtain ⟨n, q1, q2, q3⟩ := lend_at B.rel B.L hj
      exact hn n q2 q3
    · have := (List.getElem?_eq_some_iff.mp h2).1
      have h3 : n < c.ρ.length := this
      omega
    · obtain ⟨x, q1, q3⟩ := l
      have q1' : (backC ns c1.S c.S)[n]? = some x := q1
      by_cases hn : n ∈ ns
      · obtain ⟨j, hj⟩ := List.getElem?_of_mem hn
        obtain ⟨xs, q, _⟩ := B.L.get j n hj
        exact ⟨_, q, by intro z; cases z⟩
      · rw [backC_out _ _ _ _ hn] at q1'
        exact ⟨x, q1', q3⟩
  · intro a o h
    show (if fz = true ∧ ∃ n, ns.length ≤ n ∧ c1.ρ[n]? = some a ∧ live c1.S n then H1 a else c1.G a) = some o
    by_cases q : fz = true ∧ ∃ n, ns.length ≤ n ∧ c1.ρ[n]? = some a ∧ live c1.S n
    · rw [if_pos q]
      exact B.rel1.sub a o h
    · rw [if_neg q]
      exact h
  · intro hf n a vs h1 h2 h3 h4
    show (if fz = true ∧ ∃ n, ns.length ≤ n ∧ c1.ρ[n]? = some a ∧ live c1.S n then H1 a else c1.G a) = some (.lst vs)
    rw [if_pos ⟨hf, n, h1, h2, h3⟩]
    exact h4
end
end Kp
/-! Calls: what is handed back. -/
namespace Kp
open PySem L2
open Classical
section
variable {X : Cx} {K : PySem.W.Frag} {mg : Str → Option Value} {W : WX} {σ : L2.St} {c c1 c2 : Cfg} {H H1 : Hp} {d : D} {v : V} {Q : VK}
theorem frzL_ok {c1 c2 : Cfg} {f : D → Option T} (hf : ∀ d x v, f d = some x → RD K c1 d v → RT K c2.G x v) : ∀ (ds : List D) {xs : List T} {vs : List V}, allO (ds.map f) = some xs → RDs K c1 ds vs → RTs K c2.G xs vs
  | [], xs, vs, h, r => by
    cases allO_nil_inv h
    unfold RDs at r
    unfold RTs
    exact r
  | d :: ds, xs, vs, h, r => by
    obtain ⟨y, ys, e1, e2, rfl⟩ := allO_cons_inv h
    unfold RDs at r
    obtain ⟨v, w, rfl, h2, h3⟩ := r
    unfold RTs
    exact ⟨v, w, rfl, hf d y v e1 h2, frzL_ok hf ds e2 h3⟩
theorem frzf_ok (rel : Rel K c1 H1) {m : Nat} (ext : ∀ a o, c1.G a = some o → c2.G a = some o)
    (fz : ∀ (n : Nat) a vs, m ≤ n → c1.ρ[n]? = some a → live c1.S n → H1 a = some (.lst vs) → c2.G a = some (.lst vs)) : ∀ (k : Nat) (d : D) (x : T) (v : V), toTf k m c1.S d = some x → RD K c1 d v → RT K c2.G x v := by
  intro k
  induction k with
  | zero =>
    intro d x v h r
    rcases toTf_inv h with rfl | ⟨n, xs, rfl, hm, e, rfl⟩ | ⟨n, ds, xs, k', rfl, hm, e0, _⟩ | ⟨ds, xs, k', rfl, e0, _⟩
    · exact RT.mono ext _ r.t
    · unfold RD at r
      obtain ⟨a, rfl, h2⟩ := r
      obtain ⟨_, q⟩ := rel.cellAt e h2 (by intro z; cases z)
      unfold RC at q
      obtain ⟨vs, q1, q2⟩ := q
      unfold RT
      exact ⟨a, vs, rfl, fz n a vs hm h2 ⟨_, e, by intro z; cases z⟩ q1, RTs.mono ext _ q2⟩
    · cases e0
    · cases e0
  | succ k ih =>
    intro d x v h r
    rcases toTf_inv h with rfl | ⟨n, xs, rfl, hm, e, rfl⟩ | ⟨n, ds, xs, k', rfl, hm, e0, e, e2, rfl⟩ | ⟨ds, xs, k', rfl, e0, e2, rfl⟩
    · exact RT.mono ext _ r.t
    · unfold RD at r
      obtain ⟨a, rfl, h2⟩ := r
      obtain ⟨_, q⟩ := rel.cellAt e h2 (by intro z; cases z)
      unfold RC at q
      obtain ⟨vs, q1, q2⟩ := q
      unfold RT
      exact ⟨a, vs, rfl, fz n a vs hm h2 ⟨_, e, by intro z; cases z⟩ q1, RTs.mono ext _ q2⟩
    · cases e0
      unfold RD at r
      obtain ⟨a, rfl, h2⟩ := r
      obtain ⟨_, q⟩ := rel.cellAt e h2 (by intro z; cases z)
      unfold RC at q
      obtain ⟨vs, q1, q2⟩ := q
      unfold RT
      exact ⟨a, vs, rfl, fz n a vs hm h2 ⟨_, e, by intro z; cases z⟩ q1, frzL_ok ih ds e2 q2⟩
    · cases e0
      unfold RD at r
      obtain ⟨a, vs, rfl, h2, h3⟩ := r
      unfold RT
      exact ⟨a, vs, rfl, sqT_mono ext h2, frzL_ok ih ds e2 h3⟩
theorem frz_ok (rel : Rel K c1 H1) {m : Nat} (ext : ∀ a o, c1.G a = some o → c2.G a = some o)
    (fz : ∀ (n : Nat) a vs, m ≤ n → c1.ρ[n]? = some a → live c1.S n → H1 a = some (.lst vs) → c2.G a = some (.lst vs)) (d : D) {x : T} {v : V} (h : toT m c1.S d = some x) (r : RD K c1 d v) : RT K c2.G x v := frzf_ok rel ext fz 8 d x v h r
theorem frzs_ok (rel : Rel K c1 H1) {m : Nat} (ext : ∀ a o, c1.G a = some o → c2.G a = some o)
    (fz : ∀ (n : Nat) a vs, m ≤ n → c1.ρ[n]? = some a → live c1.S n → H1 a = some (.lst vs) → c2.G a = some (.lst vs)) (ds : List D) {xs : List T} {vs : List V} (h : toTs m c1.S ds = some xs) (r : RDs K c1 ds vs) : RTs K c2.G xs vs := frzL_ok (frzf_ok rel ext fz 8) ds h r
/-- behind the call: the callee's own cells are put behind the caller's -/
theorem Beh.adopt {ns : List Nat} {cs : List Cell} (B : Beh K c H ns cs c1 H1) :
    ∃ c2 : Cfg, c2.S = backC ns c1.S c.S ++ c1.S.drop ns.length ∧ Rel K c2 H1 ∧ Stp c H c2 H1 ∧ (∀ a o, c1.G a = some o → c2.G a = some o) ∧ ∀ (n : Nat) a, ns.length ≤ n → c1.ρ[n]? = some a → c2.ρ[c.S.length + (n - ns.length)]? = some a := by
  have m := B.m
  obtain ⟨c3, e3, r3, s3, x3, _⟩ := B.freeze false
  -- the store without the new cells is c3's; c3's frozen heap is the callee's
  have hb : (backC ns c1.S c.S).length = c.ρ.length := by rw [backC_len, B.rel.len]
  have l1 : c1.ρ.length = c1.S.length := B.rel1.len
  have lo : ∀ (n : Nat), n < c.ρ.length → (backC ns c1.S c.S ++ c1.S.drop ns.length)[n]? = (backC ns c1.S c.S)[n]? := fun n hn => List.getElem?_append_left (by rw [hb]; exact hn)
  have hi : ∀ (n : Nat), c.ρ.length ≤ n → (backC ns c1.S c.S ++ c1.S.drop ns.length)[n]? = c1.S[ns.length + (n - c.ρ.length)]? := fun n hn => by
    rw [List.getElem?_append_right (by rw [hb]; exact hn), hb, List.getElem?_drop]
  have lor : ∀ (n : Nat), n < c.ρ.length → (c.ρ ++ c1.ρ.drop ns.length)[n]? = c.ρ[n]? := fun n hn => List.getElem?_append_left hn
  have hir : ∀ (n : Nat), c.ρ.length ≤ n → (c.ρ ++ c1.ρ.drop ns.length)[n]? = c1.ρ[ns.length + (n - c.ρ.length)]? := fun n hn => by
    rw [List.getElem?_append_right hn, List.getElem?_drop]
  have lv : ∀ n, n < c.ρ.length → live (backC ns c1.S c.S ++ c1.S.drop ns.length) n → live c.S n := fun n hn ⟨x, q1, q3⟩ => by
    rw [lo n hn] at q1
    by_cases hm : n ∈ ns
    · obtain ⟨j, hj⟩ := List.getElem?_of_mem hm
      obtain ⟨xs, q, _⟩ := B.L.get j n hj
      exact ⟨_, q, by intro z; cases z⟩
    · rw [backC_out _ _ _ _ hm] at q1
      exact ⟨x, q1, q3⟩
  have fresh : ∀ (k : Nat) a, ns.length ≤ k → c1.ρ[k]? = some a → H a = none := fun k a k1 k2 => B.stp.fresh k a (by
    show (ns.map fun n => c.ρ.getD n 0).length ≤ k
    simpa using k1) k2
  refine ⟨⟨c1.G, c.ρ ++ c1.ρ.drop ns.length, backC ns c1.S c.S ++ c1.S.drop ns.length⟩, rfl, ?_, ?_, fun _ _ h => h, fun n a h1 h2 => ?_⟩
  · refine ⟨B.rel1.sub, ?_, fun n x a h1 h2 h3 => ?_, fun n k a h1 h2 l1' l2' => ?_⟩
    · show (c.ρ ++ c1.ρ.drop ns.length).length = (backC ns c1.S c.S ++ c1.S.drop ns.length).length
      rw [List.length_append, List.length_append, hb, List.length_drop, List.length_drop, l1]
    · have h1 : (backC ns c1.S c.S ++ c1.S.drop ns.length)[n]? = some x := h1
      have h2 : (c.ρ ++ c1.ρ.drop ns.length)[n]? = some a := h2
      by_cases hn : n < c.ρ.length
      · rw [lo n hn] at h1
        rw [lor n hn] at h2
        have l : live c.S n := lv n hn ⟨x, by rw [lo n hn]; exact h1, h3⟩
        by_cases hm : n ∈ ns
        · obtain ⟨j, hj⟩ := List.getElem?_of_mem hm
          have hjl : j < ns.length := (List.getElem?_eq_some_iff.mp hj).1
          rw [backC_in ns c1.S c.S j n B.L.nd hj (by rw [← B.rel.len]; exact hn) (by omega)] at h1
          obtain ⟨g, q⟩ := B.rel1.cellAt h1 (B.lentAt hj h2) h3
          refine ⟨g, ?_⟩
          rcases flat_at B.flat h1 with z | ⟨xs, z⟩
          · exact absurd z h3
          · subst z
            unfold RC at q ⊢
            exact q
        · rw [backC_out _ _ _ _ hm] at h1
          obtain ⟨k1, k2⟩ := B.other h2 l hm
          obtain ⟨g, q⟩ := B.rel.cellAt h1 h2 h3
          refine ⟨k2, ?_⟩
          cases x with
          | gone => exact absurd rfl h3
          | lst xs =>
            unfold RC at q ⊢
            obtain ⟨vs, q1, q2⟩ := q
            exact ⟨vs, k1 _ q1, RTs.mono B.stp.ext _ q2⟩
          | lsr ds =>
            unfold RC at q ⊢
            obtain ⟨vs, q1, q2⟩ := q
            exact ⟨vs, k1 _ q1, RDs.mono' (c := c) (c1 := ⟨c1.G, c.ρ ++ c1.ρ.drop ns.length, backC ns c1.S c.S ++ c1.S.drop ns.length⟩) B.stp.ext ⟨c1.ρ.drop ns.length, rfl⟩ _ q2⟩
          | dcr ks ds => unfold RC at q; exact q.elim
          | ins cl fs => unfold RC at q; exact q.elim
      · rw [hi n (by omega)] at h1
        rw [hir n (by omega)] at h2
        obtain ⟨g, q⟩ := B.rel1.cellAt h1 h2 h3
        refine ⟨g, ?_⟩
        rcases flat_at B.flat h1 with z | ⟨xs, z⟩
        · exact absurd z h3
        · subst z
          unfold RC at q ⊢
          exact q
    · have h1 : (c.ρ ++ c1.ρ.drop ns.length)[n]? = some a := h1
      have h2 : (c.ρ ++ c1.ρ.drop ns.length)[k]? = some a := h2
      by_cases hn : n < c.ρ.length
      · by_cases hk : k < c.ρ.length
        · rw [lor n hn] at h1
          rw [lor k hk] at h2
          exact B.rel.inj n k a h1 h2 (lv n hn l1') (lv k hk l2')
        · exfalso
          rw [lor n hn] at h1
          rw [hir k (by omega)] at h2
          obtain ⟨u, hu⟩ := B.rel.known h1 (lv n hn l1')
          rw [fresh _ a (by omega) h2] at hu
          cases hu
      · by_cases hk : k < c.ρ.length
        · exfalso
          rw [lor k hk] at h2
          rw [hir n (by omega)] at h1
          obtain ⟨u, hu⟩ := B.rel.known h2 (lv k hk l2')
          rw [fresh _ a (by omega) h1] at hu
          cases hu
        · rw [hir n (by omega)] at h1
          rw [hir k (by omega)] at h2
          obtain ⟨x, x1, x2⟩ := l1'
          obtain ⟨y, y1, y2⟩ := l2'
          have x1 : (backC ns c1.S c.S ++ c1.S.drop ns.length)[n]? = some x := x1
          have y1 : (backC ns c1.S c.S ++ c1.S.drop ns.length)[k]? = some y := y1
          rw [hi n (by omega)] at x1
          rw [hi k (by omega)] at y1
          have e := B.rel1.inj _ _ a h1 h2 ⟨x, x1, x2⟩ ⟨y, y1, y2⟩
          omega
  · refine ⟨B.stp.ext, fun a o h => ?_, ⟨_, rfl⟩, B.stp.dom, fun a o h hn => B.stp.frm a o h fun j hj _ => ?_, fun n a h1 h2 => ?_, fun n hn l => lv n hn l⟩
    · rcases B.stp.new a o h with z | z | ⟨j, z, _⟩
      · exact .inl z
      · exact .inr (.inl z)
      · obtain ⟨n, q1, q2, q3⟩ := lend_at B.rel B.L z
        exact .inr (.inr ⟨n, q2, q3⟩)
    · obtain ⟨n, q1, q2, q3⟩ := lend_at B.rel B.L hj
      exact hn n q2 q3
    · have h2 : (c.ρ ++ c1.ρ.drop ns.length)[n]? = some a := h2
      rw [hir n h1] at h2
      exact fresh _ a (by omega) h2
  · show (c.ρ ++ c1.ρ.drop ns.length)[c.S.length + (n - ns.length)]? = some a
    rw [hir _ (by rw [B.rel.len]; omega), B.rel.len]
    rw [show ns.length + (c.S.length + (n - ns.length) - c.S.length) = n by omega]
    exact h2
mutual
theorem ado_ok {m n : Nat} (ext : ∀ a o, c1.G a = some o → c2.G a = some o) (ad : ∀ (k : Nat) a, m ≤ k → c1.ρ[k]? = some a → c2.ρ[n + (k - m)]? = some a) : ∀ (d : D) {x : D} {v : V}, ado m n d = some x → RD K c1 d v → RD K c2 x v
  | .t x, y, v, h, r => by
    unfold ado at h
    cases h
    unfold RD at r ⊢
    exact RT.mono ext _ r
  | .ref j, y, v, h, r => by
    unfold ado at h
    split at h
    · rename_i hm
      cases h
      unfold RD at r ⊢
      obtain ⟨a, rfl, h2⟩ := r
      exact ⟨a, rfl, ad j a hm h2⟩
    · cases h
  | .tp ds, y, v, h, r => by
    unfold ado at h
    split at h
    · rename_i xs e
      cases h
      unfold RD at r ⊢
      obtain ⟨a, vs, rfl, h2, h3⟩ := r
      exact ⟨a, vs, rfl, sqT_mono ext h2, ados_ok ext ad ds e h3⟩
    · cases h
  | .exc _ _, _, _, h, r => by
    unfold ado at h
    cases h
    unfold RD at r ⊢
    exact r.mono ext
theorem ados_ok {m n : Nat} (ext : ∀ a o, c1.G a = some o → c2.G a = some o) (ad : ∀ (k : Nat) a, m ≤ k → c1.ρ[k]? = some a → c2.ρ[n + (k - m)]? = some a) : ∀ (ds : List D) {xs : List D} {vs : List V}, ados m n ds = some xs → RDs K c1 ds vs → RDs K c2 xs vs
  | [], xs, vs, h, r => by
    unfold ados at h
    cases h
    unfold RDs at r ⊢
    exact r
  | d :: ds, xs, vs, h, r => by
    unfold ados at h
    split at h
    · rename_i x e
      split at h
      · rename_i ys e2
        cases h
        unfold RDs at r ⊢
        obtain ⟨v, w, rfl, h2, h3⟩ := r
        exact ⟨v, w, rfl, ado_ok ext ad d e h2, ados_ok ext ad ds e2 h3⟩
      · cases h
    · cases h
end
/-- a def's promise: its run in the little language -/
def spR (K : PySem.W.Frag) (mg : Str → Option Value) (Φ : Kp.Or) (f : String) : Sp := fun vs H Q E =>
  ∃ ds c, Rel K c H ∧ RDs K c ds vs ∧ PR K mg (fun cl dd _ H' => E cl dd H') [] (rD K) c H (Φ f ds c.S) Q
theorem ExcAt.mono {dd : Option Addr} {fs : List (String × T)} (h : ExcAt K c1 H1 dd fs) (ext : ∀ a o, c1.G a = some o → c2.G a = some o) : ExcAt K c2 H1 dd fs := by
  exact ExcG.mono ext h
/-- what is looked at alone: the caller's cells stay as they are -/
noncomputable def frzG (c : Cfg) (H : Hp) : Hp := fun a => if ∃ n : Nat, c.ρ[n]? = some a ∧ live c.S n then H a else c.G a
theorem frz_ext (rel : Rel K c H) : ∀ a o, c.G a = some o → frzG c H a = some o := fun a o h => by
  show (if ∃ n : Nat, c.ρ[n]? = some a ∧ live c.S n then H a else c.G a) = some o
  split
  · exact rel.sub a o h
  · exact h
theorem frz_live {n : Nat} {a : Addr} {o : HO} (h1 : c.ρ[n]? = some a) (h2 : live c.S n) (h : H a = some o) : frzG c H a = some o := by
  show (if ∃ n : Nat, c.ρ[n]? = some a ∧ live c.S n then H a else c.G a) = some o
  rw [if_pos ⟨n, h1, h2⟩]
  exact h
theorem frz_rel (rel : Rel K c H) : Rel K ⟨frzG c H, [], []⟩ H := by
  refine ⟨fun a o h => ?_, rfl, fun n x a h => ?_, fun n m a h => ?_⟩
  · have h' : (if ∃ n : Nat, c.ρ[n]? = some a ∧ live c.S n then H a else c.G a) = some o := h
    split at h'
    · exact h'
    · exact rel.sub a o h'
  · simp at h
  · simp at h
theorem Rel.still (rel : Rel K c H) (r1 : Rel K c1 H1) (s : Stp ⟨frzG c H, [], []⟩ H c1 H1) : Rel K c H1 ∧ Stp c H c H1 := by
  have go : ∀ a o, frzG c H a = some o → H1 a = some o := fun a o h => r1.sub a o (s.ext a o h)
  refine ⟨⟨fun a o h => go a o (frz_ext rel a o h), rel.len, fun n x a h1 h2 h3 => ?_, rel.inj⟩, ⟨fun _ _ h => h, fun _ _ h => .inl h, ⟨[], (List.append_nil _).symm⟩, s.dom, fun a o h _ => s.frm a o h fun n h => by simp at h, fun n a h1 h2 => ?_, fun _ _ h => h⟩⟩
  · obtain ⟨g, q⟩ := rel.cellAt h1 h2 h3
    refine ⟨g, ?_⟩
    have lv : live c.S n := ⟨x, h1, h3⟩
    cases x with
    | gone => exact absurd rfl h3
    | lst xs =>
      unfold RC at q ⊢
      obtain ⟨vs, q1, q2⟩ := q
      exact ⟨vs, go _ _ (frz_live h2 lv q1), q2⟩
    | lsr ds =>
      unfold RC at q ⊢
      obtain ⟨vs, q1, q2⟩ := q
      exact ⟨vs, go _ _ (frz_live h2 lv q1), q2⟩
    | dcr ks ds => unfold RC at q; exact q.elim
    | ins cl fs => unfold RC at q; exact q.elim
  · have := (List.getElem?_eq_some_iff.mp h2).1
    omega
theorem flat_RT {G G' : Hp} {x : T} {v : V} (h : flatT x = true) (r : RT K G x v) : RT K G' x v := by
  cases x with
  | non => unfold RT at r ⊢; exact r
  | bl b => unfold RT at r ⊢; exact r
  | int i => unfold RT at r ⊢; exact r
  | str s => unfold RT at r ⊢; exact r
  | tup xs => cases h
  | lst xs => cases h
  | dct ks xs => cases h
  | scr ns => cases h
theorem lookup_in {fs : List (String × T)} {f : String} {x : T} (h : fs.lookup f = some x) : ∃ p ∈ fs, p.2 = x := by
  induction fs with
  | nil => simp at h
  | cons p r ih =>
    obtain ⟨a, b⟩ := p
    rw [List.lookup_cons] at h
    split at h
    · cases h
      exact ⟨_, List.mem_cons_self, rfl⟩
    · obtain ⟨p, h1, h2⟩ := ih h
      exact ⟨p, List.mem_cons_of_mem _ h1, h2⟩
theorem isoFrz_ok {Φ : Kp.Or} {f : String} {ds : List D} {vs : List V} (rel : Rel K c H) (rds : RDs K c ds vs) (h : PR K mg W σ (rD K) c H (isoFrz Φ f ds c.S) Q) : spR K mg Φ f vs H Q (WE W σ) := by
  unfold isoFrz at h
  split at h
  · exact h.elim
  · rename_i xs e1
    refine ⟨xs.map .t, ⟨frzG c H, [], []⟩, frz_rel rel, RTs_RDs (frzs_ok (c2 := ⟨frzG c H, [], []⟩) rel (frz_ext rel) (fun n a vs _ h1 h2 h3 => frz_live h1 h2 h3) ds e1 rds), ?_⟩
    show PR K mg _ [] (rD K) ⟨frzG c H, [], []⟩ H (Φ f (xs.map .t) []) Q
    split at h
    · rename_i x S1 e2
      split at h
      · rename_i hf
        rw [e2]
        intro v c1 H1 es r1 s1 rd
        obtain ⟨r2, s2⟩ := rel.still r1 s1
        refine h v c H1 rfl r2 s2 ?_
        show RD K c _ _
        unfold RD
        exact flat_RT hf rd.t
      · exact h.elim
    · exact h.elim
    · rename_i cl fs S1 e2
      split at h
      · rename_i hf
        rw [e2]
        intro ca dd c1 H1 es r1 s1 hm ex
        obtain ⟨r2, s2⟩ := rel.still r1 s1
        refine h ca dd c H1 rfl r2 s2 hm ?_
        rcases ex with ex | ⟨h0, _⟩
        · exact .inl ex
        · exact absurd (by simpa using hf) h0
      · exact h.elim
    · exact h.elim
theorem lend_ok {Φ : Kp.Or} {f : String} {ds : List D} {vs : List V} {ad : Bool} (rel : Rel K c H) (rds : RDs K c ds vs) (h : PR K mg W σ (rD K) c H (isoLend Φ f ds ad c.S) Q) : spR K mg Φ f vs H Q (WE W σ) := by
  unfold isoLend at h
  split at h
  · exact h.elim
  · rename_i as ns e1
    split at h
    · rename_i nd
      split at h
      · exact h.elim
      · rename_i cs e2
        have L : Lent c ns cs := by
          obtain ⟨l1, l2⟩ := lentC_get e2
          exact ⟨nd, l1, l2⟩
        refine ⟨as, lend c ns cs, lend_rel rel L, lend_RDs e1 (fun j n hj => by rw [Nat.zero_add]; exact hj) rds, ?_⟩
        show PR K mg _ [] (rD K) (lend c ns cs) H (Φ f as cs) Q
        split at h
        · rename_i d S1 e3
          rw [e3]
          intro v c1 H1 es r1 s1 rd
          subst es
          split at h
          · rename_i hf
            have B : Beh K c H ns cs c1 H1 := ⟨rel, L, r1, s1, hf⟩
            split at h
            · rename_i hadt
              split at h
              · rename_i x hx
                obtain ⟨c2, q1, q2, q3, q4, q5⟩ := B.adopt
                exact h v c2 H1 q1 q2 q3 (ado_ok q4 q5 d hx rd)
              · exact h.elim
            · rename_i hadt
              split at h
              · rename_i x hx
                obtain ⟨c2, q1, q2, q3, q4, q5⟩ := B.freeze true
                refine h v c2 H1 q1 q2 q3 ?_
                show RD K c2 _ _
                unfold RD
                exact frz_ok r1 q4 (q5 rfl) d hx rd
              · exact h.elim
          · exact h.elim
        · rename_i cl fs S1 e3
          rw [e3]
          intro ca dd c1 H1 es r1 s1 hm ex
          subst es
          split at h
          · rename_i hf
            have B : Beh K c H ns cs c1 H1 := ⟨rel, L, r1, s1, hf⟩
            obtain ⟨c2, q1, q2, q3, q4, q5⟩ := B.freeze false
            exact h ca dd c2 H1 q1 q2 q3 hm (ex.mono q4)
          · exact h.elim
        · exact h.elim
    · exact h.elim
theorem call_ok {Φ : Kp.Or} {f : String} {ds : List D} {vs : List V} {m : CM} (rel : Rel K c H) (rds : RDs K c ds vs) (h : PR K mg W σ (rD K) c H (isoCall Φ f ds m c.S) Q) : spR K mg Φ f vs H Q (WE W σ) := by
  unfold isoCall at h
  split at h
  · exact lend_ok rel rds h
  · exact lend_ok rel rds h
  · split at h
    · exact lend_ok rel rds h
    · exact isoFrz_ok rel rds h
  · refine ⟨ds, c, rel, rds, ?_⟩
    generalize Φ f ds c.S = r at h ⊢
    cases r with
    | stuck => exact h
    | ok a S' => exact h
    | exc cl fs S' => exact h
end
end Kp
/-! Each form: what its parts say is said of it. -/
namespace Kp
open PySem L2
theorem R.bind_assoc {α β γ : Type} (r : R α) (f : α → Sto → R β) (g : β → Sto → R γ) : (r.bind f).bind g = r.bind fun a S => (f a S).bind g := by
  cases r <;> rfl
theorem RTs.rev {K : PySem.W.Frag} {G : Hp} : ∀ {xs : List T} {vs : List V}, RTs K G xs vs → RTs K G xs.reverse vs.reverse
  | [], vs, h => by
    unfold RTs at h
    subst h
    exact RTs.nil
  | x :: xs, vs, h => by
    unfold RTs at h
    obtain ⟨v, w, rfl, h2, h3⟩ := h
    rw [List.reverse_cons, List.reverse_cons]
    exact RTs.app (RTs.rev h3) (RTs.one h2)
section
variable (K : PySem.W.Frag) (mg : Str → Option Value) (Φ : Kp.Or) (W : WX)
/-- an expression's reading, its list kept one way or the other -/
def tF (b : Bool) (e : E) : TE := fun σ H Q => ∃ env c, Rel K c H ∧ EnvR K c σ env ∧ PR K mg W σ (rD K) c H ((evE Φ e env c.S).bind (fin b)) Q
end
theorem tF_false {K : PySem.W.Frag} {mg : Str → Option Value} {Φ : Kp.Or} {W : WX} {e : E} : tF K mg Φ W false e = tE K mg Φ W e := by
  unfold tF tE
  simp only [R.bind_fin]
theorem tF_true {K : PySem.W.Frag} {mg : Str → Option Value} {Φ : Kp.Or} {W : WX} {e : E} : tF K mg Φ W true e = tE K mg Φ W (.alloc e) := by
  unfold tF tE
  simp only [evE]
section
variable {X : Cx} {Φ : Kp.Or} {W : WX} {a b d : PySem.Expr} {a' b' d' : E} {pos : Pos}
theorem s_var {i : Nat} {x : Str} (hN : X.N[i]? = some x) (hv : Vis X.env.scope x) (h1 : (x == ("__debug__" : Str)) = false) (h2 : (x == ("__classdict__" : Str)) = false) : PE X (.Name x pos) (tE X.K X.mg Φ W (.var i)) := by
  refine impPE (pe_var hN hv h1 h2) fun σ H Q q => ?_
  obtain ⟨env, c, rel, er, h⟩ := q
  unfold evE at h
  split at h
  · rename_i z e
    obtain ⟨v, q1, q2⟩ := er.get i z e
    exact ⟨v, q1, h.now rel q2⟩
  · exact h.elim
theorem s_k {t : TE} {x : T} {v : V} (h : PE X a t) (ht : ∀ σ H (Q : VK), Q v H → t σ H Q) (hv : ∀ G, RT X.K G x v) : PE X a (tE X.K X.mg Φ W (.k x)) := by
  refine impPE h fun σ H Q q => ?_
  obtain ⟨env, c, rel, er, h⟩ := q
  unfold evE at h
  refine ht σ H Q (h.now rel ?_)
  show RD X.K c _ _
  unfold RD
  exact hv _
theorem s_bin {o : Operator} {o' : BinO} {bb : Bool} (ho : cBin o = some o') (ha : PE X a (tE X.K X.mg Φ W a')) (hb : PE X b (tE X.K X.mg Φ W b')) : PE X (.BinOp a o b pos) (tF X.K X.mg Φ W bb (.bin o' a' b')) := by
  refine impPE (pe_op (op_bin ho) ha hb) fun σ H Q q => ?_
  obtain ⟨env, c, rel, er, h⟩ := q
  simp only [evE, R.bind_assoc] at h
  refine ⟨env, c, rel, er, PR.mono (PR.bind (RA := rD X.K) h) fun v H1 ⟨c1, x, rel1, s1, r1, h1⟩ => ?_⟩
  refine ⟨env, c1, rel1, er.mono s1, PR.mono (PR.bind (RA := rD X.K) h1) fun u H2 ⟨c2, y, rel2, s2, r2, h2⟩ => ?_⟩
  exact bin_ok rel2 (r1.mono s2) r2 h2
theorem mark_no {op : CmpOp} (h : isSet b = false) : behindInMarks op b = false := by
  cases b <;> first | rfl | cases h
theorem s_cmp {o : CmpOp} {o' : CmpO} {k : Nat} (hr : Room k X.A) (ho : cCmp2 o b = some o') (hm : isSet b = false) (ha : PE X a (tE X.K X.mg Φ W a')) (hb : PE X b (tE X.K X.mg Φ W b')) : PE X (.Compare a [o] [b] pos) (tE X.K X.mg Φ W (.cmp o' a' b')) := by
  refine impPE (pe_cmpR (op_cmp2 hr ho) ha hb (mark_no hm)) fun σ H Q q => ?_
  obtain ⟨env, c, rel, er, h⟩ := q
  simp only [evE] at h
  refine ⟨env, c, rel, er, PR.mono (PR.bind (RA := rD X.K) h) fun v H1 ⟨c1, x, rel1, s1, r1, h1⟩ => ?_⟩
  refine ⟨env, c1, rel1, er.mono s1, PR.mono (PR.bind (RA := rD X.K) h1) fun u H2 ⟨c2, y, rel2, s2, r2, h2⟩ => ?_⟩
  cases e : cmpV o' x y c2.S with
  | none => rw [e] at h2; exact h2.elim
  | some r =>
    rw [e] at h2
    exact cmp_ok rel2 (r1.mono s2) r2 e (PR.now h2 rel2 (RD.mkBl r))
theorem p_cmp {o : CmpOp} {o' : CmpO} {k : Nat} (hr : Room k X.A) (ho : cCmp2 o b = some o') (hm : isSet b = false) (ha : PE X a (tE X.K X.mg Φ W a')) (hb : PE X b (tE X.K X.mg Φ W b')) : PT X (.Compare a [o] [b] pos) (tT X.K X.mg Φ W (.cmp o' a' b')) := by
  refine impPT (pt_cmpR (op_cmp2 hr ho) ha hb (mark_no hm)) fun σ H Q q => ?_
  obtain ⟨env, c, rel, er, h⟩ := q
  simp only [evT] at h
  refine ⟨env, c, rel, er, PR.mono (PR.bind (RA := rD X.K) h) fun v H1 ⟨c1, x, rel1, s1, r1, h1⟩ => ?_⟩
  refine ⟨env, c1, rel1, er.mono s1, PR.mono (PR.bind (RA := rD X.K) h1) fun u H2 ⟨c2, y, rel2, s2, r2, h2⟩ => ?_⟩
  cases e : cmpV o' x y c2.S with
  | none => rw [e] at h2; exact h2.elim
  | some r =>
    rw [e] at h2
    exact cmp_ok rel2 (r1.mono s2) r2 e ⟨r, rfl, PR.now h2 rel2 rfl⟩
theorem marks_no {o p : CmpOp} (h : isSet d = false) : lastMarks [o, p] [b, d] = false := by
  show behindInMarks p d = false
  exact mark_no h
theorem s_chn {o p : CmpOp} {o' p' : CmpO} {k : Nat} (hr : Room k X.A) (ho : cCmp o = some o') (hp : cCmp p = some p') (hm : isSet d = false) (ha : PE X a (tE X.K X.mg Φ W a')) (hb : PE X b (tE X.K X.mg Φ W b')) (hd : PE X d (tE X.K X.mg Φ W d')) :
    PE X (.Compare a [o, p] [b, d] pos) (tE X.K X.mg Φ W (.chn o' p' a' b' d')) := by
  refine impPE (pe_chain (op_cmp hr ho) (op_cmp hr hp) ha hb hd (marks_no hm)) fun σ H Q q => ?_
  obtain ⟨env, c, rel, er, h⟩ := q
  simp only [evE] at h
  refine ⟨env, c, rel, er, PR.mono (PR.bind (RA := rD X.K) h) fun v H1 ⟨c1, x, rel1, s1, r1, h1⟩ => ?_⟩
  refine ⟨env, c1, rel1, er.mono s1, PR.mono (PR.bind (RA := rD X.K) h1) fun u H2 ⟨c2, y, rel2, s2, r2, h2⟩ => ?_⟩
  cases e : cmpV o' x y c2.S with
  | none => rw [e] at h2; exact h2.elim
  | some r =>
    rw [e] at h2
    simp only [opt_some, R.bind_ok] at h2
    refine cmp_ok rel2 (r1.mono s2) r2 e ⟨r, rfl, ?_⟩
    cases r with
    | false =>
      rw [if_neg Bool.false_ne_true] at h2 ⊢
      exact PR.now h2 rel2 (RD.mkBl false)
    | true =>
      rw [if_pos rfl] at h2 ⊢
      refine ⟨env, c2, rel2, (er.mono s1).mono s2, PR.mono (PR.bind (RA := rD X.K) h2) fun w H3 ⟨c3, z, rel3, s3, r3, h3⟩ => ?_⟩
      cases e2 : cmpV p' y z c3.S with
      | none => rw [e2] at h3; exact h3.elim
      | some r' =>
        rw [e2] at h3
        exact cmp_ok rel3 (r2.mono s3) r3 e2 (PR.now h3 rel3 (RD.mkBl r'))
theorem p_chn {o p : CmpOp} {o' p' : CmpO} {k : Nat} (hr : Room k X.A) (ho : cCmp o = some o') (hp : cCmp p = some p') (hm : isSet d = false) (ha : PE X a (tE X.K X.mg Φ W a')) (hb : PE X b (tE X.K X.mg Φ W b')) (hd : PE X d (tE X.K X.mg Φ W d')) :
    PT X (.Compare a [o, p] [b, d] pos) (tT X.K X.mg Φ W (.chn o' p' a' b' d')) := by
  refine impPT (pt_chain (op_cmp hr ho) (op_cmp hr hp) ha hb hd (marks_no hm)) fun σ H Q q => ?_
  obtain ⟨env, c, rel, er, h⟩ := q
  simp only [evT] at h
  refine ⟨env, c, rel, er, PR.mono (PR.bind (RA := rD X.K) h) fun v H1 ⟨c1, x, rel1, s1, r1, h1⟩ => ?_⟩
  refine ⟨env, c1, rel1, er.mono s1, PR.mono (PR.bind (RA := rD X.K) h1) fun u H2 ⟨c2, y, rel2, s2, r2, h2⟩ => ?_⟩
  cases e : cmpV o' x y c2.S with
  | none => rw [e] at h2; exact h2.elim
  | some r =>
    rw [e] at h2
    simp only [opt_some, R.bind_ok] at h2
    refine cmp_ok rel2 (r1.mono s2) r2 e ⟨r, rfl, ?_⟩
    cases r with
    | false =>
      rw [if_neg Bool.false_ne_true] at h2 ⊢
      exact ⟨false, rfl, PR.now h2 rel2 rfl⟩
    | true =>
      rw [if_pos rfl] at h2 ⊢
      refine ⟨env, c2, rel2, (er.mono s1).mono s2, PR.mono (PR.bind (RA := rD X.K) h2) fun w H3 ⟨c3, z, rel3, s3, r3, h3⟩ => ?_⟩
      cases e2 : cmpV p' y z c3.S with
      | none => rw [e2] at h3; exact h3.elim
      | some r' =>
        rw [e2] at h3
        exact cmp_ok rel3 (r2.mono s3) r3 e2 ⟨r', rfl, PR.now h3 rel3 rfl⟩
theorem s_neg (ha : PE X a (tE X.K X.mg Φ W a')) : PE X (.UnaryOp .USub a pos) (tE X.K X.mg Φ W (.neg a')) := by
  refine impPE (pe_un un_neg ha) fun σ H Q q => ?_
  obtain ⟨env, c, rel, er, h⟩ := q
  simp only [evE] at h
  refine ⟨env, c, rel, er, PR.mono (PR.bind (RA := rD X.K) h) fun v H1 ⟨c1, x, rel1, s1, r1, h1⟩ => ?_⟩
  split at h1
  · rename_i i hi
    exact ⟨i, r1.int hi, PR.now h1 rel1 (RD.mkInt _)⟩
  · exact h1.elim
theorem p_not (ha : PT X a (tT X.K X.mg Φ W a')) : PT X (.UnaryOp .Not a pos) (tT X.K X.mg Φ W (.nott a')) := by
  refine impPT (pt_not ha) fun σ H Q q => ?_
  obtain ⟨env, c, rel, er, h⟩ := q
  simp only [evT] at h
  refine ⟨env, c, rel, er, PR.mono (PR.bind (RA := rB) h) fun v H1 ⟨c1, x, rel1, s1, r1, h1⟩ => ?_⟩
  have r1 : x = v := r1
  subst r1
  exact PR.now h1 rel1 rfl
theorem s_not (ha : PE X a (tE X.K X.mg Φ W a')) : PE X (.UnaryOp .Not a pos) (tE X.K X.mg Φ W (.nott a')) := by
  refine impPE (pe_notT ha) fun σ H Q q => ?_
  obtain ⟨env, c, rel, er, h⟩ := q
  simp only [evE] at h
  refine ⟨env, c, rel, er, PR.mono (PR.bind (RA := rD X.K) h) fun v H1 ⟨c1, x, rel1, s1, r1, h1⟩ => ?_⟩
  cases e : truth c1.S x with
  | none => rw [e] at h1; exact h1.elim
  | some r =>
    rw [e] at h1
    exact ⟨r, truth_ok rel1 r1 e, PR.now h1 rel1 (RD.mkBl _)⟩
/-- and, or, as values -/
theorem s_and {r : List PySem.Expr} {pos2 : Pos} (ha : PE X a (tE X.K X.mg Φ W a')) (hb : PE X (.BoolOp .And (b :: r) pos) (tE X.K X.mg Φ W b')) : PE X (.BoolOp .And (a :: b :: r) pos) (tE X.K X.mg Φ W (.and a' b')) := by
  refine impPE (pe_andT ha hb) fun σ H Q q => ?_
  obtain ⟨env, c, rel, er, h⟩ := q
  simp only [evE] at h
  refine ⟨env, c, rel, er, PR.mono (PR.bind (RA := rD X.K) h) fun v H1 ⟨c1, x, rel1, s1, r1, h1⟩ => ?_⟩
  cases e : truth c1.S x with
  | none => rw [e] at h1; exact h1.elim
  | some k =>
    rw [e] at h1
    simp only [opt_some, R.bind_ok] at h1
    refine ⟨k, truth_ok rel1 r1 e, ?_⟩
    cases k with
    | true =>
      rw [if_pos rfl] at h1 ⊢
      exact ⟨env, c1, rel1, er.mono s1, h1⟩
    | false =>
      rw [if_neg Bool.false_ne_true] at h1 ⊢
      exact PR.now h1 rel1 r1
theorem s_or {r : List PySem.Expr} {pos2 : Pos} (ha : PE X a (tE X.K X.mg Φ W a')) (hb : PE X (.BoolOp .Or (b :: r) pos) (tE X.K X.mg Φ W b')) : PE X (.BoolOp .Or (a :: b :: r) pos) (tE X.K X.mg Φ W (.or a' b')) := by
  refine impPE (pe_orT ha hb) fun σ H Q q => ?_
  obtain ⟨env, c, rel, er, h⟩ := q
  simp only [evE] at h
  refine ⟨env, c, rel, er, PR.mono (PR.bind (RA := rD X.K) h) fun v H1 ⟨c1, x, rel1, s1, r1, h1⟩ => ?_⟩
  cases e : truth c1.S x with
  | none => rw [e] at h1; exact h1.elim
  | some k =>
    rw [e] at h1
    simp only [opt_some, R.bind_ok] at h1
    refine ⟨k, truth_ok rel1 r1 e, ?_⟩
    cases k with
    | true =>
      rw [if_pos rfl] at h1 ⊢
      exact PR.now h1 rel1 r1
    | false =>
      rw [if_neg Bool.false_ne_true] at h1 ⊢
      exact ⟨env, c1, rel1, er.mono s1, h1⟩
theorem p_and {r : List PySem.Expr} (ha : PT X a (tT X.K X.mg Φ W a')) (hb : PW X (.BoolOp .And (b :: r) pos) (tT X.K X.mg Φ W b')) : PW X (.BoolOp .And (a :: b :: r) pos) (tT X.K X.mg Φ W (.and a' b')) := by
  refine impPW (pw_and ha hb) fun σ H Q q => ?_
  obtain ⟨env, c, rel, er, h⟩ := q
  simp only [evT] at h
  refine ⟨env, c, rel, er, PR.mono (PR.bind (RA := rB) h) fun v H1 ⟨c1, x, rel1, s1, r1, h1⟩ => ?_⟩
  have r1 : x = v := r1
  subst r1
  cases x with
  | true =>
    rw [if_pos rfl] at h1 ⊢
    exact ⟨env, c1, rel1, er.mono s1, h1⟩
  | false =>
    rw [if_neg Bool.false_ne_true] at h1 ⊢
    exact PR.now h1 rel1 rfl
theorem p_or {r : List PySem.Expr} (ha : PT X a (tT X.K X.mg Φ W a')) (hb : PW X (.BoolOp .Or (b :: r) pos) (tT X.K X.mg Φ W b')) : PW X (.BoolOp .Or (a :: b :: r) pos) (tT X.K X.mg Φ W (.or a' b')) := by
  refine impPW (pw_or ha hb) fun σ H Q q => ?_
  obtain ⟨env, c, rel, er, h⟩ := q
  simp only [evT] at h
  refine ⟨env, c, rel, er, PR.mono (PR.bind (RA := rB) h) fun v H1 ⟨c1, x, rel1, s1, r1, h1⟩ => ?_⟩
  have r1 : x = v := r1
  subst r1
  cases x with
  | true =>
    rw [if_pos rfl] at h1 ⊢
    exact PR.now h1 rel1 rfl
  | false =>
    rw [if_neg Bool.false_ne_true] at h1 ⊢
    exact ⟨env, c1, rel1, er.mono s1, h1⟩
theorem s_ite (hd : PT X d (tT X.K X.mg Φ W d')) (ha : PE X a (tE X.K X.mg Φ W a')) (hb : PE X b (tE X.K X.mg Φ W b')) : PE X (.IfExp d a b pos) (tE X.K X.mg Φ W (.ite d' a' b')) := by
  refine impPE (pe_ifExp hd ha hb) fun σ H Q q => ?_
  obtain ⟨env, c, rel, er, h⟩ := q
  simp only [evE] at h
  refine ⟨env, c, rel, er, PR.mono (PR.bind (RA := rB) h) fun v H1 ⟨c1, x, rel1, s1, r1, h1⟩ => ?_⟩
  have r1 : x = v := r1
  subst r1
  cases x with
  | true =>
    rw [if_pos rfl] at h1 ⊢
    exact ⟨env, c1, rel1, er.mono s1, h1⟩
  | false =>
    rw [if_neg Bool.false_ne_true] at h1 ⊢
    exact ⟨env, c1, rel1, er.mono s1, h1⟩
/-- a test by a value's truth -/
theorem p_gen {e' : E} (ha : PE X a (tE X.K X.mg Φ W e')) (he : ∀ whole, isTrue a X.env whole = (do let v ← whole; standAt a.pos; holding [v] (truthy v)))
    (ev : ∀ env S, evT Φ e' env S = (evE Φ e' env S).bind fun d S => opt (truth S d) S) : PT X a (tT X.K X.mg Φ W e') := by
  refine impPT (pt_truth ha he) fun σ H Q q => ?_
  obtain ⟨env, c, rel, er, h⟩ := q
  rw [ev] at h
  refine ⟨env, c, rel, er, PR.mono (PR.bind (RA := rD X.K) h) fun v H1 ⟨c1, x, rel1, s1, r1, h1⟩ => ?_⟩
  cases e : truth c1.S x with
  | none => rw [e] at h1; exact h1.elim
  | some k =>
    rw [e] at h1
    exact ⟨k, truth_ok rel1 r1 e, PR.now h1 rel1 rfl⟩
theorem plain_ix (h : isSlc b = false) : L2.PlainIx b := by
  cases b <;> first | (intro _ _; rfl) | cases h
theorem room_units {X : Cx} {k : Nat} (hr : Room k X.A) : X.A.units + 1 < cLine := Nat.lt_of_le_of_lt (by omega) hr.un
theorem orPE {X : Cx} {e : PySem.Expr} {t t' : TE} (h : PE X e t) (h' : PE X e t') : PE X e (fun σ H Q => t σ H Q ∨ t' σ H Q) := ⟨fun pins s σ H Q I q => by
  rcases q with q | q
  · exact h.run pins s σ H Q I q
  · exact h'.run pins s σ H Q I q⟩
theorem dget_ok {K : PySem.W.Frag} {c : Cfg} {H : Hp} {d e z : D} {v u : V} {Q : VK} (rel : Rel K c H) (rd : RD K c d v) (re : RD K c e u) (h : dgtV d e = some z) (q : ∀ w, RD K c z w → Q w H) : ∃ a w, v = .ref a ∧ DGet H a u (some w) ∧ Q w H := by
  unfold dgtV at h
  split at h
  · rename_i ks xs c0 hs
    split at h
    · rename_i x hx
      cases h
      have r := rd.t
      unfold RT at r
      obtain ⟨a, vs, rfl, h2, h3, h4⟩ := r
      obtain ⟨w, q1, q2⟩ := getD_ok hx h3 h4
      refine ⟨a, w, rfl, .inl ⟨zipK ks vs, .inr (stC c0), .inl (rel.sub _ _ h2), re.str hs, q1.symm⟩, q w ?_⟩
      unfold RD
      exact q2
    · cases h
  · cases h
theorem s_idx {k : Nat} (hr : Room k X.A) (hs : isSlc b = false) (ha : PE X a (tE X.K X.mg Φ W a')) (hb : PE X b (tE X.K X.mg Φ W b')) : PE X (.Subscript a b pos) (tE X.K X.mg Φ W (.idx a' b')) := by
  refine impPE (orPE (pe_ix ix_seq ha hb (plain_ix hs)) (pe_dget (room_units hr) ha hb (plain_ix hs))) fun σ H Q q => ?_
  obtain ⟨env, c, rel, er, h⟩ := q
  simp only [evE] at h
  have dec : (∃ x S1, evE Φ a' env c.S = .ok x S1 ∧ isDct x = true) ∨ ∀ x S1, evE Φ a' env c.S = .ok x S1 → isDct x = false := by
    cases evE Φ a' env c.S with
    | stuck => exact .inr fun x S1 z => (by cases z)
    | exc cl fs S' => exact .inr fun x S1 z => (by cases z)
    | ok x S' =>
      cases hx : isDct x with
      | true => exact .inl ⟨x, S', rfl, hx⟩
      | false => exact .inr fun y S1 z => (by cases z; exact hx)
  rcases dec with ⟨x0, S0, e0, d0⟩ | dec
  · right
    refine ⟨env, c, rel, er, PR.mono (PR.bindE (RA := rD X.K) h) fun v H1 ⟨c1, x, ex, rel1, s1, r1, h1⟩ => ?_⟩
    refine ⟨env, c1, rel1, er.mono s1, PR.mono (PR.bind (RA := rD X.K) h1) fun u H2 ⟨c2, y, rel2, s2, r2, h2⟩ => ?_⟩
    have dx : isDct x = true := by
      rw [e0] at ex
      cases ex
      exact d0
    cases e : itmV x y c2.S with
    | none => rw [e] at h2; exact h2.elim
    | some z =>
      rw [e] at h2
      unfold itmV at e
      rw [dx, if_pos rfl] at e
      exact dget_ok rel2 (r1.mono s2) r2 e fun w rw' => PR.now h2 rel2 rw'
  · left
    refine ⟨env, c, rel, er, PR.mono (PR.bindE (RA := rD X.K) h) fun v H1 ⟨c1, x, ex, rel1, s1, r1, h1⟩ => ?_⟩
    refine ⟨env, c1, rel1, er.mono s1, PR.mono (PR.bind (RA := rD X.K) h1) fun u H2 ⟨c2, y, rel2, s2, r2, h2⟩ => ?_⟩
    have dx : isDct x = false := dec x _ ex
    cases e : itmV x y c2.S with
    | none => rw [e] at h2; exact h2.elim
    | some z =>
      rw [e] at h2
      unfold itmV at e
      rw [dx, if_neg Bool.false_ne_true] at e
      exact idx_ok rel2 (r1.mono s2) r2 e fun w rw' => PR.now h2 rel2 rw'
theorem o_no : PO X none (tO X.K X.mg Φ W .no) := by
  refine ⟨fun pins s σ H Q I q => po_none.run pins s σ H Q I ?_⟩
  obtain ⟨env, c, rel, er, h⟩ := q
  simp only [evO] at h
  exact PR.now h rel rfl
theorem o_yes (ha : PE X a (tE X.K X.mg Φ W a')) : PO X (some a) (tO X.K X.mg Φ W (.yes a')) := by
  refine ⟨fun pins s σ H Q I q => (po_some ha).run pins s σ H Q I ?_⟩
  obtain ⟨env, c, rel, er, h⟩ := q
  simp only [evO] at h
  refine ⟨env, c, rel, er, PR.mono (PR.bind (RA := rD X.K) h) fun v H1 ⟨c1, x, rel1, s1, r1, h1⟩ => ?_⟩
  split at h1
  · rename_i i hi
    exact ⟨i, r1.int hi, PR.now h1 rel1 rfl⟩
  · exact h1.elim
theorem s_slc {lo hi : Option PySem.Expr} {l u : Eo} {p2 : Pos} {bb : Bool} (ha : PE X a (tE X.K X.mg Φ W a')) (hl : PO X lo (tO X.K X.mg Φ W l)) (hu : PO X hi (tO X.K X.mg Φ W u)) : PE X (.Subscript a (.Slice lo hi none p2) pos) (tF X.K X.mg Φ W bb (.slc a' l u)) := by
  refine impPE (pe_slice sl_all ha hl hu) fun σ H Q q => ?_
  obtain ⟨env, c, rel, er, h⟩ := q
  simp only [evE, R.bind_assoc] at h
  refine ⟨env, c, rel, er, PR.mono (PR.bind (RA := rD X.K) h) fun v H1 ⟨c1, x, rel1, s1, r1, h1⟩ => ?_⟩
  refine ⟨env, c1, rel1, er.mono s1, PR.mono (PR.bind (RA := rO) h1) fun i H2 ⟨c2, y, rel2, s2, r2, h2⟩ => ?_⟩
  have r2 : y = i := r2
  subst r2
  refine ⟨env, c2, rel2, (er.mono s1).mono s2, PR.mono (PR.bind (RA := rO) h2) fun j H3 ⟨c3, z, rel3, s3, r3, h3⟩ => ?_⟩
  have r3 : z = j := r3
  subst r3
  exact slc_ok rel3 ((r1.mono s2).mono s3) h3
/-! ### arguments, displays -/
theorem s_rev {p1 p2 p3 : Pos} {j : Nat} {bb : Bool} (ha : PE X a (tE X.K X.mg Φ W a')) : PE X (.Subscript a (.Slice none none (some (.UnaryOp .USub (.Constant (.int 1) j p1) p2)) p3) pos) (tF X.K X.mg Φ W bb (.rev a')) := by
  refine impPE (pe_revL ha) fun σ H Q q => ?_
  obtain ⟨env, c, rel, er, h⟩ := q
  simp only [evE, R.bind_assoc] at h
  refine ⟨env, c, rel, er, PR.mono (PR.bind (RA := rD X.K) h) fun v H1 ⟨c1, x, rel1, s1, r1, h1⟩ => ?_⟩
  split at h1
  · rename_i xs hx
    obtain ⟨b, vs, rfl, q2, q3⟩ := r1.asL rel1 hx
    exact ⟨b, vs, rfl, SqL.of q2, fun p hp => fin_lst rel1 hp (RTs.rev q3) h1⟩
  · exact h1.elim
theorem a_nil : PA X [] (tEs X.K X.mg Φ W .nil) := by
  refine impPA pa_nil fun σ H Q q => ?_
  obtain ⟨env, c, rel, er, h⟩ := q
  simp only [evEs] at h
  refine PR.now h rel ?_
  show RDs X.K c _ _
  unfold RDs
  rfl
theorem a_cons {es : List PySem.Expr} {es' : Es} (hs : isStar a = false) (ha : PE X a (tE X.K X.mg Φ W a')) (hr : PA X es (tEs X.K X.mg Φ W es')) : PA X (a :: es) (tEs X.K X.mg Φ W (.cons a' es')) := by
  refine impPA (pa_cons ha hr (se_cons hs es X.env)) fun σ H Q q => ?_
  obtain ⟨env, c, rel, er, h⟩ := q
  simp only [evEs] at h
  refine ⟨env, c, rel, er, PR.mono (PR.bind (RA := rD X.K) h) fun v H1 ⟨c1, x, rel1, s1, r1, h1⟩ => ?_⟩
  refine ⟨env, c1, rel1, er.mono s1, PR.mono (PR.bind (RA := rDs X.K) h1) fun vs H2 ⟨c2, ys, rel2, s2, r2, h2⟩ => ?_⟩
  refine PR.now h2 rel2 ?_
  show RDs X.K c2 _ _
  unfold RDs
  exact ⟨v, vs, rfl, r1.mono s2, r2⟩
theorem many_ok {K : PySem.W.Frag} {c : Cfg} {ds : List D} {vs : List V} (r : RDs K c ds vs) (h : ds.length ≤ lim) : vs.length ≤ sizeLine := by
  rw [r.len]
  exact Nat.le_trans h lim_line
theorem evEs_len : ∀ (es : Es) (env : Env) (S : Sto) (ds : List D) (S' : Sto), evEs Φ es env S = .ok ds S' → ds.length = nEs es
  | .nil, env, S, ds, S', h => by
    simp only [evEs] at h
    cases h
    rfl
  | .cons e r, env, S, ds, S', h => by
    simp only [evEs] at h
    cases e1 : evE Φ e env S with
    | stuck => rw [e1] at h; cases h
    | exc cl fs S2 => rw [e1] at h; cases h
    | ok d S2 =>
      rw [e1] at h
      simp only [R.bind_ok] at h
      cases e2 : evEs Φ r env S2 with
      | stuck => rw [e2] at h; cases h
      | exc cl fs S3 => rw [e2] at h; cases h
      | ok xs S3 =>
        rw [e2] at h
        cases h
        simp [evEs_len r env S2 xs _ e2, nEs]
theorem PR.len {K : PySem.W.Frag} {mg : Str → Option Value} {σ : L2.St} {c : Cfg} {H : Hp} {es : Es} {env : Env} {γ δ : Type} {RB : Cfg → γ → δ → Prop} {f : List D → Sto → R γ} {Q : δ → Hp → Prop} {P : List D → Prop}
    (h : PR K mg W σ RB c H ((evEs Φ es env c.S).bind f) Q) (hp : ∀ ds, ds.length = nEs es → P ds) :
    PR K mg W σ (fun c ds vs => RDs K c ds vs ∧ P ds) c H (evEs Φ es env c.S) fun b H1 => ∃ c1 a, Rel K c1 H1 ∧ Stp c H c1 H1 ∧ (RDs K c1 a b ∧ P a) ∧ PR K mg W σ RB c1 H1 (f a c1.S) Q := PR.bind h
theorem s_tup {es : List PySem.Expr} {es' : Es} {kk : Nat} (hl : nEs es' ≤ lim) (ha : PA X es (tEs X.K X.mg Φ W es')) : PE X (.Tuple es kk pos) (tE X.K X.mg Φ W (.tup es')) := by
  refine impPE (pe_tup ha) fun σ H Q q => ?_
  obtain ⟨env, c, rel, er, h⟩ := q
  simp only [evE] at h
  have h0 : ∃ r, evEs Φ es' env c.S = r := ⟨_, rfl⟩
  obtain ⟨r0, e0⟩ := h0
  refine ⟨env, c, rel, er, ?_⟩
  have len : ∀ ds S', r0 = .ok ds S' → ds.length ≤ lim := fun ds S' e => by
    rw [evEs_len es' env c.S ds S' (e0.trans e)]
    exact hl
  rw [e0] at h ⊢
  cases r0 with
  | stuck => exact h.elim
  | exc cl fs S' => exact h
  | ok ds S' =>
    intro vs c1 H1 es1 rel1 s1 r1
    subst es1
    refine ⟨many_ok r1 (len ds _ rfl), fun p hp => ?_⟩
    have h' : PR X.K X.mg W σ (rD X.K) c H (.ok (mkTup ds) c1.S) Q := h
    obtain ⟨rel2, s2⟩ := rel1.lay (o := .tup vs) hp
    refine h' (.ref p) ⟨upd c1.G p (.tup vs), c1.ρ, c1.S⟩ _ rfl rel2 (s1.trans s2) ?_
    have r2 := r1.mono s2
    show RD X.K _ _ _
    unfold mkTup
    split
    · rename_i xs hx
      have e := allT_some hx
      subst e
      unfold RD RT
      exact ⟨p, vs, rfl, .inl (.inl upd_same), RDs_RTs r2⟩
    · unfold RD
      exact ⟨p, vs, rfl, .inl (.inl upd_same), r2⟩
theorem s_lst {es : List PySem.Expr} {es' : Es} (hl : nEs es' ≤ lim) (ha : PA X es (tEs X.K X.mg Φ W es')) : PE X (.List es pos) (tE X.K X.mg Φ W (.lst es')) ∧ PE X (.List es pos) (tE X.K X.mg Φ W (.newL es')) := by
  have key : ∀ (e'' : E) (k : List D → Sto → R D), (∀ env S, evE Φ e'' env S = (evEs Φ es' env S).bind k) →
      (∀ ds vs (c : Cfg) (H : Hp) p σ Q, ds.length ≤ lim → Rel X.K c H → RDs X.K c ds vs → H p = none → PR X.K X.mg W σ (rD X.K) c H (k ds c.S) Q → Q (.ref p) (upd H p (.lst vs))) → PE X (.List es pos) (tE X.K X.mg Φ W e'') := by
    intro e'' k hev hk
    refine impPE (pe_lst ha) fun σ H Q q => ?_
    obtain ⟨env, c, rel, er, h⟩ := q
    rw [hev] at h
    have h0 : ∃ r, evEs Φ es' env c.S = r := ⟨_, rfl⟩
    obtain ⟨r0, e0⟩ := h0
    refine ⟨env, c, rel, er, ?_⟩
    have len : ∀ ds S', r0 = .ok ds S' → ds.length ≤ lim := fun ds S' e => by
      rw [evEs_len es' env c.S ds S' (e0.trans e)]
      exact hl
    have hb := PR.bind (RA := rDs X.K) h
    rw [e0] at h hb ⊢
    cases r0 with
    | stuck => exact h.elim
    | exc cl fs S' => exact h
    | ok ds S' =>
      intro vs c1 H1 es1 rel1 s1 r1
      subst es1
      refine ⟨many_ok r1 (len ds _ rfl), fun p hp => ?_⟩
      refine hk ds vs c1 H1 p σ Q (len ds _ rfl) rel1 r1 hp ?_
      have h' : PR X.K X.mg W σ (rD X.K) c H (k ds c1.S) Q := h
      unfold PR at h' ⊢
      generalize k ds c1.S = z at h'
      cases z with
      | stuck => exact h'
      | ok x S'' => exact fun b c' H' e x y z => h' b c' H' e x (s1.trans y) z
      | exc cl fs S'' => exact fun ca dd c' H' e x y z w => h' ca dd c' H' e x (s1.trans y) z w
  refine ⟨key (.lst es') (fun ds S => opt (mkLst ds) S) (fun env S => by simp only [evE]) fun ds vs c H p σ Q hl rel r hp h => ?_,
    key (.newL es') (fun ds S => match allT ds with | some xs => .ok (.ref S.length) (S ++ [.lst xs]) | none => .ok (.ref S.length) (S ++ [.lsr ds])) (fun env S => by (simp only [evE]) <;> rfl) fun ds vs c H p σ Q hl rel r hp h => ?_⟩
  · cases e : mkLst ds with
    | none => rw [e] at h; exact h.elim
    | some z =>
      obtain ⟨xs, rfl, rfl⟩ := mkLst_eq e
      rw [e] at h
      exact fin_lst (b := false) rel hp (RDs_RTs r) h
  · split at h
    · rename_i xs hx
      have e := allT_some hx
      subst e
      exact fin_lst (b := true) rel hp (RDs_RTs r) h
    · obtain ⟨rel2, s2⟩ := rel.cellNew (x := .lsr ds) (vs := vs) hp (by intro z; cases z) (fun c' e1 e2 => by
        unfold RC
        exact ⟨vs, upd_same, RDs.mono' e1 e2 _ r⟩)
      refine h (.ref p) _ _ rfl rel2 s2 ?_
      show RD X.K _ _ _
      unfold RD
      refine ⟨p, rfl, ?_⟩
      show (c.ρ ++ [p])[c.S.length]? = some p
      rw [← rel.len, List.getElem?_concat_length]
theorem s_dict0 : PE X (.Dict [] [] pos) (tE X.K X.mg Φ W .dict0) := by
  refine impPE pe_dnewK fun σ H Q q => ?_
  obtain ⟨env, c, rel, er, h⟩ := q
  simp only [evE] at h
  intro p hp
  obtain ⟨rel2, s2⟩ := rel.lay (o := .dK []) hp
  refine h (.ref p) ⟨upd c.G p (.dK []), c.ρ, c.S⟩ _ rfl rel2 s2 ?_
  show RD X.K _ _ _
  unfold RD RT
  refine ⟨p, [], rfl, upd_same, rfl, ?_⟩
  unfold RTs
  rfl
end
end Kp
/-! A def's promise where it is called with nothing being shown around it: so what is shown within it is told exactly. -/
namespace Kp
open PySem PySem.Spec PyProof.Rows L2
section
variable {P : Program} {w : World} {K : PySem.W.Frag} {mg : Str → Option Value} {base : Heap}
/-- a promise for calls around which nothing is being shown -/
structure FnG (P : Program) (w : World) (K : PySem.W.Frag) (mg : Str → Option Value) (base : Heap) (CX : CXT) (k : Nat) (f : Addr) (fd : FuncData) (ps : List Str) (sp : Sp) : Prop where
  len : ∀ vs H Q E, sp vs H Q E → vs.length = ps.length
  run : ∀ (A : Around) (outer : List PySem.Env) (s : Shared) (H : Hp) (args : Args) (us : List Value) (vs : List V) (Q : VK) (E : XK), Room k A → A.guards = some [] → Env0 P w K mg base A outer s H → BindsTo s fd args (ps.zip us) → Vals vs us → sp vs H Q E →
    codeAny (model P w) A (.call (.ref f) args) (CR CX outer P w H s Q E) s
/-- a def by its body -/
theorem okG {x qual : Str} {st : PySem.Stmt} {f : Addr} {fd : FuncData} {N ps : List Str} {k : Nat} {sp : Sp} (F : L2.Fun K x qual st f fd) (S : FnScope N ps (defScope st)) (len : ∀ vs H Q E, sp vs H Q E → vs.length = ps.length)
    (body : ∀ (cdv : Value) (A : Around) (outer : List PySem.Env) (s : Shared) (H : Hp) (vs : List V) (Q : VK) (E : XK), A.guards = some [] → Room k (A.deeper (envOfC qual (defScope st) s.heap.objs.size f cdv)) → sp vs H Q E →
      ∃ t, PSs (cxOf (L2.CX P w) P w K mg base N qual (defScope st) f cdv A outer s H E) (defBody st) t ∧ t { nx := fun _ H' => Q .non H', rt := Q } (L2.start N vs) H) : FnG P w K mg base (L2.CX P w) (k + 1) f fd ps sp := by
  obtain ⟨oc, od, kV, doc, pm, an, cdv, ct, osl, rfl, lk, hcd⟩ := F.ex
  refine ⟨len, fun A outer s H args us vs Q E hr hg e0 hb r q => ?_⟩
  have keep := fun b o (e : base.get? b = some o) => (e0.bs b o e).1
  have kx := e0.mod.kin.keeps keep
  refine codeAny_call_function hr.depth (kx _ _ lk) rfl S.co S.gen rfl (PySem.W.codeRec_of kx hcd) (hb _ _ _ _ ?_)
  refine wpAny_newFunctionEnv_cells S.kind (fun ⟨n, v⟩ hy => ?_) fun env he s1 z => ?_
  · rcases S.par n (List.of_mem_zip hy).1 with q1 | q1
    · exact .inl q1
    · exact .inr ⟨q1, PySem.W.cellsFrom_some _ _ _ (.inl q1)⟩
  subst he
  refine ⟨(e0.mod.nolimit.keeps keep).keeps z.toInCall.keep, codeAny_func ?_⟩
  obtain ⟨t, ht, hq⟩ := body cdv A outer s H vs Q E hg (hr.deeper _) q
  refine wpAny_mono (ht.run [] s1 (L2.start N vs) H _ (inv_start S hr.hd e0 (len _ _ _ _ q) r z) hq) (fun fl s' hs => ?_) fun e s' hs => hs
  cases fl with
  | ret u =>
    obtain ⟨v, σ', H', J, rv, q2⟩ := hs
    exact ⟨v, H', J.os, J.bare, J.base, J.hok, rv, q2⟩
  | next =>
    obtain ⟨σ', H', J, q2⟩ := hs
    exact ⟨.non, H', J.os, J.bare, J.base, J.hok, rfl, q2⟩
  | brk =>
    obtain ⟨_, _, _, q2⟩ := hs
    exact False.elim q2
  | cont =>
    obtain ⟨_, _, _, q2⟩ := hs
    exact False.elim q2
end
section
variable {X : Cx} {CX : CXT} {k : Nat} {f : Addr} {fd : FuncData} {ps : List Str} {sp : Sp}
theorem run_any {E : XK} {pins : List (Addr × Obj)} {σ : L2.St} {H : Hp} {s : Shared} {Q : VK} {us uw : List Value} {kw : List (Str × Value)} {vs : List V}
    (F : FnG X.prog X.w X.K X.mg X.base CX k f fd ps sp) (hr : Room k X.A) (hgd : X.A.guards = some []) (hx : PassesAt CX X σ E) (I : L2.Inv X pins σ H s) (hb : us.length = ps.length → BindsTo s fd ⟨uw, kw⟩ (ps.zip us)) (r : Vals vs us) (h : sp vs H Q E) :
    wpAny (model X.prog X.w) X.A (call (.ref f) uw kw) (EP X pins σ Q) X.xe s := by
  have hl : us.length = ps.length := by rw [← F.len vs H Q E h, Vals.length r]
  refine wpAny_call (codeAny_mono (F.run X.A X.stack s H ⟨uw, kw⟩ us vs Q E hr hgd I.env0 (hb hl) r h) fun r s' hq => ?_)
  cases r with
  | error e => exact hx pins H s e s' I hq
  | ok fl =>
    cases fl with
    | ret u => exact I.after hq
    | _ => exact hq.elim
theorem run_pos {E : XK} {pins : List (Addr × Obj)} {σ : L2.St} {H : Hp} {s : Shared} {Q : VK} {us : List Value} {vs : List V}
    (F : FnG X.prog X.w X.K X.mg X.base CX k f fd ps sp) (hr : Room k X.A) (hgd : X.A.guards = some []) (hb : Binds X.K fd ps []) (hx : PassesAt CX X σ E) (I : L2.Inv X pins σ H s) (r : Vals vs us) (h : sp vs H Q E) :
    wpAny (model X.prog X.w) X.A (call (.ref f) us) (EP X pins σ Q) X.xe s :=
  run_any F hr hgd hx I (fun hl => by
    have z := hb s us I.kIn (by rw [List.append_nil]; exact hl)
    rw [List.append_nil] at z
    exact z) r h
theorem pe_callG {E : L2.St → XK} {x : Str} {p pos : Pos} {e : PySem.Expr} {es : List PySem.Expr} {t : TA} (F : FnG X.prog X.w X.K X.mg X.base CX k f fd ps sp) (hr : Room k X.A) (hgd : X.A.guards = some []) (hg : Gl X x) (hm : X.mg x = some (.ref f)) (hk : PySem.W.keepIn X.K (.ref f) = true) (hb : Binds X.K fd ps []) (hx : ∀ σ, PassesAt CX X σ (E σ))
    (ha : PA X (e :: es) t) (hdb : (x == ("__debug__" : Str)) = false) (he : starEach (e :: es) X.env = (false, eval e X.env) :: starEach es X.env) (hpl : (backTo pos (starEach es X.env)).any (·.1) = false) :
    PE X (.Call (.Name x p) (e :: es) [] pos) (tCallS sp E t) := ⟨fun pins s σ H Q I h =>
  wpAny_Call_Name_kw (ld_glob I hg hm (PySem.W.callWith_K (h₀ := X.base) I.ok.mod.kin hk (thn (ha.run pos pins s σ H _ I h) fun us s1 ⟨vs, H1, I1, r, q⟩ => ⟨I1.kIn, run_pos F hr hgd hb (hx σ) I1 r q⟩) he hpl) hdb)⟩
end
/-! ### what is shown -/
section
variable {X : Cx}
/-- a value, shown -/
theorem call_reprA (hg : X.A.guards = some []) {k : Nat} (hr : Room k X.A) : CallR X (.builtin "repr") (fun xs H Q => (∃ v d, xs = [v] ∧ Dp X.K H v d ∧ SeqAt.shaped d = true ∧ d.showable = true ∧ d.shown.length ≤ sizeLine ∧ Q (.str d.shown) H) ∨ ∃ a, xs = [.ref a] ∧ H a = some (.dK []) ∧ Q (.str (stC ['{', '}'])) H) := by
  intro pins s σ H xs us Q I vals h
  rcases h with h | ⟨a, rfl, ha, q⟩
  case inr =>
    cases vals with
    | cons r1 vals =>
      cases vals
      cases r1
      have z := I.hok a _ ha
      unfold ObjOk at z
      obtain ⟨_, hn, vs, kv, o, es, ep, h1, h2, h3, _, h4, h5⟩ := z
      cases kv
      have e1 : es.toList = [] := by
        generalize es.toList = l at h4
        cases h4
        rfl
      have e2 : es = #[] := by
        apply Array.toList_inj.mp
        exact e1
      subst e2
      have r : Reads s.heap (.ref a) (.dict []) ([a] ++ []) := .dict (kvs := []) (as := []) (bs := []) h1 h2.1 h3 .nil .nil
      have hu := hr.un
      refine repr_of_reads' r (by decide) (fun _ m => ?_) hg (by show X.A.units + 2 < cLine; omega) (fun _ _ e => e) (fun h' u tk hk => ⟨.str (stC ['{', '}']), H, I.kept hk, ⟨u, ?_⟩, q⟩) (by decide)
      · have : sysModules = a := by simpa using m
        subst this
        simp at hn
      · rfl
  obtain ⟨v, d, rfl, hd, hs, hw, hz, q⟩ := h
  have fin : ∀ {z : Str} {h' : Heap} {u : Tok} {tk : Tok}, (∀ b o, s.heap.get? b = some o → h'.get? b = some o) → Q (.str z) H → EP X pins σ Q (.str z u) { s with heap := h', toks := tk } := fun {z h' u tk} hk q => ⟨.str z, H, I.kept hk, ⟨u, rfl⟩, q⟩
  cases vals with
  | cons r1 vals =>
    rename_i u0 us0
    cases vals
    have ref : ∀ a, v = .ref a → wpAny (model X.prog X.w) X.A (call (.builtin "repr") [u0]) (EP X pins σ Q) X.xe s := fun a e => by
      subst e
      cases r1
      obtain ⟨as, r⟩ := Dp.reads I d (.ref a) (.ref a) hd rfl
      have hdp : d.depth ≤ 64 := by
        unfold SeqAt.shaped at hs
        rw [Bool.and_eq_true] at hs
        exact of_decide_eq_true hs.2
      have hnd := PyData.hasDict_of_canLay d (SeqAt.canLay_of_shaped hs)
      have hu := hr.un
      exact repr_of_reads' r hw (PyData.noDict_hsm hnd) hg (by omega) (fun _ _ e => e) (fun h' u tk hk => fin hk q) hz
    cases hd with
    | non =>
      cases r1
      exact PySem.P.repr_of_none (fin (fun _ _ e => e) q)
    | bl b =>
      cases r1
      exact PySem.P.repr_of_bool (fin (fun _ _ e => e) (by simpa only [PyData.shown] using q))
    | int i =>
      obtain ⟨t, rfl⟩ := r1
      exact PySem.P.repr_of_int (by simpa [PyData.showable] using hw) (fin (fun _ _ e => e) (by simpa only [PyData.shown] using q))
    | str x =>
      obtain ⟨t, rfl⟩ := r1
      exact PySem.P.repr_of_str (fin (fun _ _ e => e) (by simpa only [PyData.shown] using q)) (by simpa only [PyData.shown] using hz)
    | lst => exact ref _ rfl
    | tup => exact ref _ rfl
end
/-! ### the law's own call -/
section
variable {P : Program} {w : World} {K : PySem.W.Frag} {mg mb : Str → Option Value} {CX : CXT} {k : Nat} {fa a : Addr} {fd : FuncData} {x : Str} {sp : Sp} {s₁ : Shared} {vs : List Value} {ns : List Int}
/-- from a heap that tracks the script at most -/
theorem lawG_from (H : Hp) (KX : K.In s₁.heap) (hns : s₁.heap.Ns mainGlobals mg) (hb : s₁.heap.Ns builtinsNs mb) (hbb : ∀ x : Str, x ≠ "__name__" → mb x = bootBuiltins x) (hlim : s₁.heap.NoLimit) (hg : s₁.gens = #[])
    (ha : s₁.heap.get? a = some { cls := .type "list", data := .seq vs.toArray }) (hr : Room k callerA)
    (F : ∀ base : Heap, K.In base → base.Ns mainGlobals mg → FnG P w K mg base CX k fa fd [x] sp) (hbind : ∀ (s : Shared) (u : Value), BindsTo s fd ⟨[u], []⟩ [(x, u)])
    (hsp : sp [.ref a] H (fun v _ => v = .bl true) fun _ _ _ => False) (hCX : ∀ H e s', CX [] H s₁ (fun _ _ _ => False) e s' → False)
    (hO : Only H) (hok : HOk P w H s₁.heap) (hA : ∀ b, H b ≠ none → b = a) (hK : H a ≠ none → K.lookup a = none) :
    codeAny (model P w) callerA (.call (.ref fa) ⟨[.ref a], []⟩) (fun r s' => r = .ok (.ret (.bool true)) ∧ OldK s₁.heap s'.heap ∧ s'.os = s₁.os ∧ AllBare s'.gens) s₁ := by
  have none_of : ∀ {b : Addr} {o : Obj}, s₁.heap.get? b = some o → o ≠ { cls := .type "list", data := .seq vs.toArray } → H b = none := fun {b o} e hne => by
    cases q : H b with
    | none => rfl
    | some u =>
      have z := hA b (by rw [q]; exact Option.some_ne_none u)
      rw [z, ha] at e
      exact absurd (Option.some.inj e).symm hne
  have ns_of : ∀ {b : Addr} {m : Str → Option Value}, s₁.heap.Ns b m → (hidT s₁.heap H).Ns b m := fun {b m} ⟨o, es, ep, e, d, r⟩ =>
    ⟨o, es, ep, hidT_get e (none_of e fun z => by rw [z] at d; exact nomatch d), d, r⟩
  have kin : K.In (hidT s₁.heap H) := fun b o e => hidT_get (KX b o e) (by
    cases q : H b with
    | none => rfl
    | some u =>
      have z := hA b (by rw [q]; exact Option.some_ne_none u)
      rw [z] at q e
      rw [hK (by rw [q]; exact Option.some_ne_none u)] at e
      cases e)
  obtain ⟨mc, l1, l2⟩ := hlim
  have e0 : Env0 P w K mg (hidT s₁.heap H) callerA [] s₁ H := ⟨rfl, ⟨kin, ns_of hns, ⟨mb, ns_of hb, hbb⟩, mc, ns_of l1, l2⟩, fun b o e => of_hidT e, Nat.le_of_eq (hidT_size _ _), trivial, fun b hb => absurd (show b ∈ ([] : List Addr) from hb) List.not_mem_nil, hok, .of_eq hg⟩
  refine codeAny_mono ((F _ kin (ns_of hns)).run callerA [] s₁ H ⟨[.ref a], []⟩ [.ref a] [.ref a] _ _ hr rfl e0 (hbind s₁ (.ref a)) (.cons rfl .nil) hsp) fun r s' h => ?_
  cases r with
  | error e => exact (hCX H e s' h).elim
  | ok fl =>
    cases fl with
    | ret u =>
      obtain ⟨v, H', os, bare, un, hok', rv, q⟩ := h
      cases (show v = .bl true from q)
      cases (show u = Value.bool true from rv)
      refine ⟨rfl, OldK.of_keep fun b o e => ?_, os, bare⟩
      rcases hO b with z | ⟨ob, xs, z⟩
      · exact un.keep b o e z (fun y => absurd (show b ∈ ([] : List Addr) from y) List.not_mem_nil) List.not_mem_nil
      · rw [(hok b _ z).1] at e
        rw [(hok' b _ (un.frzs b ob _ z)).1]
        exact e
    | _ => exact h.elim
theorem lawG (KX : K.In s₁.heap) (hns : s₁.heap.Ns mainGlobals mg) (hb : s₁.heap.Ns builtinsNs mb) (hbb : ∀ x : Str, x ≠ "__name__" → mb x = bootBuiltins x) (hlim : s₁.heap.NoLimit) (hg : s₁.gens = #[])
    (ha : s₁.heap.get? a = some { cls := .type "list", data := .seq vs.toArray }) (hi : IntsAre vs ns) (hl : ns.length ≤ sizeLine) (hr : Room k callerA)
    (F : ∀ base : Heap, K.In base → base.Ns mainGlobals mg → FnG P w K mg base CX k fa fd [x] sp) (hbind : ∀ (s : Shared) (u : Value), BindsTo s fd ⟨[u], []⟩ [(x, u)])
    (hsp : ∀ H : Hp, Only H → SqL K H a (ns.map V.int) → sp [.ref a] H (fun v _ => v = .bl true) fun _ _ _ => False)
    (hCX : ∀ H e s', CX [] H s₁ (fun _ _ _ => False) e s' → False) :
    codeAny (model P w) callerA (.call (.ref fa) ⟨[.ref a], []⟩) (fun r s' => r = .ok (.ret (.bool true)) ∧ OldK s₁.heap s'.heap ∧ s'.os = s₁.os ∧ AllBare s'.gens) s₁ := by
  have go := fun (H : Hp) (hO : Only H) (hS : SqL K H a (ns.map V.int)) => lawG_from (P := P) (w := w) (CX := CX) H KX hns hb hbb hlim hg ha hr F hbind (hsp H hO hS) hCX hO
  have rv := vals_ints hi
  have lenV := hi.length
  cases hk : K.lookup a with
  | some o =>
    have e := KX a o hk
    rw [ha] at e
    cases e
    exact go (fun _ => none) (fun _ => .inl rfl) (.inr ⟨_, vs.toArray, _, hk, rfl, rfl, rfl, by rw [List.size_toArray, lenV]; exact hl, by simpa using rv⟩) (fun b u z => nomatch (show (none : Option HO) = some u from z)) (fun b z => absurd rfl z) fun z => absurd rfl z
  | none =>
    have at_ : ∀ b (u : HO), (if b = a then some (HO.frz { cls := .type "list", data := .seq vs.toArray } (.lst (ns.map V.int))) else none) = some u → b = a ∧ u = .frz { cls := .type "list", data := .seq vs.toArray } (.lst (ns.map V.int)) := fun b u z => by
      split at z
      · rename_i e
        exact ⟨e, (Option.some.inj z).symm⟩
      · cases z
    refine go (fun b => if b = a then some (.frz { cls := .type "list", data := .seq vs.toArray } (.lst (ns.map V.int))) else none) (fun b => ?_) (.inl (.inr ⟨{ cls := .type "list", data := .seq vs.toArray }, if_pos rfl⟩)) (fun b u z => ?_) (fun b z => ?_) fun _ => hk
    · show (if b = a then _ else _) = none ∨ ∃ o xs, (if b = a then _ else _) = some (HO.frz o (.lst xs))
      by_cases hb : b = a
      · exact .inr ⟨_, _, if_pos hb⟩
      · exact .inl (if_neg hb)
    · obtain ⟨e1, e2⟩ := at_ b u z
      subst e1 e2
      exact ⟨ha, by rw [List.length_map]; exact hl, vs, _, rv, ha⟩
    · cases q : (if b = a then some (HO.frz { cls := .type "list", data := .seq vs.toArray } (.lst (ns.map V.int))) else none) with
      | none => exact absurd q z
      | some u => exact (at_ b u q).1
end
end Kp
/-! Each form: calls, what is walked. -/
namespace Kp
open PySem L2
section
variable {X : Cx} {Φ : Kp.Or} {W : WX} {a b d : PySem.Expr} {a' b' d' : E} {pos p : Pos} {es : List PySem.Expr} {es' : Es}
theorem noStar_cons (ns : noStar (a :: es) = true) : isStar a = false ∧ noStar es = true := by
  unfold noStar at ns
  simp only [List.all_cons, Bool.and_eq_true, Bool.not_eq_true'] at ns
  exact ns
theorem s_call {f : String} {x : Str} {m : CM} {k : Nat} {fa : Addr} {fd : FuncData} {ps : List Str} (tk : Takes X W) (hr : Room k X.A) (hgd : X.A.guards = some []) (F : FnG X.prog X.w X.K X.mg X.base (L2.CX X.prog X.w) k fa fd ps (spR X.K X.mg Φ f))
    (hg : Gl X x) (hm : X.mg x = some (.ref fa)) (hk : PySem.W.keepIn X.K (.ref fa) = true) (hb : Binds X.K fd ps []) (hd : (x == ("__debug__" : Str)) = false) (ns : noStar (a :: es) = true) (ha : PA X (a :: es) (tEs X.K X.mg Φ W es')) :
    PE X (.Call (.Name x p) (a :: es) [] pos) (tE X.K X.mg Φ W (.call f es' m)) := by
  have ns2 := noStar_cons ns
  refine impPE (pe_callG F hr hgd hg hm hk hb (fun σ => passAt tk σ) ha hd (se_cons ns2.1 es X.env) (se_any es X.env pos ns2.2)) fun σ H Q q => ?_
  obtain ⟨env, c, rel, er, h⟩ := q
  simp only [evE] at h
  refine ⟨env, c, rel, er, PR.mono (PR.bind (RA := rDs X.K) h) fun vs H1 ⟨c1, ds, rel1, s1, r1, h1⟩ => ?_⟩
  exact call_ok rel1 r1 h1
theorem bi_sound {f : Str} {n : Nat} {bi : Bi} {bb : Bool} {kk : Nat} (hr : Room kk X.A) (hgd : X.A.guards = some []) (hc : X.calm = true) (hb : cBi f n = some bi) (hg : Gl X f) (hm : X.mg f = none) (hd : (f == ("__debug__" : Str)) = false) (hn : f ≠ "__name__") (ns : noStar (a :: es) = true) (ha : PA X (a :: es) (tEs X.K X.mg Φ W es')) :
    PE X (.Call (.Name f p) (a :: es) [] pos) (tF X.K X.mg Φ W bb (.bi bi es')) := by
  have ns2 := noStar_cons ns
  have key : ∀ {t : TE}, PE X (.Call (.Name f p) (a :: es) [] pos) t → (∀ σ H Q, tCB (rBi X.K bi) (tEs X.K X.mg Φ W es') σ H Q → t σ H Q) → PE X (.Call (.Name f p) (a :: es) [] pos) (tF X.K X.mg Φ W bb (.bi bi es')) := fun {t} h i => by
    refine impPE h fun σ H Q q => i σ H Q ?_
    obtain ⟨env, c, rel, er, h⟩ := q
    simp only [evE, R.bind_assoc] at h
    refine ⟨env, c, rel, er, PR.mono (PR.bind (RA := rDs X.K) h) fun vs H1 ⟨c1, ds, rel1, s1, r1, h1⟩ => ?_⟩
    exact bi_ok rel1 r1 h1
  unfold cBi at hb
  split at hb
  · rename_i e; cases hb; obtain ⟨rfl, _⟩ := e
    exact key (pe_callTy call_tuple_of hg hm PyProof.Rows.boot_tuple ha hn hd (se_cons ns2.1 es X.env) (se_any es X.env pos ns2.2)) fun _ _ _ q => q
  split at hb
  · rename_i e; cases hb; obtain ⟨rfl, _⟩ := e
    exact key (pe_callB (cr_srt hr) hg hm PyProof.Rows.boot_sorted ha hn hd (se_cons ns2.1 es X.env) (se_any es X.env pos ns2.2)) fun _ _ _ q => q
  split at hb
  · rename_i e; cases hb; obtain ⟨rfl, _⟩ := e
    exact key (pe_callB (call_reprA hgd hr) hg hm PyProof.Rows.boot_repr ha hn hd (se_cons ns2.1 es X.env) (se_any es X.env pos ns2.2)) fun _ _ _ q => q
  split at hb
  · rename_i e; cases hb; obtain ⟨rfl, _⟩ := e
    exact key (pe_callTy (call_dictP hc) hg hm PyProof.Rows.boot_dict ha hn hd (se_cons ns2.1 es X.env) (se_any es X.env pos ns2.2)) fun _ _ _ q => q
  split at hb
  · rename_i e; cases hb; obtain ⟨rfl, _⟩ := e
    exact key (pe_callB call_len hg hm PySem.boot_len ha hn hd (se_cons ns2.1 es X.env) (se_any es X.env pos ns2.2)) fun _ _ _ q => q
  · split at hb
    · rename_i e; cases hb; obtain ⟨rfl, _⟩ := e
      exact key (pe_callB (cr_all hc) hg hm PyProof.Rows.boot_all ha hn hd (se_cons ns2.1 es X.env) (se_any es X.env pos ns2.2)) fun _ _ _ q => q
    · split at hb
      · rename_i e; cases hb; obtain ⟨rfl, _⟩ := e
        exact key (pe_callB (cr_any hc) hg hm PyProof.Rows.boot_any ha hn hd (se_cons ns2.1 es X.env) (se_any es X.env pos ns2.2)) fun _ _ _ q => q
      · split at hb
        · rename_i e; cases hb; obtain ⟨rfl, _⟩ := e
          exact key (pe_callB (call_max2 hc) hg hm PyProof.Rows.boot_max ha hn hd (se_cons ns2.1 es X.env) (se_any es X.env pos ns2.2)) fun _ _ _ q => q
        · split at hb
          · rename_i e; cases hb; obtain ⟨rfl, _⟩ := e
            exact key (pe_callB (call_min2 hc) hg hm PyProof.Rows.boot_min ha hn hd (se_cons ns2.1 es X.env) (se_any es X.env pos ns2.2)) fun _ _ _ q => q
          · split at hb
            · rename_i e; cases hb; obtain ⟨rfl, _⟩ := e
              exact key (pe_callTy call_int1 hg hm PyProof.Rows.boot_int ha hn hd (se_cons ns2.1 es X.env) (se_any es X.env pos ns2.2)) fun _ _ _ q => q
            · split at hb
              · rename_i e; cases hb; obtain ⟨rfl, _⟩ := e
                exact key (pe_callTy call_list_of hg hm PyProof.Rows.boot_list ha hn hd (se_cons ns2.1 es X.env) (se_any es X.env pos ns2.2)) fun _ _ _ q => q
              · cases hb
theorem boot_tyN (t : Ty) : bootBuiltins (Str.ofString (tyN t)) = some (.type (tyN t)) := by
  cases t <;> decide +kernel
theorem tyOf_name {x : Str} {t : Ty} (h : tyOf x = some t) : x = Str.ofString (tyN t) := by
  unfold tyOf at h
  split at h
  · rename_i e; cases h; exact e
  · split at h
    · rename_i e; cases h; exact e
    · split at h
      · rename_i e; cases h; exact e
      · split at h
        · rename_i e; cases h; exact e
        · split at h
          · rename_i e; cases h; exact e
          · cases h
theorem s_isi {t : Str} {ty : Ty} {p2 : Pos} (ht : tyOf t = some ty) (hg : Gl X "isinstance") (hm : X.mg "isinstance" = none) (hgt : Gl X t) (hmt : X.mg t = none) (hs : isStar a = false) (hd : (t == ("__debug__" : Str)) = false) (hn : t ≠ "__name__") (ha : PE X a (tE X.K X.mg Φ W a')) :
    PE X (.Call (.Name "isinstance" p) [a, .Name t p2] [] pos) (tE X.K X.mg Φ W (.isi a' ty)) := by
  have hv : bootBuiltins t = some (.type (tyN ty)) := by
    rw [tyOf_name ht]
    exact boot_tyN ty
  have ns : noStar [PySem.Expr.Name t p2] = true := rfl
  refine impPE (pe_callB call_isi hg hm PyProof.Rows.boot_isinstance (pa_cons ha (pa_cons (pe_bltn hgt hmt hv (v := .ty (tyN ty)) rfl hn hd) pa_nil) (se_cons hs _ X.env)) (by decide) (by decide) (se_cons hs _ X.env) (se_any _ X.env pos ns)) fun σ H Q q => ?_
  obtain ⟨env, c, rel, er, h⟩ := q
  simp only [evE] at h
  refine ⟨env, c, rel, er, PR.mono (PR.bind (RA := rD X.K) h) fun v H1 ⟨c1, x, rel1, s1, r1, h1⟩ => ?_⟩
  cases e : isTy c1.S x ty with
  | none => rw [e] at h1; exact h1.elim
  | some r =>
    rw [e] at h1
    exact isTy_ok rel1 r1 e (PR.now h1 rel1 (RD.mkBl r))
theorem base_no {o : PySem.Expr} {m : Str} {env : PySem.Env} {w : Sem Value} (h : isCallE o = false) : attributeBase o m env w = w := by
  cases o <;> first | rfl | cases h
theorem lst_ty {K : PySem.W.Frag} {c : Cfg} {H : Hp} {x : D} {v : V} (rel : Rel K c H) (r : RD K c x v) (h : kndOf c.S x = some .lst) : tyV K "list" v H := by
  unfold kndOf at h
  split at h
  · rename_i z
    have q := r.t
    cases z <;> simp [kndT] at h
    · unfold RT at q
      obtain ⟨a, vs, rfl, q2, _⟩ := q
      exact .inl ⟨rfl, vs, SqL.of (rel.sub _ _ q2)⟩
    · unfold RT at q
      obtain ⟨a, rfl, q2⟩ := q
      exact .inl ⟨rfl, _, sqL_mono rel.sub q2⟩
  · cases h
  · rename_i n
    unfold RD at r
    obtain ⟨a, rfl, h2⟩ := r
    split at h
    · rename_i xs e
      obtain ⟨_, q⟩ := rel.cellAt e h2 (by intro z; cases z)
      unfold RC at q
      obtain ⟨vs, q1, _⟩ := q
      exact .inl ⟨rfl, vs, SqL.of q1⟩
    · rename_i xs e
      obtain ⟨_, q⟩ := rel.cellAt e h2 (by intro z; cases z)
      unfold RC at q
      obtain ⟨vs, q1, _⟩ := q
      exact .inl ⟨rfl, vs, SqL.of q1⟩
    · cases h
  · cases h
theorem str_ty {K : PySem.W.Frag} {c : Cfg} {H : Hp} {x : D} {v : V} (r : RD K c x v) (h : kndOf c.S x = some .str) : tyV K "str" v H := by
  unfold kndOf at h
  split at h
  · rename_i z
    have q := r.t
    cases z <;> simp [kndT] at h
    unfold RT at q
    subst q
    exact rfl
  · cases h
  · split at h <;> cases h
  · cases h
theorem mt_factsA (X : Cx) {x : Str} {n : Nat} {m : Mt} (h : mtOfA x n = some m) : ∃ T id, PlainAttrs T ∧ Slot T x id ∧ typeOf (Value.builtin id) = pure (.type "method_descriptor") ∧ MtR X id (rMt X.K m) ∧
    ∀ (c : Cfg) (H : Hp) (d : D) (v : V), Rel X.K c H → RD X.K c d v → kndOf c.S d = some (mtK m) → tyV X.K T v H := by
  unfold mtOfA at h
  split at h
  · rename_i e; cases h; rw [e.1]
    exact ⟨_, _, PySem.F.plainAttrs_list, PySem.F.slot_list_pop, PySem.F.type_list_pop, mt_popAt, fun c H d v rel r hk => lst_ty rel r hk⟩
  split at h
  · rename_i e; cases h; rw [e.1]
    exact ⟨_, _, PySem.F.plainAttrs_str, PySem.F.slot_str_split, PySem.F.type_str_split, mt_split, fun c H d v rel r hk => str_ty r hk⟩
  split at h
  · rename_i e; cases h; rw [e.1]
    exact ⟨_, _, PySem.F.plainAttrs_str, PySem.F.slot_str_partition, PySem.F.type_str_partition, mt_partition, fun c H d v rel r hk => str_ty r hk⟩
  split at h
  · rename_i e; cases h; rw [e.1]
    exact ⟨_, _, PySem.F.plainAttrs_str, PySem.F.slot_str_count, PySem.F.type_str_count, mt_count, fun c H d v rel r hk => str_ty r hk⟩
  split at h
  · rename_i e; cases h; rw [e.1]
    exact ⟨_, _, PySem.F.plainAttrs_str, PySem.F.slot_str_startswith, PySem.F.type_str_startswith, mt_startswith, fun c H d v rel r hk => str_ty r hk⟩
  split at h
  · rename_i e; cases h; rw [e.1]
    exact ⟨_, _, PySem.F.plainAttrs_str, PySem.F.slot_str_endswith, PySem.F.type_str_endswith, mt_endswith, fun c H d v rel r hk => str_ty r hk⟩
  · cases h
theorem mt_factsB (X : Cx) {x : Str} {n : Nat} {m : Mt} (h : mtOfB x n = some m) : ∃ T id, PlainAttrs T ∧ Slot T x id ∧ typeOf (Value.builtin id) = pure (.type "method_descriptor") ∧ MtR X id (rMt X.K m) ∧
    ∀ (c : Cfg) (H : Hp) (d : D) (v : V), Rel X.K c H → RD X.K c d v → kndOf c.S d = some (mtK m) → tyV X.K T v H := by
  unfold mtOfB at h
  split at h
  · rename_i e; cases h; rw [e.1]
    exact ⟨_, _, PySem.F.plainAttrs_list, PySem.F.slot_list_append, PySem.F.type_list_append, mt_append, fun c H d v rel r hk => lst_ty rel r hk⟩
  split at h
  · rename_i e; cases h; rw [e.1]
    exact ⟨_, _, PySem.F.plainAttrs_list, PySem.F.slot_list_insert, PySem.F.type_list_insert, mt_insert, fun c H d v rel r hk => lst_ty rel r hk⟩
  split at h
  · rename_i e; cases h; rw [e.1]
    exact ⟨_, _, PySem.F.plainAttrs_list, PySem.F.slot_list_clear, PySem.F.type_list_clear, mt_clear, fun c H d v rel r hk => lst_ty rel r hk⟩
  split at h
  · rename_i e; cases h; rw [e.1]
    exact ⟨_, _, PySem.F.plainAttrs_list, PySem.F.slot_list_pop, PySem.F.type_list_pop, mt_pop, fun c H d v rel r hk => lst_ty rel r hk⟩
  split at h
  · rename_i e; cases h; rw [e.1]
    exact ⟨_, _, PySem.F.plainAttrs_str, PySem.F.slot_str_join, PySem.F.type_str_join, mt_join, fun c H d v rel r hk => str_ty r hk⟩
  split at h
  · rename_i e; cases h; rw [e.1]
    exact ⟨_, _, PySem.F.plainAttrs_str, PySem.F.slot_str_upper, PySem.F.type_str_upper, mt_upper, fun c H d v rel r hk => str_ty r hk⟩
  split at h
  · rename_i e; cases h; rw [e.1]
    exact ⟨_, _, PySem.F.plainAttrs_list, PySem.F.slot_list_extend, PySem.F.type_list_extend, mt_extend, fun c H d v rel r hk => lst_ty rel r hk⟩
  · cases h
/-- what is known of a method -/
theorem mt_facts (X : Cx) {x : Str} {n : Nat} {m : Mt} (h : mtOf x n = some m) : ∃ T id, PlainAttrs T ∧ Slot T x id ∧ typeOf (Value.builtin id) = pure (.type "method_descriptor") ∧ MtR X id (rMt X.K m) ∧
    ∀ (c : Cfg) (H : Hp) (d : D) (v : V), Rel X.K c H → RD X.K c d v → kndOf c.S d = some (mtK m) → tyV X.K T v H := by
  unfold mtOf at h
  split at h
  · rename_i y hy
    cases h
    exact mt_factsA X hy
  · exact mt_factsB X h
theorem s_mth0 {x : Str} {m : Mt} {o : PySem.Expr} {o' : E} {apos : Pos} (hm : mtOf x 0 = some m) (hb : isCallE o = false) (hl : (apos.endLine == pos.line) = true) (ho : PE X o (tE X.K X.mg Φ W o')) :
    PE X (.Call (.Attribute o x apos) [] [] pos) (tE X.K X.mg Φ W (.mth m o' .nil)) := by
  obtain ⟨T, id, f1, f2, f3, f4, f5⟩ := mt_facts X hm
  refine impPE (pe_bm0 f1 f2 f3 f4 ho (base_no hb) hl) fun σ H Q q => ?_
  obtain ⟨env, c, rel, er, h⟩ := q
  simp only [evE] at h
  refine ⟨env, c, rel, er, PR.mono (PR.bind (RA := rD X.K) h) fun v H1 ⟨c1, y, rel1, s1, r1, h1⟩ => ?_⟩
  split at h1
  · rename_i hk
    refine ⟨f5 c1 H1 y v rel1 r1 hk, ?_⟩
    simp only [evEs, R.bind_ok] at h1
    exact mt_ok rel1 r1 (ds := []) (by unfold RDs; rfl) h1
  · exact h1.elim
theorem s_mthS {x : Str} {m : Mt} {o : PySem.Expr} {o' : E} {apos : Pos} (hm : mtOf x (a :: es).length = some m) (hb : isCallE o = false) (hl : (apos.endLine == pos.line) = true) (ns : noStar (a :: es) = true)
    (hall : (((backTo pos (starEach (a :: es) X.env)).all fun x => !x.1) && (backToKw pos (keywordEach [] X.env)).all (fun x => x.1.isSome) && decide (((a :: es).length + ([] : List Keyword).length + if ([] : List Keyword).isEmpty = true then 0 else 1) < 30)) = true)
    (ho : PE X o (tE X.K X.mg Φ W o')) (ha : PA X (a :: es) (tEs X.K X.mg Φ W es')) :
    PE X (.Call (.Attribute o x apos) (a :: es) [] pos) (tE X.K X.mg Φ W (.mth m o' es')) := by
  obtain ⟨T, id, f1, f2, f3, f4, f5⟩ := mt_facts X hm
  have ns2 := noStar_cons ns
  refine impPE (pe_bm f1 f2 f3 f4 ho ha (base_no hb) hall hl (se_cons ns2.1 es X.env) (se_any _ X.env pos ns2.2)) fun σ H Q q => ?_
  obtain ⟨env, c, rel, er, h⟩ := q
  simp only [evE] at h
  refine ⟨env, c, rel, er, PR.mono (PR.bind (RA := rD X.K) h) fun v H1 ⟨c1, y, rel1, s1, r1, h1⟩ => ?_⟩
  split at h1
  · rename_i hk
    refine ⟨f5 c1 H1 y v rel1 r1 hk, env, c1, rel1, er.mono s1, PR.mono (PR.bind (RA := rDs X.K) h1) fun vs H2 ⟨c2, ds, rel2, s2, r2, h3⟩ => mt_ok rel2 (r1.mono s2) r2 h3⟩
  · exact h1.elim
theorem s_mth1 {x : Str} {m : Mt} {o : PySem.Expr} {o' : E} {apos : Pos} (hm : mtOf x 1 = some m) (hb : isCallE o = false) (hs : isStar a = false) (hl : (apos.endLine == pos.line) = true) (ho : PE X o (tE X.K X.mg Φ W o')) (ha : PE X a (tE X.K X.mg Φ W a')) :
    PE X (.Call (.Attribute o x apos) [a] [] pos) (tE X.K X.mg Φ W (.mth m o' (.cons a' .nil))) :=
  s_mthS (es := []) hm hb hl (by unfold noStar; simp [hs]) (by rw [se_cons hs]; rfl) ho (a_cons hs ha a_nil)
theorem s_mth2 {x : Str} {m : Mt} {o : PySem.Expr} {o' : E} {apos : Pos} (hm : mtOf x 2 = some m) (hb : isCallE o = false) (hs : isStar a = false) (hs2 : isStar b = false) (hl : (apos.endLine == pos.line) = true) (ho : PE X o (tE X.K X.mg Φ W o')) (ha : PE X a (tE X.K X.mg Φ W a')) (hb2 : PE X b (tE X.K X.mg Φ W b')) :
    PE X (.Call (.Attribute o x apos) [a, b] [] pos) (tE X.K X.mg Φ W (.mth m o' (.cons a' (.cons b' .nil)))) :=
  s_mthS (es := [b]) hm hb hl (by unfold noStar; simp [hs, hs2]) (by rw [se_cons hs, se_cons hs2]; rfl) ho (a_cons hs ha (a_cons hs2 hb2 a_nil))
/-! ### calls by names -/
theorem pick_gen {α β : Type} {F : α → β → Prop} {xs : List α} {ys : List β} (h : ∀ (i : Nat) x, xs[i]? = some x → ∃ y, ys[i]? = some y ∧ F x y) : ∀ {pm : List Nat} {as : List α}, pick pm xs = some as → ∃ bs, pick pm ys = some bs ∧ Paired F as bs
  | [], as, e => by
    unfold pick at e
    cases e
    exact ⟨[], rfl, .nil⟩
  | i :: pm, as, e => by
    unfold pick at e
    split at e
    · rename_i x as' h1 h2
      cases e
      obtain ⟨y, q1, q2⟩ := h i x h1
      obtain ⟨bs, q3, q4⟩ := pick_gen h h2
      refine ⟨y :: bs, ?_, .cons q2 q4⟩
      unfold pick
      rw [q1, q3]
    · cases e
theorem paired_get {α β : Type} {F : α → β → Prop} : ∀ {xs : List α} {ys : List β}, Paired F xs ys → ∀ (i : Nat) x, xs[i]? = some x → ∃ y, ys[i]? = some y ∧ F x y
  | [], _, _, i, x, h => by simp at h
  | _ :: _, _, .cons a b, 0, x, h => by
    simp at h
    subst h
    exact ⟨_, rfl, a⟩
  | _ :: _, _, .cons a b, i + 1, x, h => by
    obtain ⟨y, q1, q2⟩ := paired_get b i x (by simpa using h)
    exact ⟨y, by simpa using q1, q2⟩
theorem paired_app {α β : Type} {F : α → β → Prop} : ∀ {xs : List α} {ys : List β} {xs' : List α} {ys' : List β}, Paired F xs ys → Paired F xs' ys' → Paired F (xs ++ xs') (ys ++ ys')
  | [], _, _, _, .nil, q => q
  | _ :: _, _, _, _, .cons a b, q => .cons a (paired_app b q)
theorem RDs.paired {K : PySem.W.Frag} {c : Cfg} : ∀ {ds : List D} {vs : List V}, RDs K c ds vs → Paired (fun d v => RD K c d v) ds vs
  | [], vs, h => by
    unfold RDs at h
    subst h
    exact .nil
  | d :: ds, vs, h => by
    unfold RDs at h
    obtain ⟨v, r, rfl, h2, h3⟩ := h
    exact .cons h2 (RDs.paired h3)
theorem RDs.of {K : PySem.W.Frag} {c : Cfg} : ∀ {ds : List D} {vs : List V}, Paired (fun d v => RD K c d v) ds vs → RDs K c ds vs
  | [], _, .nil => by
    unfold RDs
    rfl
  | d :: ds, _, .cons a b => by
    unfold RDs
    exact ⟨_, _, rfl, a, RDs.of b⟩
/-- how a call by names is bound -/
def KwB (K : PySem.W.Frag) (fd : FuncData) (ps : List Str) (q : KwRow) : Prop := ∀ (s : Shared) (us ws as : List Value), K.In s.heap → us.length = q.np → ws.length = q.ks.length → pick q.pm (us ++ ws) = some as → as.length = ps.length → BindsTo s fd ⟨us, (q.ks.map Str.ofString).zip ws⟩ (ps.zip as)
theorem kw_all {env : PySem.Env} {pos : Pos} : ∀ {kws : List Keyword} {ns : List Str}, kwNames kws = some ns →
    ((backToKw pos (keywordEach kws env)).all fun x => x.1.isSome) = true ∧ (backToKw pos (keywordEach kws env)).filterMap (·.1) = ns ∧ ((backToKw pos (keywordEach kws env)).any fun x => x.1.isNone) = false ∧ kws.length = ns.length
  | [], ns, h => by
    unfold kwNames at h
    cases h
    exact ⟨rfl, rfl, rfl, rfl⟩
  | ⟨none, v, p⟩ :: r, ns, h => by
    unfold kwNames at h
    cases h
  | ⟨some x, v, p⟩ :: r, ns, h => by
    unfold kwNames at h
    split at h
    · rename_i xs e2
      cases h
      obtain ⟨q1, q2, q3, q4⟩ := kw_all (env := env) (pos := pos) e2
      refine ⟨?_, ?_, ?_, by simp [q4]⟩
      · show (true && (backToKw pos (keywordEach r env)).all _) = true
        rw [q1]; rfl
      · show x :: (backToKw pos (keywordEach r env)).filterMap (·.1) = _
        rw [q2]
      · show (false || (backToKw pos (keywordEach r env)).any _) = false
        rw [q3]; rfl
    · cases h
theorem impPK {kws : List Keyword} {t t' : TA} (h : PK X kws t') (i : ∀ σ H Q, t σ H Q → t' σ H Q) : PK X kws t := ⟨fun pos pins s σ H Q I q => h.run pos pins s σ H Q I (i σ H Q q)⟩
theorem k_nil : PK X [] (tEs X.K X.mg Φ W .nil) := by
  refine impPK pk_nil fun σ H Q q => ?_
  obtain ⟨env, c, rel, er, h⟩ := q
  simp only [evEs] at h
  refine PR.now h rel ?_
  show RDs X.K c _ _
  unfold RDs
  rfl
theorem k_cons {kws : List Keyword} {nm : Option Str} {kp : Pos} (ha : PE X a (tE X.K X.mg Φ W a')) (hr : PK X kws (tEs X.K X.mg Φ W es')) : PK X (⟨nm, a, kp⟩ :: kws) (tEs X.K X.mg Φ W (.cons a' es')) := by
  refine impPK (pk_cons ha hr) fun σ H Q q => ?_
  obtain ⟨env, c, rel, er, h⟩ := q
  simp only [evEs] at h
  refine ⟨env, c, rel, er, PR.mono (PR.bind (RA := rD X.K) h) fun v H1 ⟨c1, x, rel1, s1, r1, h1⟩ => ?_⟩
  refine ⟨env, c1, rel1, er.mono s1, PR.mono (PR.bind (RA := rDs X.K) h1) fun vs H2 ⟨c2, ys, rel2, s2, r2, h2⟩ => ?_⟩
  refine PR.now h2 rel2 ?_
  show RDs X.K c2 _ _
  unfold RDs
  exact ⟨v, vs, rfl, r1.mono s2, r2⟩
theorem keyed {f : String} {m : CM} {k : Nat} {fa : Addr} {fd : FuncData} {ps : List Str} {q : KwRow} (tk : Takes X W) (hr : Room k X.A) (hgd : X.A.guards = some []) (F : FnG X.prog X.w X.K X.mg X.base (L2.CX X.prog X.w) k fa fd ps (spR X.K X.mg Φ f))
    (hb : KwB X.K fd ps q) {pins : List (Addr × Obj)} {σ : L2.St} {H : Hp} {s : Shared} {Q : VK} {c : Cfg} {us ws : List Value} {vs zs : List V} {ds es : List D} (I : L2.Inv X pins σ H s) (rel : Rel X.K c H) (r1 : RDs X.K c ds vs) (r2 : RDs X.K c es zs)
    (v1 : Vals vs us) (v2 : Vals zs ws) (l1 : us.length = q.np) (l2 : ws.length = q.ks.length) (h : PR X.K X.mg W σ (rD X.K) c H (isoPick Φ f (ds ++ es) q.pm m c.S) Q) :
    wpAny (model X.prog X.w) X.A (call (.ref fa) us ((q.ks.map Str.ofString).zip ws)) (EP X pins σ Q) X.xe s := by
  unfold isoPick at h
  split at h
  · rename_i as he
    obtain ⟨bs, p1, p2⟩ := pick_gen (paired_get (paired_app r1.paired r2.paired)) he
    obtain ⟨cs, p3, p4⟩ := pick_gen (paired_get (paired_app v1 v2)) p1
    exact run_any F hr hgd (passAt tk σ) I (fun hl => hb s us ws cs I.kIn l1 l2 p3 hl) p4 (call_ok rel (RDs.of p2) h)
  · exact h.elim
theorem s_callK {f : String} {x : Str} {m : CM} {k : Nat} {fa : Addr} {fd : FuncData} {ps : List Str} {q : KwRow} {kws : List Keyword} {zs' : Es} (tk : Takes X W) (hr : Room k X.A) (hgd : X.A.guards = some []) (F : FnG X.prog X.w X.K X.mg X.base (L2.CX X.prog X.w) k fa fd ps (spR X.K X.mg Φ f))
    (hg : Gl X x) (hm : X.mg x = some (.ref fa)) (hk : PySem.W.keepIn X.K (.ref fa) = true) (hb : KwB X.K fd ps q) (hd : (x == ("__debug__" : Str)) = false) (hn : kwNames kws = some (q.ks.map Str.ofString)) (hl : nEs es' = q.np) (hz : nEs zs' = q.ks.length) (ns : noStar es = true) (hl2 : es.length = nEs es')
    (ha : PA X es (tEs X.K X.mg Φ W es')) (hkw : PK X kws (tEs X.K X.mg Φ W zs')) :
    PE X (.Call (.Name x p) es kws pos) (tE X.K X.mg Φ W (.callK f es' zs' q.pm m)) := by
  refine ⟨fun pins s σ H Q I h => ?_⟩
  obtain ⟨env, c, rel, er, h⟩ := h
  simp only [evE] at h
  refine wpAny_Call_Name_kw (ld_glob I hg hm ?_ hd)
  obtain ⟨k1, k2, k3, k4⟩ := kw_all (env := X.env) (pos := pos) hn
  cases es with
  | nil =>
    have e0 : es' = .nil := by
      cases es' with
      | nil => rfl
      | cons a r => simp [nEs] at hl2
    subst e0
    simp only [evEs, R.bind_ok, List.nil_append] at h
    refine PySem.W.callWith_KW0 (h₀ := X.base) I.ok.mod.kin hk k1 (thn (hkw.run pos pins s σ H _ I ⟨env, c, rel, er, PR.mono (PR.bindE (RA := rDs X.K) h) fun zs H2 q2 => q2⟩) fun ws s2 hh => ?_) (by rw [k3]; rfl)
    obtain ⟨zs, H2, I2, v2, c2, ds2, e2, rel2, s2, r2, h2⟩ := hh
    refine ⟨I2.kIn, ?_⟩
    rw [k2]
    have l2 : ws.length = q.ks.length := by rw [← Vals.length v2, r2.len, evEs_len _ _ _ _ _ e2, hz]
    exact keyed (ds := []) (vs := []) tk hr hgd F hb I2 rel2 (by unfold RDs; rfl) r2 .nil v2 (by rw [← hl]; rfl) l2 h2
  | cons a r =>
    have ns2 := noStar_cons ns
    refine PySem.W.callWith_KW (h₀ := X.base) I.ok.mod.kin hk k1 (thn (ha.run pos pins s σ H _ I ⟨env, c, rel, er, PR.mono (PR.bindE (RA := rDs X.K) h) fun vs H1 q1 => q1⟩) fun us s1 hh => ?_) (by rw [k3, se_any (a :: r) X.env pos ns]; rfl) (se_cons ns2.1 r X.env)
    obtain ⟨vs, H1, I1, v1, c1, ds1, e1, rel1, st1, r1, h1⟩ := hh
    refine thn (hkw.run pos pins s1 σ H1 _ I1 ⟨env, c1, rel1, er.mono st1, PR.mono (PR.bindE (RA := rDs X.K) h1) fun zs H2 q2 => q2⟩) fun ws s2 hh => ?_
    obtain ⟨zs, H2, I2, v2, c2, ds2, e2, rel2, st2, r2, h2⟩ := hh
    refine ⟨I2.kIn, ?_⟩
    rw [k2]
    have l1 : us.length = q.np := by rw [← Vals.length v1, r1.len, evEs_len _ _ _ _ _ e1, hl]
    have l2 : ws.length = q.ks.length := by rw [← Vals.length v2, r2.len, evEs_len _ _ _ _ _ e2, hz]
    exact keyed tk hr hgd F hb I2 rel2 (r1.mono st2) r2 v1 v2 l1 l2 h2
theorem frz_env {K : PySem.W.Frag} {c : Cfg} {H : Hp} {σ : L2.St} {env : Env} (rel : Rel K c H) (er : EnvR K c σ env) : EnvR K ⟨frzG c H, [], []⟩ σ (frzEnv c.S env) := by
  refine ⟨by unfold frzEnv; simp [er.len], fun i d h => ?_⟩
  unfold frzEnv at h
  rw [List.getElem?_map] at h
  cases e : env[i]? with
  | none => rw [e] at h; simp at h
  | some o =>
    rw [e] at h
    cases o with
    | none => simp at h
    | some d0 =>
      simp only [Option.map_some] at h
      split at h
      · rename_i x hx
        cases h
        obtain ⟨v, q1, q2⟩ := er.get i d0 e
        refine ⟨v, q1, ?_⟩
        unfold RD
        exact frz_ok (c2 := ⟨frzG c H, [], []⟩) rel (frz_ext rel) (fun n a vs _ h1 h2 h3 => frz_live h1 h2 h3) d0 hx q2
      · cases h
theorem s_froz (ha : PE X a (tE X.K X.mg Φ W a')) : PE X a (tE X.K X.mg Φ W (.froz a')) := by
  refine impPE ha fun σ H Q q => ?_
  obtain ⟨env, c, rel, er, h⟩ := q
  simp only [evE] at h
  refine ⟨frzEnv c.S env, ⟨frzG c H, [], []⟩, frz_rel rel, frz_env rel er, ?_⟩
  show PR X.K X.mg W σ (rD X.K) ⟨frzG c H, [], []⟩ H (evE Φ a' (frzEnv c.S env) []) Q
  unfold frzR at h
  split at h
  · rename_i x S1 e2
    split at h
    · rename_i hf
      rw [e2]
      intro v c1 H1 es r1 s1 rd
      obtain ⟨r2, s2⟩ := rel.still r1 s1
      refine h v c H1 rfl r2 s2 ?_
      show RD X.K c _ _
      unfold RD
      exact flat_RT hf rd.t
    · exact h.elim
  · exact h.elim
  · rename_i cl fs S1 e2
    split at h
    · rename_i hf
      rw [e2]
      intro ca dd c1 H1 es r1 s1 hm ex
      obtain ⟨r2, s2⟩ := rel.still r1 s1
      refine h ca dd c H1 rfl r2 s2 hm ?_
      rcases ex with ex | ⟨h0, _⟩
      · exact .inl ex
      · exact absurd (by simpa using hf) h0
    · exact h.elim
  · exact h.elim
end
end Kp
/-! Each form: what is walked. -/
namespace Kp
open PySem L2
def Ext (c c' : Cfg) : Prop := (∀ a o, c.G a = some o → c'.G a = some o) ∧ ∃ more, c'.ρ = c.ρ ++ more
theorem Stp.ext' {c c' : Cfg} {H H' : Hp} (s : Stp c H c' H') : Ext c c' := ⟨s.ext, s.pre⟩
theorem Ext.trans {c c1 c2 : Cfg} (a : Ext c c1) (b : Ext c1 c2) : Ext c c2 := ⟨fun x o h => b.1 x o (a.1 x o h), by
  obtain ⟨m, e⟩ := a.2
  obtain ⟨n, f⟩ := b.2
  exact ⟨m ++ n, by rw [f, e, List.append_assoc]⟩⟩
theorem Ext.refl (c : Cfg) : Ext c c := ⟨fun _ _ h => h, [], (List.append_nil _).symm⟩
/-- what an iterator yields -/
def ItOk (K : PySem.W.Frag) (c : Cfg) (xs : List D) (J : It) : Prop := ∀ c2 H2, Ext c c2 → Rel K c2 H2 →
  (∀ (i : Nat) d, xs[i]? = some d → J.go i H2 ∧ ∀ x H3, J.yld i H2 x H3 → ∃ c3, c3.S = c2.S ∧ Rel K c3 H3 ∧ Stp c2 H2 c3 H3 ∧ RD K c3 d x) ∧ ∀ i : Nat, xs.length ≤ i → J.stop i H2
section
variable {K : PySem.W.Frag} {c : Cfg}
theorem it_list {a : Addr} {xs : List T} {vs : List V} (h : c.G a = some (.lst vs)) (r : RTs K c.G xs vs) : ItOk K c (xs.map .t) (Itl K a) := fun c2 H2 e rel => by
  have hL : SqL K H2 a vs := SqL.of (rel.sub _ _ (e.1 _ _ h))
  have r2 : RDs K c2 (xs.map .t) vs := RTs_RDs (RTs.mono e.1 _ r)
  refine ⟨fun i d hd => ?_, fun i hi => ⟨vs, hL, by rw [r2.len]; exact hi⟩⟩
  obtain ⟨w, q1, q2⟩ := r2.get hd
  refine ⟨⟨vs, w, hL, q1⟩, fun x H3 hy => ?_⟩
  obtain ⟨rfl, hy⟩ := hy
  have := hy vs hL
  rw [q1] at this
  cases this
  exact ⟨c2, rfl, rel, Stp.refl _ rel.len, q2⟩
theorem it_tup {a : Addr} {ds : List D} {vs : List V} (h : SqT K c.G a vs) (r : RDs K c ds vs) : ItOk K c ds (Itt K a) := fun c2 H2 e rel => by
  have hL : SqT K H2 a vs := sqT_mono rel.sub (sqT_mono e.1 h)
  have r2 : RDs K c2 ds vs := RDs.mono' e.1 e.2 _ r
  refine ⟨fun i d hd => ?_, fun i hi => ⟨vs, hL, by rw [r2.len]; exact hi⟩⟩
  obtain ⟨w, q1, q2⟩ := r2.get hd
  refine ⟨⟨vs, w, hL, q1⟩, fun x H3 hy => ?_⟩
  obtain ⟨rfl, hy⟩ := hy
  have := hy vs hL
  rw [q1] at this
  cases this
  exact ⟨c2, rfl, rel, Stp.refl _ rel.len, q2⟩
theorem it_str {s : Cs} : ItOk K c (s.map fun x => D.t (.str [x])) (Its (stC s)) := fun c2 H2 e rel => by
  have hz : (stC s).cps.size = s.length := stC_len s
  refine ⟨fun i d hd => ?_, fun i hi => ?_⟩
  · rw [List.getElem?_map] at hd
    cases e2 : s[i]? with
    | none => rw [e2] at hd; cases hd
    | some x =>
      rw [e2] at hd
      cases hd
      have hi : i < s.length := (List.getElem?_eq_some_iff.mp e2).1
      refine ⟨by show i < (stC s).cps.size; rw [hz]; exact hi, fun y H3 hy => ?_⟩
      obtain ⟨rfl, q, h1, rfl⟩ := hy
      have h2 : (stC s).cps[i]? = some x.toNat := by
        rw [← Array.getElem?_toList, stC_cps, List.getElem?_map, e2]
        rfl
      rw [h2] at h1
      cases h1
      exact ⟨c2, rfl, rel, Stp.refl _ rel.len, RD.mkStr [x]⟩
  · show (stC s).cps.size ≤ i
    rw [hz]
    simpa using hi
theorem it_rng {lo : Int} {n : Nat} : ItOk K c (rngD lo n) (Itr lo n) := fun c2 H2 e rel => by
  have hl : (rngD lo n).length = n := by unfold rngD; simp
  refine ⟨fun i d hd => ?_, fun i hi => by rw [hl] at hi; exact hi⟩
  have hi : i < n := by
    have := (List.getElem?_eq_some_iff.mp hd).1
    rw [hl] at this
    exact this
  have hd' : d = .t (.int (lo + (i : Int))) := by
    unfold rngD at hd
    rw [List.getElem?_map, List.getElem?_range hi] at hd
    cases hd
    rfl
  subst hd'
  refine ⟨hi, fun x H3 hy => ?_⟩
  obtain ⟨rfl, rfl⟩ := hy
  exact ⟨c2, rfl, rel, Stp.refl _ rel.len, RD.mkInt _⟩
theorem enumL_get : ∀ (xs : List T) (k i : Nat) (d : D), (enumL k xs)[i]? = some d → ∃ x, xs[i]? = some x ∧ d = .t (.tup [.int ((k + i : Nat) : Int), x])
  | [], k, i, d, h => by simp [enumL] at h
  | x :: r, k, 0, d, h => by
    simp [enumL] at h
    exact ⟨x, rfl, h.symm⟩
  | x :: r, k, i + 1, d, h => by
    have h' : (enumL (k + 1) r)[i]? = some d := by simpa [enumL] using h
    obtain ⟨y, h1, h2⟩ := enumL_get r (k + 1) i d h'
    refine ⟨y, by simpa using h1, ?_⟩
    rw [h2, show k + 1 + i = k + (i + 1) by omega]
theorem enumL_len : ∀ (xs : List T) (k : Nat), (enumL k xs).length = xs.length
  | [], _ => rfl
  | x :: r, k => by simp [enumL, enumL_len r (k + 1)]
theorem zipL_get : ∀ (xs ys : List T) (i : Nat) (d : D), (zipL xs ys)[i]? = some d → ∃ x y, xs[i]? = some x ∧ ys[i]? = some y ∧ d = .t (.tup [x, y])
  | [], ys, i, d, h => by simp [zipL] at h
  | x :: r, [], i, d, h => by simp [zipL] at h
  | x :: r, y :: w, 0, d, h => by
    simp [zipL] at h
    exact ⟨x, y, rfl, rfl, h.symm⟩
  | x :: r, y :: w, i + 1, d, h => by
    have h' : (zipL r w)[i]? = some d := by simpa [zipL] using h
    obtain ⟨x', y', h1, h2, h3⟩ := zipL_get r w i d h'
    exact ⟨x', y', by simpa using h1, by simpa using h2, h3⟩
theorem zipL_len : ∀ (xs ys : List T), (zipL xs ys).length = min xs.length ys.length
  | [], ys => by simp [zipL]
  | x :: r, [] => by simp [zipL]
  | x :: r, y :: w => by
    simp [zipL, zipL_len r w]
theorem RTs.two {G : Hp} {x y : T} {v u : V} (h : RT K G x v) (q : RT K G y u) : RTs K G [x, y] [v, u] := by
  unfold RTs
  exact ⟨v, [u], rfl, h, RTs.one q⟩
/-- a new pair -/
theorem pair_ok {c2 : Cfg} {H2 H3 : Hp} {x y : T} {v u w : V} {P : Addr} (rel : Rel K c2 H2) (e1 : w = .ref P) (e2 : H2 P = none) (e3 : H3 = upd H2 P (.tup [v, u])) (rx : RT K c2.G x v) (ry : RT K c2.G y u) :
    ∃ c3, c3.S = c2.S ∧ Rel K c3 H3 ∧ Stp c2 H2 c3 H3 ∧ RD K c3 (.t (.tup [x, y])) w := by
  subst e1 e3
  obtain ⟨r3, s3⟩ := rel.lay (o := .tup [v, u]) e2
  refine ⟨⟨upd c2.G P (.tup [v, u]), c2.ρ, c2.S⟩, rfl, r3, s3, ?_⟩
  unfold RD RT
  exact ⟨P, [v, u], rfl, .inl (.inl upd_same), RTs.two (RT.mono s3.ext _ rx) (RT.mono s3.ext _ ry)⟩
theorem it_enum {a : Addr} {xs : List T} {vs : List V} (h : c.G a = some (.lst vs)) (r : RTs K c.G xs vs) : ItOk K c (enumL 0 xs) (Ite K a) := fun c2 H2 e rel => by
  have hL : SqL K H2 a vs := SqL.of (rel.sub _ _ (e.1 _ _ h))
  have r2 : RDs K c2 (xs.map .t) vs := RTs_RDs (RTs.mono e.1 _ r)
  refine ⟨fun i d hd => ?_, fun i hi => ⟨vs, hL, by rw [r2.len]; rw [enumL_len] at hi; simpa using hi⟩⟩
  obtain ⟨x, hx, rfl⟩ := enumL_get xs 0 i d hd
  obtain ⟨w, q1, q2⟩ := r2.get (i := i) (d := .t x) (by rw [List.getElem?_map, hx]; rfl)
  refine ⟨⟨vs, w, hL, q1⟩, fun y H3 hy => ?_⟩
  obtain ⟨P, z, h1, h2, h3, h4⟩ := hy
  have e5 := h4 vs hL
  rw [q1] at e5
  cases e5
  refine pair_ok rel h1 h2 h3 ?_ q2.t
  unfold RT
  rw [Nat.zero_add]
theorem it_zip {a b : Addr} {xs ys : List T} {vs us : List V} (h : c.G a = some (.lst vs)) (r : RTs K c.G xs vs) (h' : c.G b = some (.lst us)) (r' : RTs K c.G ys us) : ItOk K c (zipL xs ys) (Itz K a b) := fun c2 H2 e rel => by
  have hL : SqL K H2 a vs := SqL.of (rel.sub _ _ (e.1 _ _ h))
  have hL' : SqL K H2 b us := SqL.of (rel.sub _ _ (e.1 _ _ h'))
  have r2 : RDs K c2 (xs.map .t) vs := RTs_RDs (RTs.mono e.1 _ r)
  have r2' : RDs K c2 (ys.map .t) us := RTs_RDs (RTs.mono e.1 _ r')
  have l1 := r2.len
  have l2 := r2'.len
  simp only [List.length_map] at l1 l2
  refine ⟨fun i d hd => ?_, fun i hi => ⟨vs, us, hL, hL', by rw [zipL_len] at hi; rw [l1, l2]; omega⟩⟩
  obtain ⟨x, y, hx, hy, rfl⟩ := zipL_get xs ys i d hd
  obtain ⟨w, q1, q2⟩ := r2.get (i := i) (d := .t x) (by rw [List.getElem?_map, hx]; rfl)
  obtain ⟨w', q1', q2'⟩ := r2'.get (i := i) (d := .t y) (by rw [List.getElem?_map, hy]; rfl)
  refine ⟨⟨vs, us, w, w', hL, hL', q1, q1'⟩, fun z H3 hz => ?_⟩
  obtain ⟨P, v1, v2, h1, h2, h3, h4, h5⟩ := hz
  have e5 := h4 vs hL
  rw [q1] at e5
  cases e5
  have e6 := h5 us hL'
  rw [q1'] at e6
  cases e6
  exact pair_ok rel h1 h2 h3 q2.t q2'.t
end
section
variable {X : Cx} {Φ : Kp.Or} {W : WX} {a b d tg : PySem.Expr} {a' b' d' : E} {pos p : Pos}
/-- the reading of what is walked -/
def tI (K : PySem.W.Frag) (mg : Str → Option Value) (Φ : Kp.Or) (W : WX) (it : I) : TI := fun σ H Q => ∃ env c, Rel K c H ∧ EnvR K c σ env ∧ PR K mg W σ (fun c xs J => ItOk K c xs J) c H (evI Φ it env c.S) Q
theorem i_any (ha : PE X a (tE X.K X.mg Φ W a')) : PI X tg a (tI X.K X.mg Φ W (.any a')) := by
  refine impPI (orPI (pi_list ha) (orPI (pi_tup ha) (pi_str ha))) fun σ H Q q => ?_
  obtain ⟨env, c, rel, er, h⟩ := q
  simp only [evI] at h
  have h0 : ∃ r, evE Φ a' env c.S = r := ⟨_, rfl⟩
  obtain ⟨r0, e0⟩ := h0
  rw [e0] at h
  cases r0 with
  | stuck => exact h.elim
  | exc cl fs S' => exact .inl ⟨env, c, rel, er, by rw [e0]; exact h⟩
  | ok z S' =>
    cases z with
    | t z =>
      cases z with
      | lst xs =>
        refine .inl ⟨env, c, rel, er, ?_⟩
        rw [e0]
        intro v c1 H1 es rel1 s1 r1
        have q := r1.t
        unfold RT at q
        obtain ⟨a, vs, rfl, q2, q3⟩ := q
        exact ⟨a, rfl, ⟨vs, SqL.of (rel1.sub _ _ q2)⟩, h _ c1 H1 es rel1 s1 (it_list q2 q3)⟩
      | tup xs =>
        refine .inr (.inl ⟨env, c, rel, er, ?_⟩)
        rw [e0]
        intro v c1 H1 es rel1 s1 r1
        have q := r1.t
        unfold RT at q
        obtain ⟨a, vs, rfl, q2, q3⟩ := q
        exact ⟨a, rfl, ⟨vs, sqT_mono rel1.sub q2⟩, h _ c1 H1 es rel1 s1 (it_tup q2 (RTs_RDs q3))⟩
      | str s =>
        refine .inr (.inr ⟨env, c, rel, er, ?_⟩)
        rw [e0]
        intro v c1 H1 es rel1 s1 r1
        have q := r1.t
        unfold RT at q
        subst q
        exact ⟨stC s, rfl, h _ c1 H1 es rel1 s1 it_str⟩
      | non => exact h.elim
      | bl b => exact h.elim
      | int i => exact h.elim
      | dct ks xs => exact h.elim
      | scr ns => exact h.elim
    | tp ds =>
      refine .inr (.inl ⟨env, c, rel, er, ?_⟩)
      rw [e0]
      intro v c1 H1 es rel1 s1 r1
      unfold RD at r1
      obtain ⟨a, vs, rfl, q2, q3⟩ := r1
      exact ⟨a, rfl, ⟨vs, sqT_mono rel1.sub q2⟩, h _ c1 H1 es rel1 s1 (it_tup q2 q3)⟩
    | ref n => exact h.elim
    | exc cl fs => exact h.elim
theorem mid_ok {j : Int} (h : isMid j = true) : -(2 ^ 62) ≤ j ∧ j < 2 ^ 62 := by
  have := isMid_iff.mp h
  omega
theorem i_rng1 (hg : Gl X "range") (hm : X.mg "range" = none) (hs : isStar a = false) (ha : PE X a (tE X.K X.mg Φ W a')) : PI X tg (.Call (.Name "range" p) [a] [] pos) (tI X.K X.mg Φ W (.rng1 a')) := by
  refine impPI (pi_range1 hg hm (pa_cons ha pa_nil (se_cons hs _ X.env)) (by rw [se_cons hs]; rfl)) fun σ H Q q => ?_
  obtain ⟨env, c, rel, er, h⟩ := q
  simp only [evI] at h
  refine ⟨env, c, rel, er, PR.mono (PR.bind (RA := rD X.K) h) fun v H1 ⟨c1, x, rel1, s1, r1, h1⟩ => ?_⟩
  split at h1
  · rename_i j hj
    split at h1
    · rename_i hm
      obtain ⟨m1, m2⟩ := mid_ok hm
      exact ⟨j, by rw [r1.int hj], m1, m2, PR.now h1 rel1 it_rng⟩
    · exact h1.elim
  · exact h1.elim
theorem i_rng2 (hg : Gl X "range") (hm : X.mg "range" = none) (hs : isStar a = false) (hs2 : isStar b = false) (ha : PE X a (tE X.K X.mg Φ W a')) (hb : PE X b (tE X.K X.mg Φ W b')) : PI X tg (.Call (.Name "range" p) [a, b] [] pos) (tI X.K X.mg Φ W (.rng2 a' b')) := by
  refine impPI (pi_range2 hg hm (pa_cons ha (pa_cons hb pa_nil (se_cons hs2 _ X.env)) (se_cons hs _ X.env)) (by rw [se_cons hs, se_cons hs2]; rfl) (by rw [se_cons hs2]; rfl)) fun σ H Q q => ?_
  obtain ⟨env, c, rel, er, h⟩ := q
  simp only [evI] at h
  refine ⟨env, c, rel, er, PR.mono (PR.bind (RA := rD X.K) h) fun v H1 ⟨c1, x, rel1, s1, r1, h1⟩ => ?_⟩
  refine ⟨env, c1, rel1, er.mono s1, PR.mono (PR.bind (RA := rD X.K) h1) fun u H2 ⟨c2, y, rel2, s2, r2, h2⟩ => ?_⟩
  split at h2
  · rename_i i j hi hj
    split at h2
    · rename_i hm
      simp only [Bool.and_eq_true] at hm
      obtain ⟨m1, m2⟩ := mid_ok hm.1
      obtain ⟨m3, m4⟩ := mid_ok hm.2
      exact ⟨i, j, by rw [r1.int hi, r2.int hj], ⟨m1, m2, m3, m4⟩, PR.now h2 rel2 it_rng⟩
    · exact h2.elim
  · exact h2.elim
theorem lst_at {K : PySem.W.Frag} {c : Cfg} {xs : List T} {v : V} (r : RD K c (.t (.lst xs)) v) : ∃ a vs, v = .ref a ∧ c.G a = some (.lst vs) ∧ RTs K c.G xs vs := by
  have q := r.t
  unfold RT at q
  exact q
theorem i_enum {elts : List PySem.Expr} {kk : Nat} {tpos : Pos} (hg : Gl X "enumerate") (hm : X.mg "enumerate" = none) (hs : isStar a = false) (ha : PE X a (tE X.K X.mg Φ W a')) : PI X (.Tuple elts kk tpos) (.Call (.Name "enumerate" p) [a] [] pos) (tI X.K X.mg Φ W (.enum a')) := by
  refine impPI (pi_enum hg hm (pa_cons ha pa_nil (se_cons hs _ X.env)) (by rw [se_cons hs]; rfl)) fun σ H Q q => ?_
  obtain ⟨env, c, rel, er, h⟩ := q
  simp only [evI] at h
  refine ⟨env, c, rel, er, PR.mono (PR.bind (RA := rD X.K) h) fun v H1 ⟨c1, x, rel1, s1, r1, h1⟩ => ?_⟩
  split at h1
  · rename_i xs
    obtain ⟨a, vs, rfl, q2, q3⟩ := lst_at r1
    exact ⟨a, vs, rfl, SqL.of (rel1.sub _ _ q2), PR.now h1 rel1 (it_enum q2 q3)⟩
  · exact h1.elim
theorem i_zip {elts : List PySem.Expr} {kk : Nat} {tpos : Pos} (hg : Gl X "zip") (hm : X.mg "zip" = none) (hs : isStar a = false) (hs2 : isStar b = false) (ha : PE X a (tE X.K X.mg Φ W a')) (hb : PE X b (tE X.K X.mg Φ W b')) :
    PI X (.Tuple elts kk tpos) (.Call (.Name "zip" p) [a, b] [] pos) (tI X.K X.mg Φ W (.zip a' b')) := by
  refine impPI (pi_zip hg hm (pa_cons ha (pa_cons hb pa_nil (se_cons hs2 _ X.env)) (se_cons hs _ X.env)) (se_cons hs _ X.env) (by rw [se_cons hs2]; rfl)) fun σ H Q q => ?_
  obtain ⟨env, c, rel, er, h⟩ := q
  simp only [evI] at h
  refine ⟨env, c, rel, er, PR.mono (PR.bind (RA := rD X.K) h) fun v H1 ⟨c1, x, rel1, s1, r1, h1⟩ => ?_⟩
  refine ⟨env, c1, rel1, er.mono s1, PR.mono (PR.bind (RA := rD X.K) h1) fun u H2 ⟨c2, y, rel2, s2, r2, h2⟩ => ?_⟩
  split at h2
  · rename_i xs ys
    obtain ⟨a, vs, rfl, q2, q3⟩ := lst_at (r1.mono s2)
    obtain ⟨b, us, rfl, q2', q3'⟩ := lst_at r2
    exact ⟨a, b, vs, us, rfl, SqL.of (rel2.sub _ _ q2), SqL.of (rel2.sub _ _ q2'), PR.now h2 rel2 (it_zip q2 q3 q2' q3')⟩
  · exact h2.elim
end
end Kp
/-! Comprehensions. -/
namespace Kp
open PySem L2
section
variable {K : PySem.W.Frag} {c c1 : Cfg} {H H1 : Hp} {q : Addr} {o : HO}
theorem known_ne {a : Addr} {u : HO} (h : H a = some u) (hq : ∀ n : Nat, c.ρ[n]? = some q → ¬ live c.S n) (rel : Rel K c H) {n : Nat} (h1 : c.ρ[n]? = some a) (l : live c.S n) : a ≠ q := fun z => by
  subst z
  exact hq n h1 l
/-- an object that isn't told of changes -/
theorem Rel.foreign (rel : Rel K c H) (hg : c.G q = none) (hq : ∀ n : Nat, c.ρ[n]? = some q → ¬ live c.S n) : Rel K c (upd H q o) := by
  refine ⟨fun a u h => ?_, rel.len, fun n x a h1 h2 h3 => ?_, rel.inj⟩
  · have e : a ≠ q := fun z => by rw [z, hg] at h; cases h
    rw [upd_ne e]
    exact rel.sub a u h
  · obtain ⟨g, r⟩ := rel.cellAt h1 h2 h3
    have e : a ≠ q := fun z => by
      subst z
      exact hq n h2 ⟨x, h1, h3⟩
    refine ⟨g, ?_⟩
    cases x with
    | gone => exact absurd rfl h3
    | lst xs =>
      unfold RC at r ⊢
      rw [upd_ne e]
      exact r
    | lsr xs =>
      unfold RC at r ⊢
      rw [upd_ne e]
      exact r
    | dcr ks ds => unfold RC at r; exact r.elim
    | ins cl fs => unfold RC at r; exact r.elim
theorem Stp.foreign (s : Stp c1 H1 c H) (h : H1 q = none) : Stp c1 H1 c (upd H q o) := by
  refine ⟨s.ext, s.new, s.pre, fun a u e => ?_, fun a u e n => ?_, s.fresh, s.liv⟩
  · by_cases z : a = q
    · rw [z]; exact ⟨o, upd_same⟩
    · rw [upd_ne z]; exact s.dom a u e
  · have z : a ≠ q := fun z => by rw [z, h] at e; cases e
    rw [upd_ne z]
    exact s.frm a u e n
/-- an object that isn't told of, behind a step -/
structure Apart (c : Cfg) (H : Hp) (q : Addr) (o : HO) : Prop where
  at_ : H q = some o
  g : c.G q = none
  nl : ∀ n : Nat, c.ρ[n]? = some q → ¬ live c.S n
theorem Apart.step (A : Apart c1 H1 q o) (s : Stp c1 H1 c H) : Apart c H q o := by
  refine ⟨s.frm q o A.at_ A.nl, ?_, fun n h l => ?_⟩
  · cases e : c.G q with
    | none => rfl
    | some u =>
      rcases s.new q u e with z | z | ⟨n, z, l⟩
      · rw [A.g] at z; cases z
      · rw [A.at_] at z; cases z
      · exact absurd l (A.nl n z)
  · by_cases hn : n < c1.ρ.length
    · exact A.nl n (s.back h hn) (s.liv n hn l)
    · have z := s.fresh n q (by omega) h
      rw [A.at_] at z
      cases z
theorem Apart.set (A : Apart c H q o) (o' : HO) : Apart c (upd H q o') q o' := ⟨upd_same, A.g, A.nl⟩
/-- it is told of: as a tree | as a cell -/
theorem Apart.lay (A : Apart c H q o) (rel : Rel K c H) (s : Stp c1 H1 c H) (h : H1 q = none) : Rel K ⟨upd c.G q o, c.ρ, c.S⟩ H ∧ Stp c1 H1 ⟨upd c.G q o, c.ρ, c.S⟩ H := by
  have ext : ∀ a u, c.G a = some u → upd c.G q o a = some u := fun a u e => by
    have z : a ≠ q := fun z => by rw [z, A.g] at e; cases e
    rw [upd_ne z]; exact e
  refine ⟨⟨fun a u e => ?_, rel.len, fun n x a h1 h2 h3 => ?_, rel.inj⟩, ⟨fun a u e => ext a u (s.ext a u e), fun a u e => ?_, s.pre, s.dom, s.frm, s.fresh, s.liv⟩⟩
  · by_cases z : a = q
    · subst z
      have e' : upd c.G a o a = some u := e
      rw [upd_same] at e'
      rw [A.at_]
      exact e'
    · have e' : upd c.G q o a = some u := e
      rw [upd_ne z] at e'
      exact rel.sub a u e'
  · obtain ⟨g, r⟩ := rel.cellAt h1 h2 h3
    have z : a ≠ q := fun z => by
      subst z
      exact A.nl n h2 ⟨x, h1, h3⟩
    refine ⟨?_, ?_⟩
    · show upd c.G q o a = none
      rw [upd_ne z]; exact g
    · cases x with
      | gone => exact absurd rfl h3
      | lst xs =>
        unfold RC at r ⊢
        obtain ⟨vs, r1, r2⟩ := r
        exact ⟨vs, r1, RTs.mono ext _ r2⟩
      | lsr xs =>
        unfold RC at r ⊢
        obtain ⟨vs, r1, r2⟩ := r
        exact ⟨vs, r1, RDs.mono' (c := c) (c1 := ⟨upd c.G q o, c.ρ, c.S⟩) ext ⟨[], (List.append_nil _).symm⟩ _ r2⟩
      | dcr ks ds => unfold RC at r; exact r.elim
      | ins cl fs => unfold RC at r; exact r.elim
  · by_cases z : a = q
    · rw [z]; exact .inr (.inl h)
    · have e' : upd c.G q o a = some u := e
      rw [upd_ne z] at e'
      exact s.new a u e'
theorem Apart.cell {vs : List V} {x : Cell} (A : Apart c H q (.lst vs)) (rel : Rel K c H) (s : Stp c1 H1 c H) (h : H1 q = none) (hx : x ≠ .gone) (hc : ∀ c', (∀ a o, c.G a = some o → c'.G a = some o) → (∃ more, c'.ρ = c.ρ ++ more) → RC K c' H q x) :
    Rel K ⟨c.G, c.ρ ++ [q], c.S ++ [x]⟩ H ∧ Stp c1 H1 ⟨c.G, c.ρ ++ [q], c.S ++ [x]⟩ H := by
  have pre : ∃ more, c.ρ ++ [q] = c.ρ ++ more := ⟨[q], rfl⟩
  have lv : ∀ n, n < c.S.length → live (c.S ++ [x]) n → live c.S n := fun n hn ⟨y, h1, h2⟩ => ⟨y, by rw [List.getElem?_append_left hn] at h1; exact h1, h2⟩
  have old : ∀ (n : Nat) a, (c.ρ ++ [q])[n]? = some a → n < c.ρ.length → c.ρ[n]? = some a := fun n a h hn => by rw [List.getElem?_append_left hn] at h; exact h
  have last : ∀ (n : Nat) a, (c.ρ ++ [q])[n]? = some a → ¬ n < c.ρ.length → n = c.ρ.length ∧ a = q := fun n a h hn => by
    have en : n = c.ρ.length := by have := (List.getElem?_eq_some_iff.mp h).1; simp at this; omega
    rw [en, List.getElem?_concat_length] at h
    cases h
    exact ⟨en, rfl⟩
  refine ⟨⟨rel.sub, by simp [rel.len], fun n y a h1 h2 h3 => ?_, fun n m a h1 h2 l1 l2 => ?_⟩,
    ⟨s.ext, s.new, ?_, s.dom, s.frm, fun n a h1 h2 => ?_, fun n hn l => s.liv n hn (lv n (by rw [← rel.len]; exact Nat.lt_of_lt_of_le hn s.len_le) l)⟩⟩
  · by_cases hn : n < c.S.length
    · have h1' : c.S[n]? = some y := by
        have h1 : (c.S ++ [x])[n]? = some y := h1
        rw [List.getElem?_append_left hn] at h1; exact h1
      have h2' := old n a h2 (by rw [rel.len]; exact hn)
      obtain ⟨g, r⟩ := rel.cellAt h1' h2' h3
      refine ⟨g, ?_⟩
      cases y with
      | gone => exact absurd rfl h3
      | lst xs => unfold RC at r ⊢; exact r
      | lsr ds =>
        unfold RC at r ⊢
        obtain ⟨ws, q1, q2⟩ := r
        exact ⟨ws, q1, RDs.mono' (c := c) (c1 := ⟨c.G, c.ρ ++ [q], c.S ++ [x]⟩) (fun _ _ h => h) pre _ q2⟩
      | dcr ks ds => unfold RC at r; exact r.elim
      | ins cl fs => unfold RC at r; exact r.elim
    · obtain ⟨en, ea⟩ := last n a h2 (by rw [rel.len]; exact hn)
      subst ea
      have h1' : (c.S ++ [x])[n]? = some y := h1
      rw [en, rel.len, List.getElem?_concat_length] at h1'
      cases h1'
      exact ⟨A.g, hc _ (fun _ _ h => h) pre⟩
  · by_cases hn : n < c.ρ.length
    · by_cases hm : m < c.ρ.length
      · exact rel.inj n m a (old n a h1 hn) (old m a h2 hm) (lv n (by rw [← rel.len]; exact hn) l1) (lv m (by rw [← rel.len]; exact hm) l2)
      · exfalso
        obtain ⟨em, ea⟩ := last m a h2 hm
        subst ea
        exact A.nl n (old n a h1 hn) (lv n (by rw [← rel.len]; exact hn) l1)
    · obtain ⟨en, ea⟩ := last n a h1 hn
      subst ea
      by_cases hm : m < c.ρ.length
      · exfalso
        exact A.nl m (old m a h2 hm) (lv m (by rw [← rel.len]; exact hm) l2)
      · obtain ⟨em, _⟩ := last m a h2 hm
        rw [en, em]
  · obtain ⟨m, e⟩ := s.pre
    exact ⟨m ++ [q], by show c.ρ ++ [q] = _; rw [e, List.append_assoc]⟩
  · by_cases hn : n < c.ρ.length
    · exact s.fresh n a h1 (old n a h2 hn)
    · obtain ⟨_, ea⟩ := last n a h2 hn
      subst ea
      exact h
end
/-! ### the slots of a comprehension -/
theorem wipe_get (σ : L2.St) : ∀ (vs : List Nat) (i : Nat), (wipe σ vs)[i]? = if i ∈ vs ∧ i < σ.length then some none else σ[i]?
  | [], i => by simp [wipe]
  | v :: vs, i => by
    unfold wipe
    by_cases e : v = i
    · subst e
      by_cases hl : v < σ.length
      · rw [List.getElem?_set_self (by rw [wipe_length]; exact hl), if_pos ⟨List.mem_cons_self, hl⟩]
      · rw [if_neg (fun z => hl z.2), List.getElem?_eq_none (by rw [List.length_set, wipe_length]; omega), List.getElem?_eq_none (by omega)]
    · rw [List.getElem?_set_ne e, wipe_get σ vs i]
      have : (i ∈ v :: vs) ↔ i ∈ vs := by
        simp only [List.mem_cons, or_iff_right_iff_imp]
        intro z
        exact absurd z.symm e
      simp only [this]
theorem wipe_keeps {σ σ2 : L2.St} {vs l : List Nat} (k : Keeps l (wipe σ vs) σ2) (h : ∀ i, i ∈ l → i ∈ vs) : wipe σ2 vs = wipe σ vs := by
  have hl : σ2.length = σ.length := by rw [k.1, wipe_length]
  apply List.ext_getElem?
  intro i
  rw [wipe_get, wipe_get, hl]
  by_cases hi : i ∈ vs ∧ i < σ.length
  · rw [if_pos hi, if_pos hi]
  · rw [if_neg hi, if_neg hi]
    by_cases hv : i ∈ vs
    · have : ¬ i < σ.length := fun z => hi ⟨hv, z⟩
      rw [List.getElem?_eq_none (by omega), List.getElem?_eq_none (by omega)]
    · rw [k.2 i (fun z => hv (h i z)), wipe_get, if_neg hi]
theorem EnvR.wiped {K : PySem.W.Frag} {c : Cfg} {σ : L2.St} {env : Env} (e : EnvR K c σ env) : ∀ vs : List Nat, EnvR K c (wipe σ vs) (wipeE env vs)
  | [] => e
  | v :: vs => by
    have r := EnvR.wiped e vs
    refine ⟨by simp [wipe, wipeE, r.len], fun i d h => ?_⟩
    unfold wipeE at h
    unfold wipe
    by_cases q : v = i
    · subst q
      have hi : v < (wipeE env vs).length := by
        have := (List.getElem?_eq_some_iff.mp h).1
        simpa using this
      rw [List.getElem?_set_self hi] at h
      cases h
    · rw [List.getElem?_set_ne q] at h ⊢
      exact r.get i d h
theorem lcL_noexc (f : D → Sto → R (Option D)) : ∀ (xs : List D) (S : Sto) (cl : String) (fs : List (String × T)) (S' : Sto), lcL f xs S ≠ .exc cl fs S'
  | [], S, cl, fs, S', h => by
    unfold lcL at h
    cases h
  | x :: xs, S, cl, fs, S', h => by
    unfold lcL at h
    split at h
    · split at h
      · cases h
      · cases h
    · cases h
section
variable {X : Cx} {Φ : Kp.Or} {W : WX}
/-- a comprehension's test -/
def tQ (K : PySem.W.Frag) (mg : Str → Option Value) (Φ : Kp.Or) (W : WX) (c : Eo) : TT := fun σ H Q => ∃ env cf, Rel K cf H ∧ EnvR K cf σ env ∧ PR K mg W σ rB cf H (evC Φ c env cf.S) Q
theorem impPTs {ifs : List PySem.Expr} {t t' : TT} (h : PTs X ifs t') (i : ∀ σ H Q, t σ H Q → t' σ H Q) : PTs X ifs t := ⟨fun pins s σ H Q I q => h.run pins s σ H Q I (i σ H Q q)⟩
theorem q_no : PTs X [] (tQ X.K X.mg Φ W .no) := by
  refine impPTs pts_nil fun σ H Q q => ?_
  obtain ⟨env, c, rel, er, h⟩ := q
  simp only [evC] at h
  exact PR.now h rel rfl
theorem q_yes {a : PySem.Expr} {a' : E} (h : PT X a (tT X.K X.mg Φ W a')) : PTs X [a] (tQ X.K X.mg Φ W (.yes a')) := by
  refine impPTs (pts_one h) fun σ H Q q => ?_
  obtain ⟨env, c, rel, er, h⟩ := q
  simp only [evC] at h
  exact ⟨env, c, rel, er, h⟩
abbrev W0 : WX := fun _ _ _ _ => False
theorem RDs.app : ∀ {K : PySem.W.Frag} {c : Cfg} {xs ys : List D} {vs ws : List V}, RDs K c xs vs → RDs K c ys ws → RDs K c (xs ++ ys) (vs ++ ws)
  | K, c, [], ys, vs, ws, h, q => by
    unfold RDs at h
    subst h
    exact q
  | K, c, x :: xs, ys, vs, ws, h, q => by
    unfold RDs at h
    obtain ⟨v, r, rfl, h2, h3⟩ := h
    show RDs K c (x :: (xs ++ ys)) (v :: (r ++ ws))
    unfold RDs
    exact ⟨v, r ++ ws, rfl, h2, RDs.app h3 q⟩
theorem RDs.sing {K : PySem.W.Frag} {c : Cfg} {x : D} {v : V} (h : RD K c x v) : RDs K c [x] [v] := by
  unfold RDs
  refine ⟨v, [], rfl, h, ?_⟩
  unfold RDs
  rfl
/-- one item's part -/
def lcF (Φ : Kp.Or) (e : E) (own : List Nat) (tg : Tg) (cd : Eo) (env : Env) : D → Sto → R (Option D) := fun x S => match setTg tg x (wipeE env own) with
  | none => .stuck
  | some env' => (evC Φ cd env' S).bind fun r S => if r then (evE Φ e env' S).bind fun d S => .ok (some d) S else .ok none S
theorem lc_ok {K : PySem.W.Frag} {mg : Str → Option Value} {e : E} {own : List Nat} {tg : Tg} {it : I} {cd : Eo} {bb : Bool} (ho : ∀ i, i ∈ tgSl tg → i ∈ own) {σ : L2.St} {H : Hp} {Q : VK} (q : tF K mg Φ W bb (.lc e own tg it cd) σ H Q) :
    tLc (tI K mg Φ W it) (gT K tg) (tQ K mg Φ W0 cd) (tE K mg Φ W0 e) own σ H Q := by
  obtain ⟨env, c, rel, er, h⟩ := q
  have h : PR K mg W σ (rD K) c H ((evI Φ it env c.S).bind fun xs S => (lcL (lcF Φ e own tg cd env) xs S).bind fun ds S => (if ds.length ≤ lim then opt (mkLst ds) S else .stuck).bind (fin bb)) Q := by
    have h' := h
    simp only [evE, R.bind_assoc] at h'
    exact h'
  refine ⟨env, c, rel, er, PR.mono (PR.bind (RA := fun c xs J => ItOk K c xs J) h) fun J H1 ⟨c1, xs, rel1, s1, hit, h1⟩ => ?_⟩
  intro q hq
  -- the walk ends well
  obtain ⟨tot, Sf, hlc⟩ : ∃ tot Sf, lcL (lcF Φ e own tg cd env) xs c1.S = .ok tot Sf := by
    cases z : lcL (lcF Φ e own tg cd env) xs c1.S with
    | ok a S => exact ⟨a, S, rfl⟩
    | exc cl fs S => exact absurd z (lcL_noexc _ _ _ _ _ _)
    | stuck => rw [z] at h1; exact h1.elim
  rw [hlc] at h1
  simp only [R.bind_ok] at h1
  have hlen : tot.length ≤ lim := by
    by_cases z : tot.length ≤ lim
    · exact z
    · rw [if_neg z] at h1
      exact h1.elim
  rw [if_pos hlen] at h1
  refine ⟨fun i m H' => i ≤ xs.length ∧ m = xs.length - i ∧ ∃ c2 acc ds rs, Rel K c2 H' ∧ Stp c1 H1 c2 H' ∧ Apart c2 H' q (.lst acc) ∧ RDs K c2 ds acc ∧ lcL (lcF Φ e own tg cd env) (xs.drop i) c2.S = .ok rs Sf ∧ tot = ds ++ rs, ⟨_, Nat.zero_le _, rfl, c1, [], [], tot, ?_, ?_, ?_, ?_, by simpa using hlc, rfl⟩, fun i m H' hW => ?_⟩
  · refine rel1.foreign ?_ fun n hn l => ?_
    · cases z : c1.G q with
      | none => rfl
      | some o => have := rel1.sub q o z; rw [hq] at this; cases this
    · obtain ⟨u, hu⟩ := rel1.known hn l
      rw [hq] at hu
      cases hu
  · exact (Stp.refl H1 rel1.len).foreign hq
  · refine ⟨upd_same, ?_, fun n hn l => ?_⟩
    · cases z : c1.G q with
      | none => rfl
      | some o => have := rel1.sub q o z; rw [hq] at this; cases this
    · obtain ⟨u, hu⟩ := rel1.known hn l
      rw [hq] at hu
      cases hu
  · unfold RDs
    rfl
  · obtain ⟨hi, hm, c2, acc, ds, rs, rel2, s2, A, rds, hr, ht⟩ := hW
    obtain ⟨hgo, hstop⟩ := hit c2 H' s2.ext' rel2
    by_cases hlt : i < xs.length
    · -- an item
      right
      obtain ⟨d, hd⟩ : ∃ d, xs[i]? = some d := ⟨xs[i], List.getElem?_eq_getElem hlt⟩
      obtain ⟨go, yld⟩ := hgo i d hd
      have hdrop : xs.drop i = d :: xs.drop (i + 1) := by
        rw [List.drop_eq_getElem_cons hlt]
        rw [List.getElem?_eq_getElem hlt] at hd
        cases hd
        rfl
      rw [hdrop] at hr
      unfold lcL at hr
      split at hr
      · rename_i o S1 hf
        split at hr
        · rename_i rs' S2 hrest
          cases hr
          refine ⟨go, fun H'' => i + 1 ≤ xs.length ∧ ∃ c2 acc ds rs, Rel K c2 H'' ∧ Stp c1 H1 c2 H'' ∧ Apart c2 H'' q (.lst acc) ∧ RDs K c2 ds acc ∧ lcL (lcF Φ e own tg cd env) (xs.drop (i + 1)) c2.S = .ok rs Sf ∧ tot = ds ++ rs,
            fun H'' hN => ⟨xs.length - (i + 1), by omega, hN.1, rfl, hN.2⟩, fun x H3 hy => ?_⟩
          obtain ⟨c3, es3, rel3, s3, rd3⟩ := yld x H3 hy
          unfold lcF at hf
          split at hf
          · cases hf
          · rename_i env' henv
            refine ⟨wipeE env own, c3, d, env', rel3, (((er.mono s1).mono s2).mono s3).wiped own, rd3, henv, fun σ2 er2 kp => ⟨wipe_keeps kp ho, ?_⟩⟩
            refine ⟨env', c3, rel3, er2, ?_⟩
            rw [← es3] at hf
            have h0 : ∃ r, evC Φ cd env' c3.S = r := ⟨_, rfl⟩
            obtain ⟨r0, e0⟩ := h0
            rw [e0] at hf ⊢
            cases r0 with
            | stuck => cases hf
            | exc cl fs S => cases hf
            | ok r S3 =>
              intro b c4 H4 es4 rel4 s4 hb
              have hb : r = b := hb
              subst hb
              subst es4
              simp only [R.bind_ok] at hf
              cases r with
              | false =>
                rw [if_neg Bool.false_ne_true] at hf ⊢
                cases hf
                refine ⟨hlt, c4, acc, ds, rs', rel4, (s2.trans s3).trans s4, (A.step s3).step s4, (rds.mono s3).mono s4, hrest, ht⟩
              | true =>
                rw [if_pos rfl] at hf ⊢
                refine ⟨env', c4, rel4, er2.mono s4, ?_⟩
                have h0 : ∃ r, evE Φ e env' c4.S = r := ⟨_, rfl⟩
                obtain ⟨r0, e0⟩ := h0
                rw [e0] at hf ⊢
                cases r0 with
                | stuck => cases hf
                | exc cl fs S => cases hf
                | ok z S4 =>
                  intro y c5 H5 es5 rel5 s5 rd5
                  subst es5
                  simp only [R.bind_ok] at hf
                  cases hf
                  have A5 := ((A.step s3).step s4).step s5
                  have rds5 := ((rds.mono s3).mono s4).mono s5
                  have la : acc.length < sizeLine := by
                    rw [rds.len]
                    have : ds.length < lim := by
                      have : tot.length = ds.length + (z :: rs').length := by rw [ht]; simp
                      simp only [List.length_cons] at this
                      omega
                    exact Nat.lt_of_lt_of_le this lim_line
                  refine ⟨acc, A5.at_, la, hlt, c5, acc ++ [y], ds ++ [z], rs', rel5.foreign A5.g A5.nl, (((s2.trans s3).trans s4).trans s5).foreign hq, A5.set _, rds5.app (RDs.sing rd5), hrest, by rw [ht]; simp⟩
        · cases hr
      · cases hr
    · -- the end
      left
      have ei : i = xs.length := by omega
      refine ⟨hstop i (by omega), ?_⟩
      rw [ei, List.drop_length] at hr
      unfold lcL at hr
      cases hr
      have et : tot = ds := by rw [ht, List.append_nil]
      subst et
      cases z : mkLst tot with
      | none => rw [z] at h1; exact h1.elim
      | some w =>
        obtain ⟨ts, rfl, ets⟩ := mkLst_eq z
        rw [z] at h1
        simp only [opt_some, R.bind_ok] at h1
        rw [ets] at rds
        have rts := RDs_RTs rds
        cases bb with
        | false =>
          obtain ⟨r3, s3⟩ := A.lay rel2 s2 hq
          refine h1 (.ref q) ⟨upd c2.G q (.lst acc), c2.ρ, c2.S⟩ H' rfl r3 s3 ?_
          show RD K _ _ _
          unfold RD RT
          exact ⟨q, acc, rfl, upd_same, RTs.mono (fun a u e => by
            have z : a ≠ q := fun z => by rw [z, A.g] at e; cases e
            show upd c2.G q (.lst acc) a = some u
            rw [upd_ne z]; exact e) _ rts⟩
        | true =>
          obtain ⟨r3, s3⟩ := A.cell (x := .lst ts) rel2 s2 hq (by intro z; cases z) (fun c' e1 e2 => by
            unfold RC
            exact ⟨acc, A.at_, RTs.mono e1 _ rts⟩)
          refine h1 (.ref q) ⟨c2.G, c2.ρ ++ [q], c2.S ++ [.lst ts]⟩ H' rfl r3 s3 ?_
          show RD K _ _ _
          unfold RD
          refine ⟨q, rfl, ?_⟩
          show (c2.ρ ++ [q])[c2.S.length]? = some q
          rw [← rel2.len, List.getElem?_concat_length]

theorem mkC_live (ds : List D) : mkC ds ≠ .gone := by
  unfold mkC
  split <;> (intro z; cases z)
theorem mkC_RC {K : PySem.W.Frag} {c : Cfg} {H : Hp} {q : Addr} {ds : List D} {vs : List V} (h : H q = some (.lst vs)) (r : RDs K c ds vs) : RC K c H q (mkC ds) := by
  unfold mkC
  split
  · rename_i xs e
    unfold RC
    rw [allT_some e] at r
    exact ⟨vs, h, RDs_RTs r⟩
  · unfold RC
    exact ⟨vs, h, r⟩
theorem lcR_ok {K : PySem.W.Frag} {mg : Str → Option Value} {e : E} {own : List Nat} {tg : Tg} {it : I} {cd : Eo} (ho : ∀ i, i ∈ tgSl tg → i ∈ own) {σ : L2.St} {H : Hp} {Q : VK} (q : tE K mg Φ W (.lcR e own tg it cd) σ H Q) :
    tLc (tI K mg Φ W it) (gT K tg) (tQ K mg Φ W0 cd) (tE K mg Φ W0 e) own σ H Q := by
  obtain ⟨env, c, rel, er, h⟩ := q
  have h : PR K mg W σ (rD K) c H ((evI Φ it env c.S).bind fun xs S => (lcL (lcF Φ e own tg cd env) xs S).bind fun ds S => if ds.length ≤ lim then .ok (.ref S.length) (S ++ [mkC ds]) else .stuck) Q := by
    have h' := h
    simp only [evE] at h'
    exact h'
  refine ⟨env, c, rel, er, PR.mono (PR.bind (RA := fun c xs J => ItOk K c xs J) h) fun J H1 ⟨c1, xs, rel1, s1, hit, h1⟩ => ?_⟩
  intro q hq
  -- the walk ends well
  obtain ⟨tot, Sf, hlc⟩ : ∃ tot Sf, lcL (lcF Φ e own tg cd env) xs c1.S = .ok tot Sf := by
    cases z : lcL (lcF Φ e own tg cd env) xs c1.S with
    | ok a S => exact ⟨a, S, rfl⟩
    | exc cl fs S => exact absurd z (lcL_noexc _ _ _ _ _ _)
    | stuck => rw [z] at h1; exact h1.elim
  rw [hlc] at h1
  simp only [R.bind_ok] at h1
  have hlen : tot.length ≤ lim := by
    by_cases z : tot.length ≤ lim
    · exact z
    · rw [if_neg z] at h1
      exact h1.elim
  rw [if_pos hlen] at h1
  refine ⟨fun i m H' => i ≤ xs.length ∧ m = xs.length - i ∧ ∃ c2 acc ds rs, Rel K c2 H' ∧ Stp c1 H1 c2 H' ∧ Apart c2 H' q (.lst acc) ∧ RDs K c2 ds acc ∧ lcL (lcF Φ e own tg cd env) (xs.drop i) c2.S = .ok rs Sf ∧ tot = ds ++ rs, ⟨_, Nat.zero_le _, rfl, c1, [], [], tot, ?_, ?_, ?_, ?_, by simpa using hlc, rfl⟩, fun i m H' hW => ?_⟩
  · refine rel1.foreign ?_ fun n hn l => ?_
    · cases z : c1.G q with
      | none => rfl
      | some o => have := rel1.sub q o z; rw [hq] at this; cases this
    · obtain ⟨u, hu⟩ := rel1.known hn l
      rw [hq] at hu
      cases hu
  · exact (Stp.refl H1 rel1.len).foreign hq
  · refine ⟨upd_same, ?_, fun n hn l => ?_⟩
    · cases z : c1.G q with
      | none => rfl
      | some o => have := rel1.sub q o z; rw [hq] at this; cases this
    · obtain ⟨u, hu⟩ := rel1.known hn l
      rw [hq] at hu
      cases hu
  · unfold RDs
    rfl
  · obtain ⟨hi, hm, c2, acc, ds, rs, rel2, s2, A, rds, hr, ht⟩ := hW
    obtain ⟨hgo, hstop⟩ := hit c2 H' s2.ext' rel2
    by_cases hlt : i < xs.length
    · -- an item
      right
      obtain ⟨d, hd⟩ : ∃ d, xs[i]? = some d := ⟨xs[i], List.getElem?_eq_getElem hlt⟩
      obtain ⟨go, yld⟩ := hgo i d hd
      have hdrop : xs.drop i = d :: xs.drop (i + 1) := by
        rw [List.drop_eq_getElem_cons hlt]
        rw [List.getElem?_eq_getElem hlt] at hd
        cases hd
        rfl
      rw [hdrop] at hr
      unfold lcL at hr
      split at hr
      · rename_i o S1 hf
        split at hr
        · rename_i rs' S2 hrest
          cases hr
          refine ⟨go, fun H'' => i + 1 ≤ xs.length ∧ ∃ c2 acc ds rs, Rel K c2 H'' ∧ Stp c1 H1 c2 H'' ∧ Apart c2 H'' q (.lst acc) ∧ RDs K c2 ds acc ∧ lcL (lcF Φ e own tg cd env) (xs.drop (i + 1)) c2.S = .ok rs Sf ∧ tot = ds ++ rs,
            fun H'' hN => ⟨xs.length - (i + 1), by omega, hN.1, rfl, hN.2⟩, fun x H3 hy => ?_⟩
          obtain ⟨c3, es3, rel3, s3, rd3⟩ := yld x H3 hy
          unfold lcF at hf
          split at hf
          · cases hf
          · rename_i env' henv
            refine ⟨wipeE env own, c3, d, env', rel3, (((er.mono s1).mono s2).mono s3).wiped own, rd3, henv, fun σ2 er2 kp => ⟨wipe_keeps kp ho, ?_⟩⟩
            refine ⟨env', c3, rel3, er2, ?_⟩
            rw [← es3] at hf
            have h0 : ∃ r, evC Φ cd env' c3.S = r := ⟨_, rfl⟩
            obtain ⟨r0, e0⟩ := h0
            rw [e0] at hf ⊢
            cases r0 with
            | stuck => cases hf
            | exc cl fs S => cases hf
            | ok r S3 =>
              intro b c4 H4 es4 rel4 s4 hb
              have hb : r = b := hb
              subst hb
              subst es4
              simp only [R.bind_ok] at hf
              cases r with
              | false =>
                rw [if_neg Bool.false_ne_true] at hf ⊢
                cases hf
                refine ⟨hlt, c4, acc, ds, rs', rel4, (s2.trans s3).trans s4, (A.step s3).step s4, (rds.mono s3).mono s4, hrest, ht⟩
              | true =>
                rw [if_pos rfl] at hf ⊢
                refine ⟨env', c4, rel4, er2.mono s4, ?_⟩
                have h0 : ∃ r, evE Φ e env' c4.S = r := ⟨_, rfl⟩
                obtain ⟨r0, e0⟩ := h0
                rw [e0] at hf ⊢
                cases r0 with
                | stuck => cases hf
                | exc cl fs S => cases hf
                | ok z S4 =>
                  intro y c5 H5 es5 rel5 s5 rd5
                  subst es5
                  simp only [R.bind_ok] at hf
                  cases hf
                  have A5 := ((A.step s3).step s4).step s5
                  have rds5 := ((rds.mono s3).mono s4).mono s5
                  have la : acc.length < sizeLine := by
                    rw [rds.len]
                    have : ds.length < lim := by
                      have : tot.length = ds.length + (z :: rs').length := by rw [ht]; simp
                      simp only [List.length_cons] at this
                      omega
                    exact Nat.lt_of_lt_of_le this lim_line
                  refine ⟨acc, A5.at_, la, hlt, c5, acc ++ [y], ds ++ [z], rs', rel5.foreign A5.g A5.nl, (((s2.trans s3).trans s4).trans s5).foreign hq, A5.set _, rds5.app (RDs.sing rd5), hrest, by rw [ht]; simp⟩
        · cases hr
      · cases hr
    · -- the end
      left
      have ei : i = xs.length := by omega
      refine ⟨hstop i (by omega), ?_⟩
      rw [ei, List.drop_length] at hr
      unfold lcL at hr
      cases hr
      have et : tot = ds := by rw [ht, List.append_nil]
      subst et
      obtain ⟨r3, s3⟩ := A.cell (x := mkC tot) rel2 s2 hq (mkC_live tot) (fun c' e1 e2 => mkC_RC A.at_ (RDs.mono' e1 e2 _ rds))
      refine h1 (.ref q) ⟨c2.G, c2.ρ ++ [q], c2.S ++ [mkC tot]⟩ H' rfl r3 s3 ?_
      show RD K _ _ _
      unfold RD
      refine ⟨q, rfl, ?_⟩
      show (c2.ρ ++ [q])[c2.S.length]? = some q
      rw [← rel2.len, List.getElem?_concat_length]
theorem EnvR.monoX {K : PySem.W.Frag} {c c1 : Cfg} {σ : L2.St} {env : Env} (e : EnvR K c σ env) (s : Ext c c1) : EnvR K c1 σ env := ⟨e.len, fun i d h => by
  obtain ⟨v, h1, h2⟩ := e.get i d h
  exact ⟨v, h1, RD.mono' s.1 s.2 d h2⟩⟩
/-- the two clauses' walk -/
def lcG (Φ : Kp.Or) (e : E) (own : List Nat) (tg : Tg) (cd : Eo) (own1 : List Nat) (tg1 : Tg) (it1 : I) (cd1 : Eo) (env : Env) : D → Sto → R (List D) := fun x S => match setTg tg x (wipeE env own) with
  | none => .stuck
  | some env' => (evC Φ cd env' S).bind fun r S => if r then (evI Φ it1 env' S).bind fun ys S => lcL (lcF Φ e own1 tg1 cd1 env') ys S else .ok [] S
theorem lcC_noexc (f : D → Sto → R (List D)) : ∀ (xs : List D) (S : Sto) (cl : String) (fs : List (String × T)) (S' : Sto), lcC f xs S ≠ .exc cl fs S'
  | [], S, cl, fs, S', h => by
    unfold lcC at h
    cases h
  | x :: xs, S, cl, fs, S', h => by
    unfold lcC at h
    split at h
    · split at h
      · cases h
      · cases h
    · cases h
theorem lc2_ok {K : PySem.W.Frag} {mg : Str → Option Value} {e : E} {own own1 : List Nat} {tg tg1 : Tg} {it it1 : I} {cd cd1 : Eo} {bb : Bool} (ho : ∀ i, i ∈ tgSl tg → i ∈ own) (ho1 : ∀ i, i ∈ tgSl tg1 → i ∈ own1) {σ : L2.St} {H : Hp} {Q : VK} (q : tF K mg Φ W bb (.lc2 e own tg it cd own1 tg1 it1 cd1) σ H Q) :
    tLc2 (tI K mg Φ W it) (gT K tg) (tQ K mg Φ W0 cd) (tI K mg Φ W0 it1) (gT K tg1) (tQ K mg Φ W0 cd1) (tE K mg Φ W0 e) own own1 σ H Q := by
  obtain ⟨env, c, rel, er, h⟩ := q
  have h : PR K mg W σ (rD K) c H ((evI Φ it env c.S).bind fun xs S => (lcC (lcG Φ e own tg cd own1 tg1 it1 cd1 env) xs S).bind fun ds S => (if ds.length ≤ lim then opt (mkLst ds) S else .stuck).bind (fin bb)) Q := by
    have h' := h
    simp only [evE, R.bind_assoc] at h'
    exact h'
  refine ⟨env, c, rel, er, PR.mono (PR.bind (RA := fun c xs J => ItOk K c xs J) h) fun J H1 ⟨c1, xs, rel1, s1, hit, h1⟩ => ?_⟩
  intro q hq
  obtain ⟨tot, Sf, hlc⟩ : ∃ tot Sf, lcC (lcG Φ e own tg cd own1 tg1 it1 cd1 env) xs c1.S = .ok tot Sf := by
    cases z : lcC (lcG Φ e own tg cd own1 tg1 it1 cd1 env) xs c1.S with
    | ok a S => exact ⟨a, S, rfl⟩
    | exc cl fs S => exact absurd z (lcC_noexc _ _ _ _ _ _)
    | stuck => rw [z] at h1; exact h1.elim
  rw [hlc] at h1
  simp only [R.bind_ok] at h1
  have hlen : tot.length ≤ lim := by
    by_cases z : tot.length ≤ lim
    · exact z
    · rw [if_neg z] at h1
      exact h1.elim
  rw [if_pos hlen] at h1
  have start : Apart c1 (upd H1 q (.lst [])) q (.lst []) := by
    refine ⟨upd_same, ?_, fun n hn l => ?_⟩
    · cases z : c1.G q with
      | none => rfl
      | some o => have := rel1.sub q o z; rw [hq] at this; cases this
    · obtain ⟨u, hu⟩ := rel1.known hn l
      rw [hq] at hu
      cases hu
  refine ⟨fun i m H' => i ≤ xs.length ∧ m = xs.length - i ∧ ∃ c2 acc ds rs, Rel K c2 H' ∧ Stp c1 H1 c2 H' ∧ Apart c2 H' q (.lst acc) ∧ RDs K c2 ds acc ∧ lcC (lcG Φ e own tg cd own1 tg1 it1 cd1 env) (xs.drop i) c2.S = .ok rs Sf ∧ tot = ds ++ rs, ⟨_, Nat.zero_le _, rfl, c1, [], [], tot, ?_, ?_, start, ?_, by simpa using hlc, rfl⟩, fun i m H' hW => ?_⟩
  · exact rel1.foreign start.g start.nl
  · exact (Stp.refl H1 rel1.len).foreign hq
  · unfold RDs
    rfl
  · obtain ⟨hi, hm, c2, acc, ds, rs, rel2, s2, A, rds, hr, ht⟩ := hW
    obtain ⟨hgo, hstop⟩ := hit c2 H' s2.ext' rel2
    by_cases hlt : i < xs.length
    · right
      obtain ⟨d, hd⟩ : ∃ d, xs[i]? = some d := ⟨xs[i], List.getElem?_eq_getElem hlt⟩
      obtain ⟨go, yld⟩ := hgo i d hd
      have hdrop : xs.drop i = d :: xs.drop (i + 1) := by
        rw [List.drop_eq_getElem_cons hlt]
        rw [List.getElem?_eq_getElem hlt] at hd
        cases hd
        rfl
      rw [hdrop] at hr
      unfold lcC at hr
      split at hr
      · rename_i a S1 hf
        split at hr
        · rename_i rs' S2 hrest
          cases hr
          refine ⟨go, fun H'' => i + 1 ≤ xs.length ∧ ∃ c2 acc ds rs, Rel K c2 H'' ∧ Stp c1 H1 c2 H'' ∧ Apart c2 H'' q (.lst acc) ∧ RDs K c2 ds acc ∧ lcC (lcG Φ e own tg cd own1 tg1 it1 cd1 env) (xs.drop (i + 1)) c2.S = .ok rs Sf ∧ tot = ds ++ rs,
            fun H'' hN => ⟨xs.length - (i + 1), by omega, hN.1, rfl, hN.2⟩, fun x H3 hy => ?_⟩
          obtain ⟨c3, es3, rel3, s3, rd3⟩ := yld x H3 hy
          unfold lcG at hf
          split at hf
          · cases hf
          · rename_i env' henv
            refine ⟨wipeE env own, c3, d, env', rel3, (((er.mono s1).mono s2).mono s3).wiped own, rd3, henv, fun σ2 er2 kp => ⟨wipe_keeps kp ho, ?_⟩⟩
            refine ⟨env', c3, rel3, er2, ?_⟩
            rw [← es3] at hf
            have h0 : ∃ r, evC Φ cd env' c3.S = r := ⟨_, rfl⟩
            obtain ⟨r0, e0⟩ := h0
            rw [e0] at hf ⊢
            cases r0 with
            | stuck => cases hf
            | exc cl fs S => cases hf
            | ok r S3 =>
              intro b c4 H4 es4 rel4 s4 hb
              have hb : r = b := hb
              subst hb
              subst es4
              simp only [R.bind_ok] at hf
              cases r with
              | false =>
                rw [if_neg Bool.false_ne_true] at hf ⊢
                cases hf
                exact ⟨hlt, c4, acc, ds, rs', rel4, (s2.trans s3).trans s4, (A.step s3).step s4, (rds.mono s3).mono s4, hrest, by rw [ht]; rfl⟩
              | true =>
                rw [if_pos rfl] at hf ⊢
                refine ⟨env', c4, rel4, er2.mono s4, ?_⟩
                have h0 : ∃ r, evI Φ it1 env' c4.S = r := ⟨_, rfl⟩
                obtain ⟨r0, e0⟩ := h0
                rw [e0] at hf ⊢
                cases r0 with
                | stuck => cases hf
                | exc cl fs S => cases hf
                | ok ys S4 =>
                  intro J1 c5 H5 es5 rel5 s5 hit1
                  subst es5
                  simp only [R.bind_ok] at hf
                  have A5 := ((A.step s3).step s4).step s5
                  have rds5 := ((rds.mono s3).mono s4).mono s5
                  have st5 := ((s2.trans s3).trans s4).trans s5
                  refine ⟨fun j k H' => j ≤ ys.length ∧ k = ys.length - j ∧ ∃ c6 acc da ra, Rel K c6 H' ∧ Ext c5 c6 ∧ Stp c1 H1 c6 H' ∧ Apart c6 H' q (.lst acc) ∧ RDs K c6 (ds ++ da) acc ∧ lcL (lcF Φ e own1 tg1 cd1 env') (ys.drop j) c6.S = .ok ra S1 ∧ a = da ++ ra,
                    ⟨_, Nat.zero_le _, rfl, c5, acc, [], a, rel5, Ext.refl _, st5, A5, by simpa using rds5, by simpa using hf, rfl⟩, fun j k H' hW => ?_⟩
                  obtain ⟨hj, hk, c6, acc6, da, ra, rel6, s6, st6, A6, rds6, hr6, ha6⟩ := hW
                  obtain ⟨hgo1, hstop1⟩ := hit1 c6 H' s6 rel6
                  by_cases hlt1 : j < ys.length
                  · right
                    obtain ⟨d1, hd1⟩ : ∃ d, ys[j]? = some d := ⟨ys[j], List.getElem?_eq_getElem hlt1⟩
                    obtain ⟨go1, yld1⟩ := hgo1 j d1 hd1
                    have hdrop1 : ys.drop j = d1 :: ys.drop (j + 1) := by
                      rw [List.drop_eq_getElem_cons hlt1]
                      rw [List.getElem?_eq_getElem hlt1] at hd1
                      cases hd1
                      rfl
                    rw [hdrop1] at hr6
                    unfold lcL at hr6
                    split at hr6
                    · rename_i o1 S6 hf6
                      split at hr6
                      · rename_i ra' S7 hrest6
                        cases hr6
                        refine ⟨go1, fun H'' => j + 1 ≤ ys.length ∧ ∃ c6 acc da ra, Rel K c6 H'' ∧ Ext c5 c6 ∧ Stp c1 H1 c6 H'' ∧ Apart c6 H'' q (.lst acc) ∧ RDs K c6 (ds ++ da) acc ∧ lcL (lcF Φ e own1 tg1 cd1 env') (ys.drop (j + 1)) c6.S = .ok ra S1 ∧ a = da ++ ra,
                          fun H'' hN => ⟨ys.length - (j + 1), by omega, hN.1, rfl, hN.2⟩, fun x1 H7 hy1 => ?_⟩
                        obtain ⟨c7, es7, rel7, s7, rd7⟩ := yld1 x1 H7 hy1
                        unfold lcF at hf6
                        split at hf6
                        · cases hf6
                        · rename_i env2 henv2
                          refine ⟨wipeE env' own1, c7, d1, env2, rel7, ((((er2.mono s4).mono s5).monoX s6).mono s7).wiped own1, rd7, henv2, fun σ3 er3 kp1 => ⟨wipe_keeps kp1 ho1, ?_⟩⟩
                          refine ⟨env2, c7, rel7, er3, ?_⟩
                          rw [← es7] at hf6
                          have h0 : ∃ r, evC Φ cd1 env2 c7.S = r := ⟨_, rfl⟩
                          obtain ⟨r0, e0⟩ := h0
                          rw [e0] at hf6 ⊢
                          cases r0 with
                          | stuck => cases hf6
                          | exc cl fs S => cases hf6
                          | ok r S8 =>
                            intro b c8 H8 es8 rel8 s8 hb
                            have hb : r = b := hb
                            subst hb
                            subst es8
                            simp only [R.bind_ok] at hf6
                            cases r with
                            | false =>
                              rw [if_neg Bool.false_ne_true] at hf6 ⊢
                              cases hf6
                              exact ⟨hlt1, c8, acc6, da, ra', rel8, (s6.trans s7.ext').trans s8.ext', (st6.trans s7).trans s8, (A6.step s7).step s8, (rds6.mono s7).mono s8, hrest6, ha6⟩
                            | true =>
                              rw [if_pos rfl] at hf6 ⊢
                              refine ⟨env2, c8, rel8, er3.mono s8, ?_⟩
                              have h0 : ∃ r, evE Φ e env2 c8.S = r := ⟨_, rfl⟩
                              obtain ⟨r0, e0⟩ := h0
                              rw [e0] at hf6 ⊢
                              cases r0 with
                              | stuck => cases hf6
                              | exc cl fs S => cases hf6
                              | ok z S9 =>
                                intro y c9 H9 es9 rel9 s9 rd9
                                subst es9
                                simp only [R.bind_ok] at hf6
                                cases hf6
                                have A9 := ((A6.step s7).step s8).step s9
                                have rds9 := ((rds6.mono s7).mono s8).mono s9
                                have la : acc6.length < sizeLine := by
                                  rw [rds6.len]
                                  have : (ds ++ da).length < lim := by
                                    have h9 : tot.length = ds.length + (da.length + (z :: ra').length) + rs'.length := by rw [ht, ha6]; simp only [List.length_append, List.length_cons]; omega
                                    simp only [List.length_cons, List.length_append] at h9 ⊢
                                    omega
                                  exact Nat.lt_of_lt_of_le this lim_line
                                refine ⟨acc6, A9.at_, la, hlt1, c9, acc6 ++ [y], da ++ [z], ra', rel9.foreign A9.g A9.nl, ?_, (((st6.trans s7).trans s8).trans s9).foreign hq, A9.set _, ?_, hrest6, by rw [ha6]; simp⟩
                                · exact ((s6.trans s7.ext').trans s8.ext').trans s9.ext'
                                · rw [← List.append_assoc]
                                  exact rds9.app (RDs.sing rd9)
                      · cases hr6
                    · cases hr6
                  · left
                    have ej : j = ys.length := by omega
                    refine ⟨hstop1 j (by omega), ?_⟩
                    rw [ej, List.drop_length] at hr6
                    unfold lcL at hr6
                    cases hr6
                    exact ⟨hlt, c6, acc6, ds ++ da, rs', rel6, st6, A6, rds6, hrest, by rw [ht, ha6]; simp⟩
        · cases hr
      · cases hr
    · -- the end
      left
      have ei : i = xs.length := by omega
      refine ⟨hstop i (by omega), ?_⟩
      rw [ei, List.drop_length] at hr
      unfold lcC at hr
      cases hr
      have et : tot = ds := by rw [ht, List.append_nil]
      subst et
      cases z : mkLst tot with
      | none => rw [z] at h1; exact h1.elim
      | some w =>
        obtain ⟨ts, rfl, ets⟩ := mkLst_eq z
        rw [z] at h1
        simp only [opt_some, R.bind_ok] at h1
        rw [ets] at rds
        have rts := RDs_RTs rds
        cases bb with
        | false =>
          obtain ⟨r3, s3⟩ := A.lay rel2 s2 hq
          refine h1 (.ref q) ⟨upd c2.G q (.lst acc), c2.ρ, c2.S⟩ H' rfl r3 s3 ?_
          show RD K _ _ _
          unfold RD RT
          exact ⟨q, acc, rfl, upd_same, RTs.mono (fun a u e => by
            have z : a ≠ q := fun z => by rw [z, A.g] at e; cases e
            show upd c2.G q (.lst acc) a = some u
            rw [upd_ne z]; exact e) _ rts⟩
        | true =>
          obtain ⟨r3, s3⟩ := A.cell (x := .lst ts) rel2 s2 hq (by intro z; cases z) (fun c' e1 e2 => by
            unfold RC
            exact ⟨acc, A.at_, RTs.mono e1 _ rts⟩)
          refine h1 (.ref q) ⟨c2.G, c2.ρ ++ [q], c2.S ++ [.lst ts]⟩ H' rfl r3 s3 ?_
          show RD K _ _ _
          unfold RD
          refine ⟨q, rfl, ?_⟩
          show (c2.ρ ++ [q])[c2.S.length]? = some q
          rw [← rel2.len, List.getElem?_concat_length]
end
end Kp
/-! Comprehensions: their block; statements. -/
namespace Kp
open PySem L2
section
variable {X : Cx} {sc : Scope} {N : List Str} {k : Nat} {W : WX} {Φ : Kp.Or}
theorem blk_TX (C : CC X sc N k W) (scope : Scope) (s : Shared) (H : Hp) (D : Addr) (cl : List (Str × Addr)) (fp : List Addr) : TX (X.blk s H scope (compEnvC scope cl D X.env) fp) scope N := by
  have keep : ∀ (x : Str) (kd : NameKind), kd ≠ .free → scope.names.lookup x = some kd → (relS scope X.env.scope).names.lookup x = some kd := fun x kd h1 h2 => lookup_relS_keep h1 h2
  refine ⟨C.hN, C.nd, C.calm, fun x h => keep x _ (by intro z; cases z) h, fun x h => ⟨keep x _ (by intro z; cases z) h, ?_⟩⟩
  show (scope.names.lookup x == some .cell) = true
  rw [h]
  rfl
theorem blk_CC (C : CC X sc N k W) (scope : Scope) (s : Shared) (H : Hp) (D : Addr) (cl : List (Str × Addr)) (fp : List Addr) : CC (X.blk s H scope (compEnvC scope cl D X.env) fp) (relS scope sc) N k W0 := by
  refine ⟨?_, C.hN, C.nd, C.calm, C.room, C.gd, fun u s' h => ?_⟩
  · rw [← C.scope]
    rfl
  · obtain ⟨a, B, sI, pins, σ, H, cls, d, _, _, _, _, _, _, _, _, w⟩ := h
    exact w.elim
theorem fold_no {it : PySem.Expr} {env : PySem.Env} (h : isSet it = false) (x : Value) : foldedSetIterable it env x = pure x := by
  cases it <;> first | rfl | cases h
/-- a comprehension -/
theorem s_lc {elt tg iter : PySem.Expr} {ifs : List PySem.Expr} {scope : Scope} {own : List (Str × Nat)} {pos : Pos} {e' : E} {tg' : Tg} {it' : I} {cd' : Eo} {bb : Bool} (C : CC X sc N k W)
    (hb : blkC N sc scope own = true) (hs : isSet iter = false) (hi : PI X tg iter (tI X.K X.mg Φ W it')) (ho : ∀ i, i ∈ tgSl tg' → i ∈ own.map (·.2)) (ht : ∀ Y : Cx, Y.K = X.K → TX Y scope N → PG Y tg (gT X.K tg'))
    (hc : ∀ Y : Cx, Y.K = X.K → Y.mg = X.mg → Y.base = X.base → Y.prog = X.prog → Y.w = X.w → CC Y (relS scope sc) N k W0 → PTs Y ifs (tQ X.K X.mg Φ W0 cd')) (he : ∀ Y : Cx, Y.K = X.K → Y.mg = X.mg → Y.base = X.base → Y.prog = X.prog → Y.w = X.w → CC Y (relS scope sc) N k W0 → PE Y elt (tE X.K X.mg Φ W0 e')) :
    PE X (.ListComp elt [⟨tg, iter, ifs, 0⟩] scope pos) (tF X.K X.mg Φ W bb (.lc e' (own.map (·.2)) tg' it' cd')) := by
  have ok : BlkOk X.N X.env.scope scope own := by
    rw [C.hN, C.scope]
    exact blkOk_by hb
  exact impPE (pe_lc C.calm C.nd hi ok (fun s H D cl fp => ht _ rfl (blk_TX C scope s H D cl fp)) (fun s H D cl fp => hc _ rfl rfl rfl rfl rfl (blk_CC C scope s H D cl fp)) (fun s H D cl fp => he _ rfl rfl rfl rfl rfl (blk_CC C scope s H D cl fp)) (fold_no hs)) fun σ H Q q => lc_ok ho q
/-- .. its list a cell, its lists, too -/
theorem s_lcR {elt tg iter : PySem.Expr} {ifs : List PySem.Expr} {scope : Scope} {own : List (Str × Nat)} {pos : Pos} {e' : E} {tg' : Tg} {it' : I} {cd' : Eo} (C : CC X sc N k W)
    (hb : blkC N sc scope own = true) (hs : isSet iter = false) (hi : PI X tg iter (tI X.K X.mg Φ W it')) (ho : ∀ i, i ∈ tgSl tg' → i ∈ own.map (·.2)) (ht : ∀ Y : Cx, Y.K = X.K → TX Y scope N → PG Y tg (gT X.K tg'))
    (hc : ∀ Y : Cx, Y.K = X.K → Y.mg = X.mg → Y.base = X.base → Y.prog = X.prog → Y.w = X.w → CC Y (relS scope sc) N k W0 → PTs Y ifs (tQ X.K X.mg Φ W0 cd')) (he : ∀ Y : Cx, Y.K = X.K → Y.mg = X.mg → Y.base = X.base → Y.prog = X.prog → Y.w = X.w → CC Y (relS scope sc) N k W0 → PE Y elt (tE X.K X.mg Φ W0 e')) :
    PE X (.ListComp elt [⟨tg, iter, ifs, 0⟩] scope pos) (tE X.K X.mg Φ W (.lcR e' (own.map (·.2)) tg' it' cd')) := by
  have ok : BlkOk X.N X.env.scope scope own := by
    rw [C.hN, C.scope]
    exact blkOk_by hb
  exact impPE (pe_lc C.calm C.nd hi ok (fun s H D cl fp => ht _ rfl (blk_TX C scope s H D cl fp)) (fun s H D cl fp => hc _ rfl rfl rfl rfl rfl (blk_CC C scope s H D cl fp)) (fun s H D cl fp => he _ rfl rfl rfl rfl rfl (blk_CC C scope s H D cl fp)) (fold_no hs)) fun σ H Q q => lcR_ok ho q
/-- .. stored in its statement's frame -/
theorem s_setLc {elt tg iter : PySem.Expr} {ifs : List PySem.Expr} {scope : Scope} {own : List (Str × Nat)} {pos py spos : Pos} {y : Str} {i : Nat} {e' : E} {tg' : Tg} {it' : I} {cd' : Eo} {bb : Bool} (C : CC X sc N k W) (hy : N[i]? = some y) (hyl : sc.names.lookup y = some .local)
    (hl : (py.line == pos.line) = true) (ha : (scope.names.any fun (n, k) => n == y && (k == .local || k == .cell)) = false)
    (hb : blkC N sc scope own = true) (hs : isSet iter = false) (hi : PI X tg iter (tI X.K X.mg Φ W it')) (ho : ∀ i, i ∈ tgSl tg' → i ∈ own.map (·.2)) (ht : ∀ Y : Cx, Y.K = X.K → TX Y scope N → PG Y tg (gT X.K tg'))
    (hc : ∀ Y : Cx, Y.K = X.K → Y.mg = X.mg → Y.base = X.base → Y.prog = X.prog → Y.w = X.w → CC Y (relS scope sc) N k W0 → PTs Y ifs (tQ X.K X.mg Φ W0 cd')) (he : ∀ Y : Cx, Y.K = X.K → Y.mg = X.mg → Y.base = X.base → Y.prog = X.prog → Y.w = X.w → CC Y (relS scope sc) N k W0 → PE Y elt (tE X.K X.mg Φ W0 e')) :
    PS X (.Assign [.Name y py] (.ListComp elt [⟨tg, iter, ifs, 0⟩] scope pos) spos) (tAsg (tF X.K X.mg Φ W bb (.lc e' (own.map (·.2)) tg' it' cd')) (gName i)) := by
  have ok : BlkOk X.N X.env.scope scope own := by
    rw [C.hN, C.scope]
    exact blkOk_by hb
  have hyl' : X.env.scope.names.lookup y = some .local := by rw [C.scope]; exact hyl
  refine ⟨fun pins s σ H D I h => ?_⟩
  exact (ps_setLc C.calm C.nd (by rw [C.hN]; exact hy) hyl' (sw_true I.ok.kind hyl' hl ha) hi ok (fun s H D cl fp => ht _ rfl (blk_TX C scope s H D cl fp)) (fun s H D cl fp => hc _ rfl rfl rfl rfl rfl (blk_CC C scope s H D cl fp))
    (fun s H D cl fp => he _ rfl rfl rfl rfl rfl (blk_CC C scope s H D cl fp)) (fold_no hs)).run pins s σ H D I (lc_ok ho h)

/-- two clauses -/
theorem s_lc2 {elt tg iter tg1 iter1 : PySem.Expr} {ifs ifs1 : List PySem.Expr} {scope : Scope} {own : List (Str × Nat)} {own1 : List Nat} {pos : Pos} {e' : E} {tg' tg1' : Tg} {it' it1' : I} {cd' cd1' : Eo} {bb : Bool} (C : CC X sc N k W)
    (hb : blkC N sc scope own = true) (hs : isSet iter = false) (hs1 : isSet iter1 = false) (hi : PI X tg iter (tI X.K X.mg Φ W it')) (ho : ∀ i, i ∈ tgSl tg' → i ∈ own.map (·.2)) (ho1 : ∀ i, i ∈ tgSl tg1' → i ∈ own1) (hv : ∀ i ∈ own1, i ∈ own.map (·.2))
    (ht : ∀ Y : Cx, Y.K = X.K → TX Y scope N → PG Y tg (gT X.K tg') ∧ PG Y tg1 (gT X.K tg1'))
    (hc : ∀ Y : Cx, Y.K = X.K → Y.mg = X.mg → Y.base = X.base → Y.prog = X.prog → Y.w = X.w → CC Y (relS scope sc) N k W0 → PTs Y ifs (tQ X.K X.mg Φ W0 cd') ∧ PI Y tg1 iter1 (tI X.K X.mg Φ W0 it1') ∧ PTs Y ifs1 (tQ X.K X.mg Φ W0 cd1') ∧ PE Y elt (tE X.K X.mg Φ W0 e')) :
    PE X (.ListComp elt [⟨tg, iter, ifs, 0⟩, ⟨tg1, iter1, ifs1, 0⟩] scope pos) (tF X.K X.mg Φ W bb (.lc2 e' (own.map (·.2)) tg' it' cd' own1 tg1' it1' cd1')) := by
  have ok : BlkOk X.N X.env.scope scope own := by
    rw [C.hN, C.scope]
    exact blkOk_by hb
  exact impPE (pe_lc2 (vs1 := own1) C.calm C.nd hi ok hv (fun s H D cl fp => (ht (X.blk s H scope (compEnvC scope cl D X.env) fp) rfl (blk_TX C scope s H D cl fp)).1) (fun s H D cl fp => (hc (X.blk s H scope (compEnvC scope cl D X.env) fp) rfl rfl rfl rfl rfl (blk_CC C scope s H D cl fp)).1) (fun s H D cl fp => (hc (X.blk s H scope (compEnvC scope cl D X.env) fp) rfl rfl rfl rfl rfl (blk_CC C scope s H D cl fp)).2.1)
    (fun s H D cl fp => (ht (X.blk s H scope (compEnvC scope cl D X.env) fp) rfl (blk_TX C scope s H D cl fp)).2) (fun s H D cl fp => (hc (X.blk s H scope (compEnvC scope cl D X.env) fp) rfl rfl rfl rfl rfl (blk_CC C scope s H D cl fp)).2.2.1) (fun s H D cl fp => (hc (X.blk s H scope (compEnvC scope cl D X.env) fp) rfl rfl rfl rfl rfl (blk_CC C scope s H D cl fp)).2.2.2) (fold_no hs) (fun env => fold_no hs1)) fun σ H Q q => lc2_ok ho ho1 q
theorem s_setLc2 {elt tg iter tg1 iter1 : PySem.Expr} {ifs ifs1 : List PySem.Expr} {scope : Scope} {own : List (Str × Nat)} {own1 : List Nat} {pos py spos : Pos} {y : Str} {i : Nat} {e' : E} {tg' tg1' : Tg} {it' it1' : I} {cd' cd1' : Eo} {bb : Bool} (C : CC X sc N k W) (hy : N[i]? = some y) (hyl : sc.names.lookup y = some .local)
    (hl : (py.line == pos.line) = true) (ha : (scope.names.any fun (n, k) => n == y && (k == .local || k == .cell)) = false)
    (hb : blkC N sc scope own = true) (hs : isSet iter = false) (hs1 : isSet iter1 = false) (hi : PI X tg iter (tI X.K X.mg Φ W it')) (ho : ∀ i, i ∈ tgSl tg' → i ∈ own.map (·.2)) (ho1 : ∀ i, i ∈ tgSl tg1' → i ∈ own1) (hv : ∀ i ∈ own1, i ∈ own.map (·.2))
    (ht : ∀ Y : Cx, Y.K = X.K → TX Y scope N → PG Y tg (gT X.K tg') ∧ PG Y tg1 (gT X.K tg1'))
    (hc : ∀ Y : Cx, Y.K = X.K → Y.mg = X.mg → Y.base = X.base → Y.prog = X.prog → Y.w = X.w → CC Y (relS scope sc) N k W0 → PTs Y ifs (tQ X.K X.mg Φ W0 cd') ∧ PI Y tg1 iter1 (tI X.K X.mg Φ W0 it1') ∧ PTs Y ifs1 (tQ X.K X.mg Φ W0 cd1') ∧ PE Y elt (tE X.K X.mg Φ W0 e')) :
    PS X (.Assign [.Name y py] (.ListComp elt [⟨tg, iter, ifs, 0⟩, ⟨tg1, iter1, ifs1, 0⟩] scope pos) spos) (tAsg (tF X.K X.mg Φ W bb (.lc2 e' (own.map (·.2)) tg' it' cd' own1 tg1' it1' cd1')) (gName i)) := by
  have ok : BlkOk X.N X.env.scope scope own := by
    rw [C.hN, C.scope]
    exact blkOk_by hb
  have hyl' : X.env.scope.names.lookup y = some .local := by rw [C.scope]; exact hyl
  refine ⟨fun pins s σ H D I h => ?_⟩
  exact (ps_setLc2 (vs1 := own1) C.calm C.nd (by rw [C.hN]; exact hy) hyl' (sw_true I.ok.kind hyl' hl ha) hi ok hv (fun s H D cl fp => (ht (X.blk s H scope (compEnvC scope cl D X.env) fp) rfl (blk_TX C scope s H D cl fp)).1) (fun s H D cl fp => (hc (X.blk s H scope (compEnvC scope cl D X.env) fp) rfl rfl rfl rfl rfl (blk_CC C scope s H D cl fp)).1) (fun s H D cl fp => (hc (X.blk s H scope (compEnvC scope cl D X.env) fp) rfl rfl rfl rfl rfl (blk_CC C scope s H D cl fp)).2.1)
    (fun s H D cl fp => (ht (X.blk s H scope (compEnvC scope cl D X.env) fp) rfl (blk_TX C scope s H D cl fp)).2) (fun s H D cl fp => (hc (X.blk s H scope (compEnvC scope cl D X.env) fp) rfl rfl rfl rfl rfl (blk_CC C scope s H D cl fp)).2.2.1) (fun s H D cl fp => (hc (X.blk s H scope (compEnvC scope cl D X.env) fp) rfl rfl rfl rfl rfl (blk_CC C scope s H D cl fp)).2.2.2) (fold_no hs) (fun env => fold_no hs1)).run pins s σ H D I (lc2_ok ho ho1 h)
end
end Kp
/-! len(set(..)), list(range(..)), texts put together. -/
namespace Kp
open PySem L2
theorem firstMet_all (ns : List Int) : PyProof.Rows.firstMet (fun i => ns.getD i 0) ns.length = unlike ns := by
  unfold PyProof.Rows.firstMet unlike
  congr 1
  apply List.ext_getElem?
  intro i
  rw [List.getElem?_map]
  by_cases h : i < ns.length
  · rw [List.getElem?_range h]
    simp [h]
  · rw [List.getElem?_eq_none (by simpa using h), List.getElem?_eq_none (by simpa using h)]
    rfl
section
variable {X : Cx} {a b : PySem.Expr} {ta : TE} {p p2 q pos : Pos}
/-- len(set(a)), a a list of numbers -/
theorem pe_manyI (calm : X.calm = true) (g1 : Gl X "len") (m1 : X.mg "len" = none) (g2 : Gl X "set") (m2 : X.mg "set" = none) (ha : PE X a ta) (ns0 : isStar a = false) :
    PE X (.Call (.Name "len" p) [.Call (.Name "set" p2) [a] [] q] [] pos) (fun σ H Q => ta σ H fun x H1 => ∃ (l : Addr) (is : List Int), x = V.ref l ∧ SqL X.K H1 l (is.map V.int) ∧ is.length ≤ 60 ∧ Q (.int ((unlike is).length : Nat)) H1) := by
  have na := se_cons ns0 [] X.env
  refine ⟨fun pins s σ H Q I told => PyProof.Rows.Call_ (ld_blt I g1 m1 PySem.boot_len (PyProof.Rows.callWith_builtin1 (PyProof.Rows.args_cons (PyProof.Rows.Call_ (ld_blt I g2 m2 PyProof.Rows.boot_set
    (PyProof.Rows.callWith_type1 (PyProof.Rows.args_cons (thn (ha.run pins s σ H _ I told) fun v s1 hx => PyProof.Rows.args_nil ?_) na) na rfl))) rfl) rfl rfl))⟩
  obtain ⟨x, H1, I1, r1, l, is, rfl, hq, few, told⟩ := hx
  cases r1
  obtain ⟨its, r, pl, _⟩ := I1.list hq
  have many : its.toArray.size = is.length := by
    rw [List.size_toArray, ← r.length, List.length_map]
  refine call_set_list (ns := is) (I1.ok.hd calm) pl.isList (by simpa using r.ints) (by unfold scanBound; omega) fun h2 tk made kept => PyProof.Rows.args_nil ?_
  rw [many, firstMet_all] at made
  obtain ⟨o, es, ep, t, ho, hex, hd, _, _, few2, hf, hn⟩ := made
  have I2 : L2.Inv X pins σ H1 { s1 with heap := h2, toks := tk } := I1.kept fun b o e => kept b o (Heap.lt_size e) e
  have le : (unlike is).length ≤ is.length := by
    rw [← firstMet_all]
    exact PyProof.Rows.firstMet_length_le _ _
  exact call_len_set ho hex hd hf (by rw [hn]; omega) ⟨.int ((unlike is).length : Nat), H1, I2.tok _, ⟨_, by rw [hn]⟩, told⟩
variable {Φ : Kp.Or} {W : WX} {a' : E}
theorem ints_ok {K : PySem.W.Frag} {G : Hp} : ∀ {xs : List T} {is : List Int} {vs : List V}, intsT xs = some is → RTs K G xs vs → vs = is.map V.int
  | [], is, vs, h, r => by
    cases h
    unfold RTs at r
    exact r
  | .int i :: xs, is, vs, h, r => by
    unfold intsT at h
    split at h
    · rename_i js e
      cases h
      unfold RTs at r
      obtain ⟨v, w, rfl, h2, h3⟩ := r
      unfold RT at h2
      rw [h2, ints_ok e h3]
      rfl
    · cases h
  | .non :: _, _, _, h, _ => by cases h
  | .bl _ :: _, _, _, h, _ => by cases h
  | .str _ :: _, _, _, h, _ => by cases h
  | .tup _ :: _, _, _, h, _ => by cases h
  | .lst _ :: _, _, _, h, _ => by cases h
  | .dct _ _ :: _, _, _, h, _ => by cases h
  | .scr _ :: _, _, _, h, _ => by cases h
theorem s_lenSet (calm : X.calm = true) (g1 : Gl X "len") (m1 : X.mg "len" = none) (g2 : Gl X "set") (m2 : X.mg "set" = none) (ha : PE X a (tE X.K X.mg Φ W a')) (ns0 : isStar a = false) :
    PE X (.Call (.Name "len" p) [.Call (.Name "set" p2) [a] [] q] [] pos) (tE X.K X.mg Φ W (.lenSet a')) := by
  refine impPE (pe_manyI calm g1 m1 g2 m2 ha ns0) fun σ H Q q => ?_
  obtain ⟨env, c, rel, er, h⟩ := q
  simp only [evE] at h
  refine ⟨env, c, rel, er, PR.mono (PR.bind (RA := rD X.K) h) fun v H1 ⟨c1, d, rel1, s1, r1, h1⟩ => ?_⟩
  obtain ⟨z, hz, h2⟩ := PR.opt (b := v) h1
  unfold lenSetV at hz
  split at hz
  · rename_i xs hx
    split at hz
    · rename_i is hi
      split at hz
      · rename_i few
        cases hz
        obtain ⟨l, vs, rfl, q1, q2⟩ := r1.asL rel1 hx
        rw [ints_ok hi q2] at q1
        exact ⟨l, is, rfl, SqL.of q1, few, PR.now h2 rel1 (RD.mkInt _)⟩
      · cases hz
    · cases hz
  · cases hz
/-- list(range(a)) -/
theorem s_rngL {bb : Bool} (calm : X.calm = true) (g1 : Gl X "list") (m1 : X.mg "list" = none) (g2 : Gl X "range") (m2 : X.mg "range" = none) (ha : PE X a (tE X.K X.mg Φ W a')) (ns0 : isStar a = false) :
    PE X (.Call (.Name "list" p) [.Call (.Name "range" p2) [a] [] q] [] pos) (tF X.K X.mg Φ W bb (.rngL a')) := by
  refine impPE (pe_listRg calm g1 m1 (prg_1 g2 m2 ha (se_cons ns0 [] X.env)) rfl) fun σ H Q q => ?_
  obtain ⟨env, c, rel, er, h⟩ := q
  simp only [evE, R.bind_assoc] at h
  refine ⟨env, c, rel, er, PR.mono (PR.bind (RA := rD X.K) h) fun v H1 ⟨c1, d, rel1, s1, r1, h1⟩ => ?_⟩
  split at h1
  · rename_i j hj
    split at h1
    · rename_i hl
      refine ⟨j, r1.int hj, .of_le (by omega) (by omega) (by omega) (by omega), fun u hu => ?_⟩
      have e : rgV 0 j = ((List.range j.toNat).map fun (i : Nat) => V.int (i : Int)) := by
        unfold rgV
        rw [Int.sub_zero]
        congr 1
        funext i
        rw [Int.zero_add]
      rw [e]
      have key : ∀ (G : Hp) (l : List Nat), RTs X.K G (l.map fun (i : Nat) => T.int (i : Int)) (l.map fun (i : Nat) => V.int (i : Int)) := fun G l => by
        induction l with
        | nil => unfold RTs; rfl
        | cons y l ih =>
          simp only [List.map_cons]
          unfold RTs
          refine ⟨_, _, rfl, ?_, ih⟩
          unfold RT
          rfl
      exact fin_lst rel1 hu (key _ _) h1
    · exact h1.elim
  · exact h1.elim
/-! ### f-strings -/
inductive PF (X : Cx) (Φ : Kp.Or) (W : WX) : List PySem.Expr → Es → Prop where
  | nil : PF X Φ W [] .nil
  | fmt {e : PySem.Expr} {e' : E} {es : List PySem.Expr} {es' : Es} {ps : Pos} (h : PE X e (tE X.K X.mg Φ W e')) (r : PF X Φ W es es') : PF X Φ W (.FormattedValue e (-1) none ps :: es) (.cons e' es')
  | txt {s : Str} {cs : Cs} {k : Nat} {es : List PySem.Expr} {es' : Es} {ps : Pos} (h : stC cs = s) (r : PF X Φ W es es') : PF X Φ W (.Constant (.str s) k ps :: es) (.cons (.k (.str cs)) es')
/-- the parts, from what stands already -/
def tPs (K : PySem.W.Frag) (mg : Str → Option Value) (Φ : Kp.Or) (W : WX) (acc : Cs) (es : Es) (σ : L2.St) (H : Hp) (Q : Str → Hp → Prop) : Prop :=
  ∃ env c, Rel K c H ∧ EnvR K c σ env ∧ PR K mg W σ (fun _ (s : Cs) (x : Str) => x = stC s) c H (evFs Φ acc es env c.S) Q
theorem pf_joins {es : List PySem.Expr} {es' : Es} (h : PF X Φ W es es') : ∃ ts, PJ X es ts ∧ ∀ (acc : Cs) σ H Q, tPs X.K X.mg Φ W acc es' σ H Q → tJs ts (stC acc) σ H Q := by
  have line : ∀ {a b : Cs}, b.length + a.length ≤ lim → (stC a ++ stC b).length ≤ sizeLine := fun {a b} h => by
    rw [stC_app, stC_len, List.length_append]
    exact Nat.le_trans (by omega) lim_line
  induction h with
  | nil =>
    refine ⟨[], .nil, fun acc σ H Q q => ?_⟩
    obtain ⟨env, c, rel, er, h⟩ := q
    simp only [evFs] at h
    exact PR.now h rel rfl
  | @fmt e e' es es' ps he r ih =>
    obtain ⟨ts, h1, h2⟩ := ih
    refine ⟨_, .cons (pe_fmt he) h1, fun acc σ H Q q => ?_⟩
    obtain ⟨env, c, rel, er, h⟩ := q
    simp only [evFs] at h
    refine ⟨env, c, rel, er, PR.mono (PR.bind (RA := rD X.K) h) fun v H1 ⟨c1, d, rel1, s1, r1, h3⟩ => ?_⟩
    split at h3
    · rename_i y hy
      split at h3
      · rename_i hl
        refine .inl ⟨stC y, r1.str hy, by rw [stC_len]; exact Nat.le_trans (by omega) lim_line, stC y, rfl, line hl, ?_⟩
        rw [stC_app]
        exact h2 (acc ++ y) σ H1 Q ⟨env, c1, rel1, er.mono s1, h3⟩
      · exact h3.elim
    · exact h3.elim
  | @txt sx cs k es es' ps he r ih =>
    obtain ⟨ts, h1, h2⟩ := ih
    refine ⟨_, .cons pe_str h1, fun acc σ H Q q => ?_⟩
    obtain ⟨env, c, rel, er, h⟩ := q
    simp only [evFs, evE, R.bind_ok, asStr] at h
    split at h
    · rename_i hl
      subst he
      refine ⟨stC cs, rfl, line hl, ?_⟩
      rw [stC_app]
      exact h2 (acc ++ cs) σ H Q ⟨env, c, rel, er, h⟩
    · exact h.elim
theorem s_fstr {u w : PySem.Expr} {es : List PySem.Expr} {es' : Es} {ps : Pos} (h : PF X Φ W (u :: w :: es) es') : PE X (.JoinedStr (u :: w :: es) ps) (tE X.K X.mg Φ W (.fstr es')) := by
  obtain ⟨ts, h1, h2⟩ := pf_joins h
  refine impPE (pe_joined h1) fun σ H Q q => ?_
  obtain ⟨env, c, rel, er, h⟩ := q
  simp only [evE] at h
  have e : Str.empty = stC [] := rfl
  rw [e]
  refine h2 [] σ H _ ⟨env, c, rel, er, PR.mono (PR.bind (RA := fun _ (s : Cs) (x : Str) => x = stC s) h) fun x H1 ⟨c1, s, rel1, s1, r1, h3⟩ => ?_⟩
  have r1 : x = stC s := r1
  subst r1
  exact PR.now h3 rel1 (RD.mkStr _)
end
end Kp
/-! Statements. -/
namespace Kp
open PySem L2
theorem Keeps.sub {l m : List Nat} {σ σ' : L2.St} (k : Keeps l σ σ') (h : ∀ i, i ∈ l → i ∈ m) : Keeps m σ σ' := ⟨k.1, fun i hi => k.2 i fun z => hi (h i z)⟩
/-- the promise of a statement -/
def PRS (K : PySem.W.Frag) (mg : Str → Option Value) (W : WX) (l : List Nat) (σ : L2.St) (c : Cfg) (H : Hp) (r : R (Ctl × Env)) (D : L2.Ends) : Prop := match r with
  | .stuck => False
  | .ok (.nx, env') S' => ∀ σ' c' H', c'.S = S' → Rel K c' H' → Stp c H c' H' → EnvR K c' σ' env' → Keeps l σ σ' → D.nx σ' H'
  | .ok (.ret d, _) S' => ∀ v c' H', c'.S = S' → Rel K c' H' → Stp c H c' H' → RD K c' d v → D.rt v H'
  | .exc cl fs S' => ∀ ca dd σ' c' H', c'.S = S' → Rel K c' H' → Stp c H c' H' → Keeps l σ σ' → mg (Str.ofString cl) = some (.ref ca) → ExcAt K c' H' dd fs → W (.ref ca) dd σ' H'
section
variable {α β : Type} {K : PySem.W.Frag} {mg : Str → Option Value} {W : WX} {σ σ1 : L2.St} {RA : Cfg → α → β → Prop} {c c1 : Cfg} {H H1 : Hp} {l m : List Nat} {r : R (Ctl × Env)} {D : L2.Ends}
theorem PRS.step (h : PRS K mg W l σ c H r D) (s : Stp c H c1 H1) : PRS K mg W l σ c1 H1 r D := by
  unfold PRS at h ⊢
  split at h
  · exact h
  · rename_i env' S'
    exact fun σ' c' H' e1 e2 e3 => h σ' c' H' e1 e2 (s.trans e3)
  · rename_i d env' S'
    exact fun v c' H' e1 e2 e3 => h v c' H' e1 e2 (s.trans e3)
  · rename_i cl fs S'
    exact fun ca dd σ' c' H' e1 e2 e3 => h ca dd σ' c' H' e1 e2 (s.trans e3)
theorem PRS.keeps (h : PRS K mg W l σ c H r D) (k : Keeps m σ σ1) (hm : ∀ i, i ∈ m → i ∈ l) : PRS K mg W l σ1 c H r D := by
  have tr : ∀ {σ'}, Keeps l σ1 σ' → Keeps l σ σ' := fun q => (k.trans q).sub fun i hi => (List.mem_append.mp hi).elim (hm i) id
  unfold PRS at h ⊢
  split at h
  · exact h
  · exact fun σ' c' H' e1 e2 e3 e4 e5 => h σ' c' H' e1 e2 e3 e4 (tr e5)
  · exact h
  · exact fun ca dd σ' c' H' e1 e2 e3 e4 => h ca dd σ' c' H' e1 e2 e3 (tr e4)
theorem PRS.sub (h : PRS K mg W l σ c H r D) (hm : ∀ i, i ∈ m → i ∈ l) : PRS K mg W m σ c H r D := by
  unfold PRS at h ⊢
  split at h
  · exact h
  · exact fun σ' c' H' e1 e2 e3 e4 e5 => h σ' c' H' e1 e2 e3 e4 (e5.sub hm)
  · exact h
  · exact fun ca dd σ' c' H' e1 e2 e3 e4 => h ca dd σ' c' H' e1 e2 e3 (e4.sub hm)
/-- an expression's part ahead -/
theorem PRS.bindE {x : R α} {f : α → Sto → R (Ctl × Env)} (h : PRS K mg W l σ c H (x.bind f) D) :
    PR K mg W σ RA c H x fun b H1 => ∃ c1 a, Rel K c1 H1 ∧ Stp c H c1 H1 ∧ RA c1 a b ∧ PRS K mg W l σ c1 H1 (f a c1.S) D := by
  cases x with
  | stuck => exact h
  | ok a S' =>
    intro b c1 H1 e1 r1 s1 q
    subst e1
    exact ⟨c1, a, r1, s1, q, PRS.step h s1⟩
  | exc cl fs S' => exact fun ca dd c' H' e1 e2 e3 e4 e5 => h ca dd σ c' H' e1 e2 e3 (Keeps.refl _ _) e4 e5
theorem PRS.opt {o : Option α} {f : α → Sto → R (Ctl × Env)} (h : PRS K mg W l σ c H ((opt o c.S).bind f) D) : ∃ a, o = some a ∧ PRS K mg W l σ c H (f a c.S) D := by
  cases o with
  | none => exact h.elim
  | some a => exact ⟨a, rfl, h⟩
end
section
variable (K : PySem.W.Frag) (mg : Str → Option Value) (Φ : Kp.Or) (W : WX)
def tS (s : S1) : L2.TS := fun D σ H => ∃ env c, Rel K c H ∧ EnvR K c σ env ∧ PRS K mg W (slS s) σ c H (evS Φ s env c.S) D
def tSs (s : Ss) : L2.TS := fun D σ H => ∃ env c, Rel K c H ∧ EnvR K c σ env ∧ PRS K mg W (slSs s) σ c H (evSs Φ s env c.S) D
end
theorem impPS {X : Cx} {st : PySem.Stmt} {t t' : L2.TS} (h : PS X st t') (i : ∀ D σ H, t D σ H → t' D σ H) : PS X st t := ⟨fun pins s σ H D I q => h.run pins s σ H D I (i D σ H q)⟩
theorem impPSs {X : Cx} {st : List PySem.Stmt} {t t' : L2.TS} (h : PSs X st t') (i : ∀ D σ H, t D σ H → t' D σ H) : PSs X st t := ⟨fun pins s σ H D I q => h.run pins s σ H D I (i D σ H q)⟩
section
variable {X : Cx} {Φ : Kp.Or} {W : WX} {a b o ix : PySem.Expr} {a' b' o' i' : E} {pos : Pos} {st : PySem.Stmt} {rest : List PySem.Stmt} {s' : S1} {r' : Ss}
theorem asg_imp {tg' : Tg} {g : TG} {t : TE} (ht : ∀ σ H Q, tE X.K X.mg Φ W a' σ H Q → t σ H Q) (hg : ∀ v σ H Q, gT X.K tg' v σ H Q → g v σ H Q) : ∀ D σ H, tS X.K X.mg Φ W (.asg tg' a') D σ H → tAsg t g D σ H := fun D σ H q => by
  obtain ⟨env, c, rel, er, h⟩ := q
  simp only [evS, slS] at h
  refine ht σ H _ ⟨env, c, rel, er, PR.mono (PRS.bindE (RA := rD X.K) h) fun v H1 ⟨c1, d, rel1, s1, r1, h1⟩ => ?_⟩
  obtain ⟨env', he, h2⟩ := PRS.opt h1
  exact hg v σ H1 _ ⟨env, c1, d, env', rel1, er.mono s1, r1, he, fun σ' q1 q2 => h2 σ' c1 H1 rfl rel1 (Stp.refl _ rel1.len) q1 q2⟩
theorem st_asg {tg : PySem.Expr} {tg' : Tg} (ha : PE X a (tE X.K X.mg Φ W a')) (hg : PG X tg (gT X.K tg')) (hs : swapsWithSole [tg] a pos.line X.env = pure false) (hw : swappedStores [tg] a X.env = pure none) (h1 : (assignEach [tg] X.env).map (·.2) = [assign tg X.env]) :
    PS X (.Assign [tg] a pos) (tS X.K X.mg Φ W (.asg tg' a')) := impPS (ps_asg ha hg hs hw h1) (asg_imp (fun _ _ _ q => q) fun _ _ _ _ q => q)
theorem st_expr (ha : PE X a (tE X.K X.mg Φ W a')) (hs : swapsWith a none pos.line X.env = pure false) : PS X (.Expr a pos) (tS X.K X.mg Φ W (.expr a')) := by
  refine impPS (ps_expr ha hs) fun D σ H q => ?_
  obtain ⟨env, c, rel, er, h⟩ := q
  simp only [evS, slS] at h
  refine ⟨env, c, rel, er, PR.mono (PRS.bindE (RA := rD X.K) h) fun v H1 ⟨c1, d, rel1, s1, r1, h1⟩ => ?_⟩
  exact h1 σ c1 H1 rfl rel1 (Stp.refl _ rel1.len) (er.mono s1) (Keeps.refl _ _)
theorem st_ret (ha : PE X a (tE X.K X.mg Φ W a')) : PS X (.Return (some a) pos) (tS X.K X.mg Φ W (.ret a')) := by
  refine impPS (ps_ret ha) fun D σ H q => ?_
  obtain ⟨env, c, rel, er, h⟩ := q
  simp only [evS, slS] at h
  refine ⟨env, c, rel, er, PR.mono (PRS.bindE (RA := rD X.K) h) fun v H1 ⟨c1, d, rel1, s1, r1, h1⟩ => ?_⟩
  exact h1 v c1 H1 rfl rel1 (Stp.refl _ rel1.len) r1
theorem st_retN : PS X (.Return none pos) (tS X.K X.mg Φ W .retN) := by
  refine impPS ps_retN fun D σ H q => ?_
  obtain ⟨env, c, rel, er, h⟩ := q
  simp only [evS, slS] at h
  exact h .non c H rfl rel (Stp.refl _ rel.len) RD.mkNon
theorem st_pass : PS X (.Pass pos) (tS X.K X.mg Φ W .pass) := by
  refine impPS ps_pass fun D σ H q => ?_
  obtain ⟨env, c, rel, er, h⟩ := q
  simp only [evS, slS] at h
  exact h σ c H rfl rel (Stp.refl _ rel.len) er (Keeps.refl _ _)
theorem st_if {p q : List PySem.Stmt} {p' q' : Ss} (ha : PT X a (tT X.K X.mg Φ W a')) (hp : PSs X p (tSs X.K X.mg Φ W p')) (hq : PSs X q (tSs X.K X.mg Φ W q')) : PS X (.If a p q pos) (tS X.K X.mg Φ W (.ife a' p' q')) := by
  refine impPS (ps_if ha hp hq) fun D σ H q => ?_
  obtain ⟨env, c, rel, er, h⟩ := q
  simp only [evS, slS] at h
  refine ⟨env, c, rel, er, PR.mono (PRS.bindE (RA := rB) h) fun v H1 ⟨c1, d, rel1, s1, r1, h1⟩ => ?_⟩
  have r1 : d = v := r1
  subst r1
  cases d with
  | true =>
    rw [if_pos rfl] at h1 ⊢
    exact ⟨env, c1, rel1, er.mono s1, h1.sub fun i hi => List.mem_append_left _ hi⟩
  | false =>
    rw [if_neg Bool.false_ne_true] at h1 ⊢
    exact ⟨env, c1, rel1, er.mono s1, h1.sub fun i hi => List.mem_append_right _ hi⟩
theorem sts_nil : PSs X [] (tSs X.K X.mg Φ W .nil) := by
  refine impPSs pss_nil fun D σ H q => ?_
  obtain ⟨env, c, rel, er, h⟩ := q
  simp only [evSs, slSs] at h
  exact h σ c H rfl rel (Stp.refl _ rel.len) er (Keeps.refl _ _)
theorem sts_cons (hs : PS X st (tS X.K X.mg Φ W s')) (hr : PSs X rest (tSs X.K X.mg Φ W r')) : PSs X (st :: rest) (tSs X.K X.mg Φ W (.cons s' r')) := by
  refine impPSs (pss_cons hs hr) fun D σ H q => ?_
  obtain ⟨env, c, rel, er, h⟩ := q
  simp only [evSs, slSs] at h
  refine ⟨env, c, rel, er, ?_⟩
  generalize evS Φ s' env c.S = r at h
  cases r with
  | stuck => exact h
  | ok p S' =>
    obtain ⟨ctl, env'⟩ := p
    cases ctl with
    | nx =>
      intro σ' c' H' e1 e2 e3 e4 e5
      subst e1
      have h : PRS X.K X.mg W (slS s' ++ slSs r') σ c H (evSs Φ r' env' c'.S) D := h
      exact ⟨env', c', e2, e4, ((h.step e3).keeps e5 fun i hi => List.mem_append_left _ hi).sub fun i hi => List.mem_append_right _ hi⟩
    | ret d => exact fun v c' H' e1 e2 e3 e4 => h v c' H' e1 e2 e3 e4
  | exc cl fs S' => exact fun ca dd σ' c' H' e1 e2 e3 e4 => h ca dd σ' c' H' e1 e2 e3 (e4.sub fun i hi => List.mem_append_left _ hi)
theorem st_setI (hc : X.calm = true) (hs : isSlc ix = false) (hn : isCmp a = false) (ha : PE X a (tE X.K X.mg Φ W a')) (ho : PE X o (tE X.K X.mg Φ W o')) (hi : PE X ix (tE X.K X.mg Φ W i')) {p2 : Pos} : PS X (.Assign [.Subscript o ix p2] a pos) (tS X.K X.mg Φ W (.setI o' i' a')) := by
  refine impPS (ps_asg ha (pg_sub ho hi set_list (by intro v; cases ix <;> first | rfl | cases hs)) (by cases a <;> first | rfl | cases hn) (by cases a <;> rfl)) fun D σ H q => ?_
  obtain ⟨env, c, rel, er, h⟩ := q
  simp only [evS, slS] at h
  refine ⟨env, c, rel, er, PR.mono (PRS.bindE (RA := rD X.K) h) fun v H1 ⟨c1, d, rel1, s1, r1, h1⟩ => ?_⟩
  refine ⟨env, c1, rel1, er.mono s1, PR.mono (PRS.bindE (RA := rD X.K) h1) fun u H2 ⟨c2, y, rel2, s2, r2, h2⟩ => ?_⟩
  refine ⟨env, c2, rel2, (er.mono s1).mono s2, PR.mono (PRS.bindE (RA := rD X.K) h2) fun w H3 ⟨c3, z, rel3, s3, r3, h3⟩ => ?_⟩
  split at h3
  · rename_i S2 e
    exact set_ok rel3 (r2.mono s3) r3 ((r1.mono s2).mono s3) e fun c' H' e1 e2 e3 => h3 σ c' H' e1 e2 e3 ((((er.mono s1).mono s2).mono s3).mono e3) (Keeps.refl _ _)
  · exact h3.elim
/-- a loop -/
theorem st_for {tg it : PySem.Expr} {body : List PySem.Stmt} {tg' : Tg} {it' : I} {b' : Ss} (hp : PassesOwn (model X.prog X.w) X.A X.env X.xe) (hc : X.calm = true) (hs : isSet it = false) (hi : PI X tg it (tI X.K X.mg Φ W it')) (hg : PG X tg (gT X.K tg')) (hb : PSs X body (tSs X.K X.mg Φ W b')) :
    PS X (.For tg it body [] pos) (tS X.K X.mg Φ W (.for tg' it' b')) := by
  refine impPS (ps_for hp hc hi hg hb (fold_no hs)) fun D σ H q => ?_
  obtain ⟨env, c, rel, er, h⟩ := q
  simp only [evS, slS] at h
  refine ⟨env, c, rel, er, PR.mono (PRS.bindE (RA := fun c xs J => ItOk X.K c xs J) h) fun J H1 ⟨c1, xs, rel1, s1, hit, h1⟩ => ?_⟩
  generalize hf : (fun (x : Kp.D) (env : Kp.Env) (S : Sto) => (opt (setTg tg' x env) S).bind fun env S => evSs Φ b' env S) = f at h1
  generalize hl : tgSl tg' ++ slSs b' = l at h1
  refine ⟨fun i m σ H => m = xs.length - i ∧ i ≤ xs.length ∧ ∃ env c2, Rel X.K c2 H ∧ Ext c1 c2 ∧ EnvR X.K c2 σ env ∧ PRS X.K X.mg W l σ c2 H (forL f (xs.drop i) env c2.S) D, ⟨_, rfl, Nat.zero_le _, env, c1, rel1, Ext.refl _, er.mono s1, by simpa using h1⟩, fun i m σ H hW => ?_⟩
  obtain ⟨rfl, hi, env, c2, rel2, x2, er2, h2⟩ := hW
  obtain ⟨hgo, hstop⟩ := hit c2 H x2 rel2
  by_cases hlt : i < xs.length
  · right
    obtain ⟨d, hd⟩ : ∃ d, xs[i]? = some d := ⟨xs[i], List.getElem?_eq_getElem hlt⟩
    obtain ⟨go, yld⟩ := hgo i d hd
    have hdrop : xs.drop i = d :: xs.drop (i + 1) := by
      rw [List.drop_eq_getElem_cons hlt]
      rw [List.getElem?_eq_getElem hlt] at hd
      cases hd
      rfl
    rw [hdrop] at h2
    unfold forL at h2
    refine ⟨go, fun σ H => i + 1 ≤ xs.length ∧ ∃ env c2, Rel X.K c2 H ∧ Ext c1 c2 ∧ EnvR X.K c2 σ env ∧ PRS X.K X.mg W l σ c2 H (forL f (xs.drop (i + 1)) env c2.S) D, fun σ' H' n => ⟨xs.length - (i + 1), by omega, rfl, n.1, n.2⟩, fun x H3 hy => ?_⟩
    obtain ⟨c3, es3, rel3, s3, rd3⟩ := yld x H3 hy
    have h3 := h2.step s3
    rw [← es3, ← hf] at h3
    cases e : setTg tg' d env with
    | none =>
      simp only [e, opt_none, R.bind_stuck] at h3
      exact h3.elim
    | some env' =>
      simp only [e, opt_some, R.bind_ok] at h3
      rw [hf] at h3
      refine ⟨env, c3, d, env', rel3, er2.mono s3, rd3, e, fun σ2 er3 kp => ⟨env', c3, rel3, er3, ?_⟩⟩
      have m1 : ∀ i, i ∈ tgSl tg' → i ∈ l := fun i hi => by rw [← hl]; exact List.mem_append_left _ hi
      have m2 : ∀ i, i ∈ slSs b' → i ∈ l := fun i hi => by rw [← hl]; exact List.mem_append_right _ hi
      have h4 := h3.keeps kp m1
      generalize evSs Φ b' env' c3.S = r at h4
      cases r with
      | stuck => exact h4
      | ok p S' =>
        obtain ⟨ctl, env1⟩ := p
        cases ctl with
        | nx =>
          intro σ' c' H' e1 e2 e3 e4 e5
          subst e1
          have h4 : PRS X.K X.mg W l σ2 c3 H3 (forL f (xs.drop (i + 1)) env1 c'.S) D := h4
          exact ⟨hlt, env1, c', e2, (x2.trans s3.ext').trans e3.ext', e4, (h4.step e3).keeps e5 m2⟩
        | ret d => exact fun v c' H' e1 e2 e3 e4 => h4 v c' H' e1 e2 e3 e4
      | exc cl fs S' => exact fun ca dd σ' c' H' e1 e2 e3 e4 => h4 ca dd σ' c' H' e1 e2 e3 (e4.sub m2)
  · left
    have ei : i = xs.length := by omega
    refine ⟨hstop i (by omega), ?_⟩
    rw [ei, List.drop_length] at h2
    unfold forL at h2
    exact h2 σ c2 H rfl rel2 (Stp.refl _ rel2.len) er2 (Keeps.refl _ _)

/-- x += e -/
theorem st_aug {x : Str} {p2 : Pos} {i : Nat} (nd : X.N.Nodup) (hN : X.N[i]? = some x) (hx : Loc X.env.scope x) (hf : X.fn x = true ∨ X.env.scope.names.lookup x = some .local) (ha : PE X a (tE X.K X.mg Φ W a')) : PS X (.AugAssign (.Name x p2) .Add a pos) (tS X.K X.mg Φ W (.aug i a')) := by
  refine impPS (ps_aug nd hN hx ha ip_add hf) fun D σ H q => ?_
  obtain ⟨env, c, rel, er, h⟩ := q
  simp only [evS, slS] at h
  split at h
  · rename_i d hd
    split at h
    · rename_i z hz
      obtain ⟨v, h1, h2⟩ := er.get i d hd
      refine ⟨v, h1, env, c, rel, er, PR.mono (PRS.bindE (RA := rD X.K) h) fun w H1 ⟨c1, y, rel1, s1, r1, h3⟩ => ?_⟩
      split at h3
      · rename_i b hb
        refine ⟨z, b, h2.int hz, r1.int hb, ?_⟩
        exact h3 _ c1 H1 rfl rel1 (Stp.refl _ rel1.len) ((er.mono s1).set (RD.mkInt _) i) ⟨by simp, fun j hj => by
          rw [List.getElem?_set_ne]
          intro e
          subst e
          exact hj List.mem_cons_self⟩
      · exact h3.elim
    · exact h.elim
  · exact h.elim
/-- while -/
theorem st_while {body : List PySem.Stmt} {b' : Ss} (hp : PassesOwn (model X.prog X.w) X.A X.env X.xe) (ha : PT X a (tT X.K X.mg Φ W a')) (hb : PSs X body (tSs X.K X.mg Φ W b')) : PS X (.While a body [] pos) (tS X.K X.mg Φ W (.whil a' b')) := by
  refine impPS (ps_while hp ha hb) fun D σ H q => ?_
  obtain ⟨env, c, rel, er, h⟩ := q
  simp only [evS, slS] at h
  generalize fuelW = n at h
  refine ⟨fun m σ H => ∃ env c, Rel X.K c H ∧ EnvR X.K c σ env ∧ PRS X.K X.mg W (slSs b') σ c H (whL (fun env S => evT Φ a' env S) (fun env S => evSs Φ b' env S) m env c.S) D, ⟨n, env, c, rel, er, h⟩, fun m σ H hW => ?_⟩
  obtain ⟨env, c, rel, er, h⟩ := hW
  cases m with
  | zero => exact h.elim
  | succ m =>
    unfold whL at h
    refine ⟨env, c, rel, er, PR.mono (PRS.bindE (RA := rB) h) fun b H1 ⟨c1, r, rel1, s1, e1, h1⟩ => ?_⟩
    have e1 : r = b := e1
    subst e1
    cases r with
    | false =>
      rw [if_neg Bool.false_ne_true] at h1 ⊢
      exact h1 σ c1 H1 rfl rel1 (Stp.refl _ rel1.len) (er.mono s1) (Keeps.refl _ _)
    | true =>
      rw [if_pos rfl] at h1 ⊢
      refine ⟨fun σ H => ∃ env c, Rel X.K c H ∧ EnvR X.K c σ env ∧ PRS X.K X.mg W (slSs b') σ c H (whL (fun env S => evT Φ a' env S) (fun env S => evSs Φ b' env S) m env c.S) D, fun σ' H' n => ⟨m, Nat.lt_succ_self m, n⟩, ?_⟩
      refine ⟨env, c1, rel1, er.mono s1, ?_⟩
      generalize evSs Φ b' env c1.S = r at h1
      cases r with
      | stuck => exact h1
      | ok p S' =>
        obtain ⟨ctl, env1⟩ := p
        cases ctl with
        | nx =>
          intro σ' c' H' e1 e2 e3 e4 e5
          subst e1
          have h4 : PRS X.K X.mg W (slSs b') σ c1 H1 (whL (fun env S => evT Φ a' env S) (fun env S => evSs Φ b' env S) m env1 c'.S) D := h1
          exact ⟨env1, c', e2, e4, (h4.step e3).keeps e5 fun _ h => h⟩
        | ret d => exact fun v c' H' e1 e2 e3 e4 => h1 v c' H' e1 e2 e3 e4
      | exc cl fs S' => exact fun ca dd σ' c' H' e1 e2 e3 e4 => h1 ca dd σ' c' H' e1 e2 e3 e4
end
end Kp
/-! Own errors over Exception, or over own errors over it, that keep what they are made with. -/
namespace Kp.Own
open PySem PySem.W PySem.Calls PyProof.Rows PySem.HandSPX
/-- own classes, then what stands over every error -/
inductive UpX : List Value → Prop
  | base : UpX PySem.ESX.exTail
  | own {c : Addr} {l : List Value} : UpX l → UpX (.ref c :: l)
theorem UpX.pass {l : List Value} (u : UpX l) (self : Value) : refuseLoop self "__setattr__" l = pure () := by
  induction u with
  | base => exact F.store_Exception.passes self
  | own _ ih => exact (refuseLoop_ref _ _ _ _).trans ih
theorem UpX.has {l : List Value} (u : UpX l) (n : String) : l.contains (.type n) = PySem.ESX.exTail.contains (.type n) := by
  induction u with
  | base => rfl
  | own _ ih => exact (List.contains_cons).trans ih
theorem UpX.some {l : List Value} (u : UpX l) : l.isEmpty = false := by cases u <;> rfl
section
open Builtin Builtin.ObjectAttr
variable {prog : Program} {w : World} {A : Around} {R : Result → Shared → Prop} {hp : Heap} {g : Array GenState} {d : Drawn} {t : Nat} {os : OsState} {K : Frag} {name : Str} {tk : Tok} {v : Value} {x C : Addr} {cd : ClassData}
theorem obj_in {ox : Obj} {od : Option Obj} (X : K.In hp) (I : InstAt hp x ox C od) (hcd : clsIn K C = some cd) (u : UpX cd.mro) : Looks (model prog w) hp (isInstance (.ref x) (.type "object")) true := by
  have hm : mroIn K C (.type "object") = some true := by
    have e := u.some
    have c := u.has "object"
    unfold mroIn
    rw [hcd]
    simp only [Option.bind_some, e, Bool.false_eq_true, if_false, c]
    decide +kernel
  exact I.type.andThen (looks_mroIn X hm)
theorem set_err {ox : Obj} {od : Option Obj} (X : K.In hp) (I : InstAt hp x ox C od) (hcd : clsIn K C = some cd) (u : UpX cd.mro) (no : findIn K (.ref C) name = some none)
    (go : wpAny (model prog w) A.in1 (storeInOwnDict (.ref x) (.ref C) (.str name tk) name v false)
      (fun fin s => match fin with | .done f => R (.ok f) s | .again c => c.quiet = true ∧ codeAny (model prog w) A c R s) (fun e s => R (.error e) s) ⟨hp, g, d, t, os⟩) :
    codeAny (model prog w) A (.call (.builtin "object.__setattr__") ⟨[.ref x, .str name tk, v], []⟩) R ⟨hp, g, d, t, os⟩ := by
  have chk : ∀ (E : Value → Shared → Prop) (Q : Unit → Shared → Prop), Q () ⟨hp, g, d, t, os⟩ →
      wpAny (model prog w) A.in1 (checkBuiltinCall "object.__setattr__" ⟨[.ref x, .str name tk, v], []⟩) Q E ⟨hp, g, d, t, os⟩ := fun E Q q =>
    check_slot (i := "object.__setattr__") (owner := "object") (n := "__setattr__") (self := .ref x) (rest := [.str name tk, v]) (kw := [])
      F.store_object.kind F.store_object.split (obj_in X I hcd u) (F.store_object.args (.ref x) (.str name tk) v) q
  refine codeAny_call_builtin F.store_object.slot.plain F.store_object.entry (chk _ _ ?_)
  rw [osa_eq, refuse_eq]
  refine wpAny_bind (wpAny_bind (I.type.at (wpAny_bind ?_)))
  refine Looks.at (((looks_clsIn X hcd).andThen .now : Looks (model prog w) hp (mroOf (.ref C)) cd.mro)) ?_
  rw [u.pass]
  refine wpAny_pure (wpAny_bind (I.type.at (wpAny_bind ?_)))
  refine (looks_findIn X no).at (wpAny_bind ?_)
  exact Looks.at (Looks.now : Looks (model prog w) hp (storeTaker? none) none) go
/-- an error as it was made, with the dict that it has -/
abbrev errO (C t0 : Addr) (dx : Option Addr) : Obj := { cls := .ref C, dict := dx, data := .fields #[.ref t0, .none, .none, .none, .bool false, .none] }
theorem set_first {t0 : Addr} (X : K.In hp) (hx : hp.get? x = some (errO C t0 none)) (hcd : clsIn K C = some cd) (u : UpX cd.mro) (hd : cd.hasDict = true) (no : findIn K (.ref C) name = some none)
    (go : ∀ h' tk' dx, (∀ b o, b ≠ x → hp.get? b = some o → h'.get? b = some o) → hp.objs.size ≤ dx → dx ≠ x → h'.get? x = some (errO C t0 (some dx)) → h'.Ns1 dx (fun y => if y = name then some v else none) → R (.ok (.ret .none)) ⟨h', g, d, tk', os⟩) :
    codeAny (model prog w) A (.call (.builtin "object.__setattr__") ⟨[.ref x, .str name tk, v], []⟩) R ⟨hp, g, d, t, os⟩ := by
  have fresh : x ≠ hp.objs.size := Nat.ne_of_lt (Heap.lt_size hx)
  refine set_err (od := none) X ⟨hx, rfl, rfl, trivial⟩ hcd u no ?_
  have lc := looks_clsIn (M := model prog w) X hcd
  obtain ⟨nm, bs, mro, ns, qn, hd', sn, sb, ab, col, dl⟩ := cd
  obtain rfl : hd' = true := hd
  unfold storeInOwnDict ownDictForStores
  repeat (first
    | with_reducible refine HandSPX.store_in_new ?_ ?_
    | with_reducible refine wpAny_loadPart_at hx ?_
    | with_reducible refine lc.at ?_
    | wp_step)
  · exact ⟨_, #[], _, Eq.trans (Heap.get?_update_ne _ _ x _ fresh.symm)
      (Heap.get?_push_at rfl rfl), rfl, fun _ z => absurd z (by simp), fun _ => rfl⟩
  · intro h' tk' ns' same
    have there : (hp.push { cls := .type "dict", data := .dict #[] }).get? x = some (errO C t0 none) := Heap.get?_push_of_some _ hx
    refine go h' tk' hp.objs.size (fun b o ne q => ?_) (Nat.le_refl _) fresh.symm ?_ ns'
    · rw [same.2 b (Nat.ne_of_lt (Heap.lt_size q)), Heap.get?_update_ne _ _ _ _ ne]
      exact Heap.get?_push_of_some _ q
    · rw [same.2 x fresh]
      exact Heap.get?_update_self _ there rfl
theorem set_next {t0 dx : Addr} {m0 : Str → Option Value} {nl : List Str} (X : K.In hp) (hx : hp.get? x = some (errO C t0 (some dx))) (hns : hp.Ns1 dx m0) (hw : Within m0 nl) (hz : nl.length ≤ 1000) (hcd : clsIn K C = some cd) (u : UpX cd.mro) (hd : cd.hasDict = true) (no : findIn K (.ref C) name = some none)
    (go : ∀ h' tk', (∀ b o, b ≠ dx → hp.get? b = some o → h'.get? b = some o) → h'.Ns1 dx (fun y => if y = name then some v else m0 y) → R (.ok (.ret .none)) ⟨h', g, d, tk', os⟩) :
    codeAny (model prog w) A (.call (.builtin "object.__setattr__") ⟨[.ref x, .str name tk, v], []⟩) R ⟨hp, g, d, t, os⟩ := by
  obtain ⟨oD, _, _, hoD, _, _⟩ := hns.count hw
  refine set_err (od := some oD) X ⟨hx, rfl, rfl, hoD⟩ hcd u no ?_
  have lc := looks_clsIn (M := model prog w) X hcd
  obtain ⟨nm, bs, mro, ns, qn, hd', sn, sb, ab, col, dl⟩ := cd
  obtain rfl : hd' = true := hd
  unfold storeInOwnDict ownDictForStores
  repeat (first
    | with_reducible refine PySem.ESX.store_in_old hns hw hz ?_
    | with_reducible refine wpAny_loadPart_at hx ?_
    | with_reducible refine lc.at ?_
    | wp_step)
  intro h' tk' ns' same
  exact go h' tk' (fun b o ne q => (same.2 b ne).trans q) ns'
end
end Kp.Own
namespace Kp.Own
open PySem PySem.W PySem.Calls PyProof.Rows PySem.HandSPX
/-- what is asked of an own class of errors -/
structure ErrC (K : Frag) (C fI : Addr) : Prop where
  cls : ∃ nm q N bs bm sn sub ab col dd k0 k1 k2 k3 k5, K.lookup C = some (excClassObj nm q C N bs bm true sn sub ab col dd k0 k1 k2 k3 k5 "Exception.__new__") ∧ UpX bm
  sa : findIn K (.ref C) "__setattr__" = some (some (.builtin "object.__setattr__"))
  iC : findIn K (.ref C) "__init__" = some (some (.ref fI))
  tC : typeIn K (.ref fI) = some (.type "function")
theorem ErrC.data {K : Frag} {C fI : Addr} (T : ErrC K C fI) : ∃ cd, clsIn K C = some cd ∧ UpX cd.mro ∧ cd.hasDict = true := by
  obtain ⟨nm, q, N, bs, bm, sn, sub, ab, col, dd, k0, k1, k2, k3, k5, hC, u⟩ := T.cls
  refine ⟨{ name := nm, bases := bs, mro := .ref C :: bm, ns := N, qualname := q, hasDict := true, slotNames := sn, subclasses := sub, abstract := ab, collection := col, hasDel := false }, ?_, .own u, rfl⟩
  unfold clsIn
  rw [hC] <;> rfl
section
variable {prog : Program} {w : World} {A : Around} {E : Value → Shared → Prop} {R : Result → Shared → Prop} {s : Shared} {K : Frag} {C fI : Addr}
theorem ld_loc {M : Model} {s : Shared} {nm : Str} {sc : Scope} {L a : Addr} {cd : Value} {m : Str → Option Value} {x : Str} {pos : Pos} {v : Value} {Q : Value → Shared → Prop} {A : Around} {E : Value → Shared → Prop}
    (hn : s.heap.Ns L m) (hv : m x = some v) (h : Q v s) (hk : sc.kind = .function := by rfl) (hl : (envOfC nm sc L a cd).kindOf x = some .local := by rfl) (hd : (x == ("__debug__" : Str)) = false := by decide) :
    wpAny M A (eval (.Name x pos) (envOfC nm sc L a cd)) Q E s :=
  wpAny_Name (wpAny_loadName_local hk hl hn hv h) hd
def iA_row (p0 p1 : Pos) : Arguments := { posonlyargs := [], args := [{ arg := "self", annotation := none, pos := p0 }, { arg := "row", annotation := none, pos := p1 }], vararg := none, kwonlyargs := [], kw_defaults := [], kwarg := none, defaults := [] }
def iB_row (a0 b0 c0 d0 : Pos) : List Stmt := [.Assign [.Attribute (.Name "self" a0) "row" b0] (.Name "row" c0) d0]
def iS_row : Scope := { kind := .function, names := [(PySem.Str.ofString "self", .local), (PySem.Str.ofString "row", .local)], isGenerator := false, isCoroutine := false, more := [] }
structure Init_row (K : Frag) (C fI : Addr) : Prop where
  fn : ∃ (qn : Str) (oc : Value) (od : Option Addr) (doc pm : Value) (an : Option Addr) (cdv ct : Value) (osl : Array (Option Value)) (p0 p1 a0 b0 c0 d0 : Pos),
    K.lookup fI = some ⟨oc, od, .func (fnOf "__init__" qn (iA_row p0 p1) (iB_row a0 b0 c0 d0) iS_row .none .none doc pm an cdv ct), osl⟩ ∧ codeIn K cdv qn = true
  n0 : findIn K (.ref C) "row" = some none
theorem init_row (T : ErrC K C fI) (I : Init_row K C fI) {x t0 : Addr} {v0 : Value} (X : K.In s.heap) (hlim : s.heap.NoLimit) (hx : s.heap.get? x = some (errO C t0 none)) (room : A.depth < recursionLimit)
    (go : ∀ h tk dx, (∀ b o, b ≠ x → s.heap.get? b = some o → h.get? b = some o) → s.heap.objs.size ≤ dx → dx ≠ x → h.get? x = some (errO C t0 (some dx)) → h.Ns1 dx (fun y => if y = "row" then some v0 else none) → R (.ok (.ret .none)) { s with heap := h, toks := tk }) :
    codeAny (model prog w) A (.call (.ref fI) ⟨[.ref x, v0], []⟩) R s := by
  obtain ⟨qn, oc, od, doc, pm, an, cdv, ct, osl, p0, p1, a0, b0, c0, d0, ho, hcd⟩ := I.fn
  obtain ⟨cd, hcl, up, hd⟩ := T.data
  refine Att.call_fn (binds := [("self", .ref x), ("row", v0)]) X hlim ho hcd room (BindsTo.of_eq (by first | rfl | with_unfolding_all rfl)) (by first | rfl | decide | with_unfolding_all rfl) (fun s₁ IC => ?_) rfl rfl rfl
  obtain ⟨h1, tk1, rfl⟩ := IC.toInCall.same
  have k1 : ∀ b o, s.heap.get? b = some o → h1.get? b = some o := IC.toInCall.keep
  have hn := IC.toInCall.ns
  have xL : s.heap.objs.size ≠ x := Nat.ne_of_gt (Heap.lt_size hx)
  have X1 : K.In h1 := X.keeps k1
  have hx1 := k1 _ _ hx
  have big : s.heap.objs.size < h1.objs.size := hn.lt
  show wpAny _ _ (execs _ _) _ _ _
  refine wpAny_execs_cons (plainObj_wpAny_Assign_Attribute ?_)
  refine ld_loc (v := v0) hn (by first | rfl | with_unfolding_all rfl | kernel_rfl) (ld_loc (v := .ref x) hn (by first | rfl | with_unfolding_all rfl | kernel_rfl) ?_)
  refine set_plain X1 (ox := errO C t0 none) (od := none) ⟨hx1, rfl, rfl, trivial⟩ T.sa ?_
  refine set_first X1 hx1 hcl up hd I.n0 (fun h2 tk2 dx k2 dn dne hx2 ns2 => ?_)
  show wpAny _ _ (execs _ _) _ _ _
  have old2 : ∀ b o, b ≠ x → s.heap.get? b = some o → h2.get? b = some o := fun b o e q => k2 b o e (k1 b o q)
  exact wpAny_execs_nil (go h2 tk2 dx old2 (Nat.le_of_lt (Nat.lt_of_lt_of_le big dn)) dne hx2 ns2)
structure Made_row (h h2 : Heap) (e C d : Addr) (v0 : Value) : Prop where
  keep : ∀ b o, h.get? b = some o → h2.get? b = some o
  new : h.objs.size ≤ e
  obj : ∃ t0, h2.get? e = some (errO C t0 (some d))
  dbig : h.objs.size ≤ d
  dne : d ≠ e
  ns : h2.Ns1 d (fun y => if y = "row" then some v0 else none)
theorem made_row (T : ErrC K C fI) (I : Init_row K C fI) {v0 : Value} (X : K.In s.heap) (hlim : s.heap.NoLimit) (room : A.depth + 1 < recursionLimit)
    (go : ∀ h tk e d, Made_row s.heap h e C d v0 → R (.ok (.ret (.ref e))) { s with heap := h, toks := tk }) :
    codeAny (model prog w) A (.call (.ref C) ⟨[v0], []⟩) R s := by
  obtain ⟨nm, q, N, bs, bm, sn, sub, ab, col, dd, k0, k1, k2, k3, k5, hC, hbm⟩ := T.cls
  obtain ⟨hp, g, dr, tk, os⟩ := s
  have two : ∀ b o, hp.get? b = some o → ((hp.push (kdv_tup [v0])).push (excO C hp.objs.size)).get? b = some o := fun b o e =>
    Heap.get?_push_of_some _ (Heap.get?_push_of_some _ e)
  have new : ((hp.push (kdv_tup [v0])).push (excO C hp.objs.size)).get? (hp.objs.size + 1) = some (errO C hp.objs.size none) := by heap_get
  refine call_own F.excBase_Exception (fun n => hbm.has n) (X _ _ hC) (looks_findIn X T.iC) (fun self => bind_fn X self T.tC) (by rw [sizeLine_eq]; show 1 ≤ 16777216; decide) ?_
  refine init_row (s := ⟨(hp.push (kdv_tup [v0])).push (excO C hp.objs.size), g, dr, tk, os⟩) T I (X.keeps two) (hlim.keeps two) new room fun h2 tk2 dx old dn dne hx hns => ?_
  have keep : ∀ b o, hp.get? b = some o → h2.get? b = some o := fun b o e =>
    old b o (Nat.ne_of_lt (Nat.lt_succ_of_lt (Heap.lt_size e))) (two b o e)
  have z : hp.objs.size + 1 + 1 ≤ dx := by
    have q := dn
    first
      | exact q
      | (rw [Heap.size_push, Heap.size_push] at q; exact q)
      | (simpa only [Heap.size_push] using q)
  exact ⟨rfl, go h2 tk2 (hp.objs.size + 1) dx ⟨keep, Nat.le_succ _, ⟨_, hx⟩, Nat.le_trans (Nat.le_trans (Nat.le_succ _) (Nat.le_succ _)) z, dne, hns⟩⟩

end
end Kp.Own
namespace L2
open PySem PySem.Spec PyProof.Rows
section
variable {X : Cx}
theorem relO_row {v : V} {u : Value} (r : RelV v u) (g : Str) : RelO (List.lookup g [(("row" : Str), v)]) (if g = "row" then some u else none) := by
  by_cases h : g = "row"
  · subst h
    have q : List.lookup ("row" : Str) [(("row" : Str), v)] = some v := by simp [List.lookup]
    rw [if_pos rfl, q]
    exact r
  · have e : (g == ("row" : Str)) = false := by simpa using h
    have q : List.lookup g [(("row" : Str), v)] = none := by simp [List.lookup, e]
    rw [if_neg h, q]
    trivial
/-- C(e), what it keeps told in a dict of its own -/
def tMk_row (C : Addr) (ta : TA) : St → Hp → XK → Prop := fun σ H Q => ta σ H fun vs H1 => ∃ v0, vs = [v0] ∧ ∀ d, H1 d = none → Q (.ref C) (some d) (upd H1 d (.xd [(("row" : Str), v0)]))
theorem pmk_row {C fI : Addr} {x : Str} {es : List Expr} {ta : TA} {p pos : Pos} {k : Nat} (T : Kp.Own.ErrC X.K C fI) (I0 : Kp.Own.Init_row X.K C fI) (gC : X.mg x = some (.ref C)) (kC : PySem.W.keepIn X.K (.ref C) = true) (rz : PySem.W.subIn X.K (.ref C) (.type "BaseException") = some true) (ty : PySem.W.typeIn X.K (.ref C) = some (.type "type"))
    (hr : Room k X.A) (ha : PA X es ta) (hg : Gl X x) (hd : (x == ("__debug__" : Str)) = false) (e0 : Expr) (r0 : List Expr) (hes : es = e0 :: r0)
    (he : starEach es X.env = (false, eval e0 X.env) :: starEach r0 X.env) (hpl : (backTo pos (starEach r0 X.env)).any (·.1) = false) :
    PMk X (.Call (.Name x p) es [] pos) (tMk_row C ta) := by
  subst hes
  intro pins s σ H Q I h
  refine wpAny_Call_Name_kw (ld_glob I hg gC ?_ hd)
  refine PySem.W.callWith_K (h₀ := X.base) I.ok.mod.kin kC (thn (ha.run pos pins s σ H _ I h) fun us s1 hh => ?_) he hpl
  obtain ⟨vs, H1, I1, r1, v0, ev, q1⟩ := hh
  subst ev
  refine ⟨I1.kIn, ?_⟩
  cases r1 with
  | cons rv rn =>
    rename_i u0 us
    cases rn
    show wpAny _ _ (call (.ref C) [u0]) _ _ _
    have lim1 := I1.nolimit
    obtain ⟨hp, g, dr, tk, os⟩ := s1
    refine wpAny_call (Kp.Own.made_row T I0 I1.kIn lim1 (by have := hr.dp; omega) fun h2 tk2 e d M => ?_)
    show MkP X pins σ Q (.ref e) ⟨h2, g, dr, tk2, os⟩
    obtain ⟨t0, hoe⟩ := M.obj
    obtain ⟨G, g1, g2⟩ := restrict h2 fun b => decide (b ≠ e)
    have gk : ∀ b, b ≠ e → G.get? b = h2.get? b := fun b hb => g1 b (decide_eq_true hb)
    have ge : G.get? e = none := g2 e (by simp)
    have old : ∀ b o, hp.get? b = some o → G.get? b = some o := fun b o q =>
      (gk b (Nat.ne_of_lt (Nat.lt_of_lt_of_le (Heap.lt_size q) M.new))).trans (M.keep b o q)
    have ob : ObjOk X.prog X.w (upd H1 d (.xd [(("row" : Str), v0)])) G d (.xd [(("row" : Str), v0)]) :=
      ⟨_, M.ns.at (fun o q => (gk d M.dne).trans q), fun f => relO_row rv f⟩
    have J : Inv X pins σ (upd H1 d (.xd [(("row" : Str), v0)])) ⟨G, g, dr, tk2, os⟩ := I1.laid (t' := tk2) old M.dbig ob
    refine ⟨e, _, _, ⟨G, g, dr, tk2, os⟩, _, .ref C, some d, rfl, J, fun b o q => ?_, ge, hoe, ⟨rfl, rfl⟩, rfl, rfl, ?_, rfl, I1.bare, raises_own rz ty, q1 d (I1.hok.fresh M.dbig)⟩
    · by_cases hb : b = e
      · have q2 : G.get? b = some o := q
        rw [hb, ge] at q2
        cases q2
      · exact (gk b hb).symm.trans q
    · rw [upd_ne (Ne.symm M.dne)]
      exact I1.hok.fresh M.new

end
end L2
/-! An error that is caught and kept. -/
namespace Kp
open PySem L2
section
variable {X : Cx} {pins : List (Addr × Obj)} {σ : L2.St} {H : Hp} {s : Shared}
theorem add_ext (I : L2.Inv X pins σ H s) {a : Addr} {oe : Obj} {vs : Array Value} (ha : s.heap.get? a = some oe) (hd : oe.data = .fields vs) (hH : H a = none) (hl : a ≠ X.env.locals) (h0 : ∀ b o, X.s_0.heap.get? b = some o → b ∉ X.ex → b ≠ a) (hp : ∀ p ∈ X.pn ++ pins, p.1 ≠ a) : L2.Inv X pins σ (upd H a (veryObj a oe)) s := by
  have keep : ∀ b o, H b = some o → upd H a (veryObj a oe) b = some o := fun b o hb => by
    have ne : b ≠ a := fun e => by rw [e, hH] at hb; cases hb
    rw [upd_ne ne]
    exact hb
  refine ⟨I.ok, I.os, I.bare, ⟨I.base.keep, I.base.slot, fun b o h1 h2 h3 => ?_, I.base.there, fun b xs h => keep b _ (I.base.tups b xs h), fun b o u h => keep b _ (I.base.frzs b o u h), fun b ps h => ?_⟩, I.loc, I.cell, ?_, fun y c hc => ?_, fun p q => ?_, fun b o h => ?_, I.len⟩
  · rw [upd_ne (h0 b o h1 h3)]
    exact I.base.free b o h1 h2 h3
  · obtain ⟨more, h2⟩ := I.base.tbls b ps h
    exact ⟨more, keep b _ h2⟩
  · rw [upd_ne (Ne.symm hl)]
    exact I.free
  · have ne : c ≠ a := fun e => by
      obtain ⟨v, o, h1, h2⟩ := I.cell y c hc
      rw [e, ha] at h1
      cases h1
      rw [hd] at h2
      cases h2
    rw [upd_ne ne]
    exact I.freeC y c hc
  · obtain ⟨h1, h2, h3, h4, h5⟩ := I.pin p q
    refine ⟨h1, ?_, h3, h4, h5⟩
    rw [upd_ne (hp p q)]
    exact h2
  · by_cases e : b = a
    · subst e
      rw [upd_same] at h
      cases h
      exact ⟨ha, ⟨oe, ha⟩, fun h1 h2 q1 q2 => q2 _ q1⟩
    · rw [upd_ne e] at h
      exact (I.hok b o h).stay (fun _ _ _ hw => hw) (fun c hc => keep c _ hc) (fun c xs hc => keep c _ hc)
/-- what is wanted where an error is caught and kept in a slot -/
def wKeep (K : PySem.W.Frag) (c : Value) (i j : Nat) (D : L2.Ends) : WX := fun cls d σ H => PySem.W.exmOne K cls c = some true ∧ ∀ (a : Addr) (oe : Obj) (vs : Array Value), H a = none → oe.cls = cls → oe.dict = d → oe.data = .fields vs → D.nx (((σ.set i (some (.ref a))).set j (some (.ref a))).set i none) (upd H a (veryObj a oe))
theorem ps_try_keep {x n kv : Str} {c : Value} {i j : Nat} {body : List PySem.Stmt} {np pos pos' p1 p2 p3 : Pos} {tb : WX → L2.TS} (hs : X.stack = X.env :: X.outer) (hf : X.env.frame = some X.env.locals) (nd : X.N.Nodup) (hN : X.N[i]? = some n) (hln : X.env.kindOf n = some .local) (hj : X.N[j]? = some kv) (hlk : X.env.scope.names.lookup kv = some .local)
    (n1 : (n == ("__debug__" : Str)) = false) (n2 : (n == ("__classdict__" : Str)) = false)
    (hc : Names X x c)
    (hb : ∀ (W : WX) (pn : List (Addr × Obj)) (xe : Value → Shared → Prop), Takes (X.tr pn xe) W → PassesOwn (model X.prog X.w) X.A X.env xe → PSs (X.tr pn xe) body (tb W)) :
    PS X (.Try body [.ExceptHandler (some (.Name x np)) (some n) [.Assign [.Name kv p1] (.Name n p2) p3] pos'] [] [] pos) (fun D σ H => tb (wKeep X.K c i j D) D σ H) := by
  refine ⟨fun pins s σ H D I h => ?_⟩
  have ok := I.ok
  have hfr : X.A.frames = some (X.env :: X.outer) := by rw [ok.frames, hs]
  have hloc : L2.Loc X.env.scope n := .inl hln
  refine wpAny_Try_except (PySem.wpAny_mono ((hb (wKeep X.K c i j D) (X.pn ++ pins) (fun e s₁ => wpAny (model X.prog X.w) X.A (noteFrame e X.env) (fun _ s₂ => wpAny (model X.prog X.w) X.A (setFlight e none) (fun _ s₃ => wpAny (model X.prog X.w) X.A (handleBy e X.env [.ExceptHandler (some (.Name x np)) (some n) [.Assign [.Name kv p1] (.Name n p2) p3] pos']) (SP X pins D) X.xe s₃) X.xe s₂) X.xe s₁) ?tk PassesOwn.looking).run [] s σ H D (I.toTry _) h) (fun f s1 hsp => ?nx) (fun e s1 he => he))
  case nx =>
    cases f with
    | next =>
      obtain ⟨σ', H', J', q⟩ := hsp
      exact wpAny_execs_nil ⟨σ', H', J'.ofTry ok, q⟩
    | brk =>
      obtain ⟨σ', H', J', q⟩ := hsp
      exact ⟨σ', H', J'.ofTry ok, q⟩
    | cont =>
      obtain ⟨σ', H', J', q⟩ := hsp
      exact ⟨σ', H', J'.ofTry ok, q⟩
    | ret u =>
      obtain ⟨v, σ', H', J', r, q⟩ := hsp
      exact ⟨v, σ', H', J'.ofTry ok, r, q⟩
  case tk =>
    rintro u s' ⟨a, B, sI, pins', σ', H', cls, d, rfl, J', nb, up, sky, na, os, ag, hb1, hyes⟩
    have J := J'.ofTry ok
    have sky' : Sky B (X.env :: X.outer) a (Zc cls d) X.env.locals s'.heap := by rw [← hs]; exact sky
    show wpAny (model X.prog X.w) X.A (noteFrame (.ref a) X.env) _ X.xe s'
    refine Sky.land Zc.steady hfr hf sky' fun h3 fl3 up3 => ?_
    have J3 : L2.Inv X pins σ' H' ⟨h3, s'.gens, s'.drawn, s'.toks, s'.os⟩ := J.landed nb fl3.1 (up.trans up3) os ag
    obtain ⟨oe3, vs3, he3, hz3, hd3⟩ := fl3.there
    have nfr : a ∉ (X.env :: X.outer).filterMap (·.frame) := fun hm => by
      obtain ⟨_, o, ho, hnf⟩ := fl3.2.2.1.mem hm
      rw [he3] at ho
      cases ho
      exact hnf vs3 hd3
    have nL : a ≠ X.env.locals := fun z => nfr (List.mem_filterMap.mpr ⟨X.env, List.mem_cons_self, by rw [hf, z]⟩)
    have nF : a ∉ X.fs := fun hm => by
      obtain ⟨e, he, q⟩ := List.mem_filterMap.mp hm
      exact nfr (List.mem_filterMap.mpr ⟨e, List.mem_cons_of_mem _ he, q⟩)
    have S3 := J3.suite he3 hd3 na nL nF
    refine wpAny_handleBy_cons (codeAny_handlers_test ?_) (fun q => nomatch q)
    have LM := PySem.W.exm_one (M := model X.prog X.w) J3.kIn (fun A Q E s k q => wpAny_typeOf_ref (k a oe3 he3) (by rw [hz3.1]; exact q)) hb1
    have test : ∀ {Q : Value → Shared → Prop} {E : Value → Shared → Prop}, Q c ⟨h3, s'.gens, s'.drawn, s'.toks, s'.os⟩ → wpAny (model X.prog X.w) (X.A.mark (some (.ref a))) (eval (.Name x np) X.env) Q E ⟨h3, s'.gens, s'.drawn, s'.toks, s'.os⟩ := fun {Q E} q => by
      obtain ⟨hg, hdbg, hm | ⟨hm, hv, hnn⟩⟩ := hc
      · exact ld_glob S3 hg hm q hdbg
      · exact ld_blt S3 hg hm hv q hnn hdbg
    refine test (PySem.W.Looks.here LM ?_)
    refine codeAny_handlers_suite_as (HandSPX.lands_againZ fl3 fun h4 fl4 up4 => ?_)
    have J4 : L2.Inv X pins σ' H' ⟨h4, s'.gens, s'.drawn, s'.toks, s'.os⟩ := J.landed nb fl4.1 ((up.trans up3).trans up4) os ag
    obtain ⟨oe4, vs4, he4, hz4, hd4⟩ := fl4.there
    have S4 := J4.suite he4 hd4 na nL nF
    refine store_ok (X := X.suite a ((a, oe4) :: (X.pn ++ pins))) S4 nd hN hloc (v := .ref a) rfl (fun s5 S5 => ?_) (.inr hln)
    have vn : Vis (X.suite a ((a, oe4) :: (X.pn ++ pins))).env.scope n := .inl hln
    have hi : i < σ'.length := by rw [J.len]; exact (List.getElem?_eq_some_iff.mp hN).1
    refine wpAny_execs_cons (wpAny_Assign_Name (raw_name (X := X.suite a ((a, oe4) :: (X.pn ++ pins))) hN vn S5 (v := .ref a) (List.getElem?_set_self hi) (fun u r => ?_) n1 n2) (by rfl))
    refine store_ok (X := X.suite a ((a, oe4) :: (X.pn ++ pins))) S5 nd hj (.inl hlk) r (fun s6 S6 => ?_) (.inr hlk)
    refine wpAny_execs_nil ?_
    refine gone_ok (X := X.suite a ((a, oe4) :: (X.pn ++ pins))) S6 nd hN hln fun s7 S7 => ?_
    have p7 := (S7.pin (a, oe4) (List.mem_append_left _ List.mem_cons_self)).1
    have newA : ∀ b o, sI.heap.get? b = some o → b ≠ a := fun b o hb e => by
      subst e
      have hB := nb b o hb (by rw [hs]; exact nfr)
      rw [fl4.2.1] at hB
      cases hB
    refine ⟨_, _, add_ext (S7.unsuite ok) p7 hd4 na nL (fun b o h1 h2 => ?_) (fun p hp => ?_), hyes a oe4 vs4 na hz4.1 hz4.2 hd4⟩
    · obtain ⟨o', h3'⟩ := J.base.there b o h1 h2
      exact newA b o' h3'
    · exact newA _ _ (J.pin p hp).1
/-- what is known of an own class of errors -/
structure ExcFacts (K : PySem.W.Frag) (mg : Str → Option Value) (cl : String) (C : Addr) : Prop where
  ns : PySem.W.nsIn K mainGlobals (Str.ofString cl) = some (some (.ref C))
  gC : mg (Str.ofString cl) = some (.ref C)
  kC : PySem.W.keepIn K (.ref C) = true
  ex : cl ∉ inited → PySem.W.excIn K C [.type "Exception", .type "BaseException", .type "object"] "Exception.__new__" = true
  sb : PySem.W.subIn K (.ref C) (.type "BaseException") = some true
  ty : PySem.W.typeIn K (.ref C) = some (.type "type")
  cc : ExcC K C
  ini : cl ∈ rowed → ∃ fI, Kp.Own.ErrC K C fI ∧ Kp.Own.Init_row K C fI
variable {Φ : Kp.Or} {W : WX}
theorem impPS' {st : PySem.Stmt} {t t' : L2.TS} (h : PS X st t') (i : ∀ D σ H, t D σ H → t' D σ H) : PS X st t := ⟨fun pins s σ H D I q => h.run pins s σ H D I (i D σ H q)⟩
theorem st_raise {cl : String} {x m : Str} {j : Nat} {p p2 p3 pos : Pos} {C : Addr} (hc : X.calm = true) (tk : Takes X W) (F : ExcFacts X.K X.mg cl C) (hx : Str.ofString cl = x) (hg : Gl X x) (hd : (x == ("__debug__" : Str)) = false) (hin : cl ∉ inited) :
    PS X (.Raise (some (.Call (.Name x p) [.Constant (.str m) j p2] [] p3)) none pos) (tS X.K X.mg Φ W (.raise cl)) := by
  subst hx
  refine impPS' (ps_raise hc tk (pmk_own PySem.F.excBase_Exception (F.ex hin) F.gC F.kC (raises_own F.sb F.ty) hg hd)) fun D σ H q => ?_
  obtain ⟨env, c, rel, er, h⟩ := q
  simp only [evS] at h
  exact h C none σ c H rfl rel (Stp.refl _ rel.len) (Keeps.refl _ _) F.gC (.inl ⟨rfl, rfl⟩)
theorem st_raiseF {cl : String} {x : Str} {e : PySem.Expr} {e' : Kp.E} {k : Nat} {p p3 pos : Pos} {C : Addr} (hc : X.calm = true) (tk : Takes X W) (F : ExcFacts X.K X.mg cl C) (hx : Str.ofString cl = x) (hg : Gl X x) (hd : (x == ("__debug__" : Str)) = false) (hr : cl ∈ rowed) (rm : Room k X.A) (hs : isStar e = false) (ha : PE X e (tE X.K X.mg Φ W e')) :
    PS X (.Raise (some (.Call (.Name x p) [e] [] p3)) none pos) (tS X.K X.mg Φ W (.raiseF cl "row" e')) := by
  subst hx
  obtain ⟨fI, T, I0⟩ := F.ini hr
  have ns : noStar [e] = true := by simp [noStar, hs]
  refine impPS' (ps_raise hc tk (L2.pmk_row T I0 F.gC F.kC F.sb F.ty rm (pa_cons ha pa_nil (se_cons hs _ X.env)) hg hd e [] rfl (se_cons hs _ X.env) rfl)) fun D σ H q => ?_
  obtain ⟨env, c, rel, er, h⟩ := q
  simp only [evS] at h
  refine ⟨env, c, rel, er, PR.mono (PRS.bindE (RA := rD X.K) h) fun v H1 ⟨c1, x, rel1, s1, r1, h1⟩ => ?_⟩
  cases x with
  | t x =>
    simp only at h1
    by_cases fl : flatT x = true
    · rw [if_pos fl] at h1
      refine ⟨v, rfl, fun d hd => ?_⟩
      obtain ⟨rel2, s2⟩ := rel1.lay (o := .xd [(("row" : Str), v)]) hd
      refine h1 C (some d) σ ⟨upd c1.G d (.xd [(("row" : Str), v)]), c1.ρ, c1.S⟩ _ rfl rel2 s2 (Keeps.refl _ _) F.gC (.inr ⟨by simp, d, _, rfl, upd_same, fun f y hf => ?_⟩)
      by_cases e : f = "row"
      · subst e
        have e1 : y = x := by
          have z : List.lookup "row" [("row", x)] = some x := by simp [List.lookup]
          rw [z] at hf
          exact (Option.some.inj hf).symm
        subst e1
        refine ⟨v, by simp [List.lookup], ?_⟩
        exact RT.mono s2.ext _ r1.t
      · have z : List.lookup f [("row", x)] = none := by
          have : (f == "row") = false := by simpa using e
          simp [List.lookup, this]
        rw [z] at hf
        cases hf
    · rw [if_neg fl] at h1
      exact h1.elim
  | _ => exact h1.elim
/-- e.f, e a kept error with a dict of its own -/
def tKf (K : PySem.W.Frag) (f : Str) (te : L2.TE) : L2.TE := fun σ H Q => te σ H fun x H1 => ∃ (a : Addr) (oe : Obj) (C dd : Addr) (vs : Array Value) (fs : List (Str × V)) (v : V), x = .ref a ∧ H1 a = some (veryObj a oe) ∧ oe.cls = .ref C ∧ oe.data = .fields vs ∧ oe.dict = some dd ∧ ExcC K C ∧ PySem.W.findIn K (.ref C) f = some none ∧
  H1 dd = some (.xd fs) ∧ fs.lookup f = some v ∧ Q v H1
theorem pe_kf {e : PySem.Expr} {te : L2.TE} {pos : Pos} {n : Str} (he : PE X e te) (hb : attributeBase e n X.env (eval e X.env) = eval e X.env) : PE X (.Attribute e n pos) (tKf X.K n te) := by
  refine ⟨fun pins s σ H Q I h => ?_⟩
  refine attr_of hb (thn (he.run pins s σ H _ I h) fun u s1 hh => ?_)
  obtain ⟨x, H1, I1, rx, a, oe, C, dd, vs, fs, v, ex, ha, ec, hd, ed, cc, hno, ea, l, q⟩ := hh
  subst ex
  obtain rfl : u = Value.ref a := rx
  have at_ : s1.heap.get? a = some oe := (I1.hok a _ ha).1
  have hx : ObjOk X.prog X.w H1 s1.heap dd (.xd fs) := I1.hok dd _ ea
  obtain ⟨mA, hns, hr⟩ := hx
  obtain ⟨od, ho, hl⟩ := lookIn_ns hns
  obtain ⟨u, hu, ru⟩ := RelO.some_of (v := v) (o := mA n) (by rw [← l]; exact hr n)
  have J : PySem.W.InstAt s1.heap a oe C (some od) := ⟨at_, ec, by unfold PySem.W.notCls; rw [hd] <;> rfl, by rw [ed]; exact ho⟩
  exact HandSPX.exc_get I1.kIn J cc.hg cc.hk cc.hs (PySem.W.findObj_own cc.hd hno rfl (by rw [hl, hu])) (handed_of ru) ⟨v, H1, I1.tok _, ru, q⟩
theorem s_fld {e : PySem.Expr} {e' : Kp.E} {cs : List String} {pos : Pos} (hcs : ∀ cl ∈ cs, cl ∈ rowed ∧ ∃ C, ExcFacts X.K X.mg cl C) (he : PE X e (tE X.K X.mg Φ W e')) (hb : attributeBase e "row" X.env (eval e X.env) = eval e X.env) : PE X (.Attribute e "row" pos) (tE X.K X.mg Φ W (.fld e' "row" cs)) := by
  refine impPE (pe_kf he hb) fun σ H Q q => ?_
  obtain ⟨env, c, rel, er, h⟩ := q
  simp only [evE] at h
  refine ⟨env, c, rel, er, PR.mono (PR.bind (RA := rD X.K) h) fun v H1 ⟨c1, x, rel1, s1, r1, h1⟩ => ?_⟩
  cases e : fldV x "row" cs with
  | none => rw [e] at h1; exact h1.elim
  | some y =>
    rw [e] at h1
    cases x with
    | exc cl fs =>
      unfold fldV at e
      simp only at e
      split at e
      · rename_i hin
        obtain ⟨hrw, C, FC⟩ := hcs cl (List.contains_iff_mem.mp hin)
        split at e
        · rename_i xx hl
          cases e
          unfold RD at r1
          obtain ⟨a, oe, C', vs, rfl, g1, g2, g3, g4, g5⟩ := r1
          have eC : C = C' := by
            have z := FC.ns
            rw [g3] at z
            cases z
            rfl
          subst eC
          obtain ⟨fI, T, I0⟩ := FC.ini hrw
          rcases g5 with ⟨rfl, _⟩ | ⟨_, d, vs2, g5, g6, g7⟩
          · cases hl
          · obtain ⟨v2, k1, k2⟩ := g7 _ _ hl
            refine ⟨a, oe, C, d, vs, vs2, v2, rfl, rel1.sub _ _ g1, g2, g4, g5, FC.cc, I0.n0, rel1.sub _ _ g6, k1, ?_⟩
            exact PR.now h1 rel1 (by unfold rD RD; exact k2)
        · cases e
      · cases e
    | _ => cases e
theorem wipeE_get : ∀ (l : List Nat) (env : Env) (m : Nat) (d : D), (wipeE env l)[m]? = some (some d) → m ∉ l ∧ env[m]? = some (some d)
  | [], env, m, d, h => ⟨List.not_mem_nil, h⟩
  | v :: vs, env, m, d, h => by
    unfold wipeE at h
    by_cases e : v = m
    · subst e
      by_cases hl : v < (wipeE env vs).length
      · rw [List.getElem?_set_self hl] at h
        cases h
      · rw [List.getElem?_eq_none_iff.mpr (by rw [List.length_set]; omega)] at h
        cases h
    · rw [List.getElem?_set_ne e] at h
      obtain ⟨h1, h2⟩ := wipeE_get vs env m d h
      exact ⟨fun z => by
        rcases List.mem_cons.mp z with q | q
        · exact e q.symm
        · exact h1 q, h2⟩
theorem wipeE_len : ∀ (l : List Nat) (env : Env), (wipeE env l).length = env.length
  | [], _ => rfl
  | v :: vs, env => by
    unfold wipeE
    rw [List.length_set, wipeE_len vs env]
theorem st_try {b' : Ss} {cs : List String} {x n kv : Str} {xc : Value} {i j : Nat} {body : List PySem.Stmt} {np pos pos' p1 p2 p3 : Pos} (hs : X.stack = X.env :: X.outer) (hf : X.env.frame = some X.env.locals) (nd : X.N.Nodup) (hN : X.N[i]? = some n) (hln : X.env.kindOf n = some .local) (hj : X.N[j]? = some kv) (hlk : X.env.scope.names.lookup kv = some .local)
    (n1 : (n == ("__debug__" : Str)) = false) (n2 : (n == ("__classdict__" : Str)) = false) (hij : i ≠ j)
    (hc : Names X x xc) (hcs : ∀ cl ∈ cs, ∃ C, ExcFacts X.K X.mg cl C ∧ PySem.W.exmOne X.K (.ref C) xc = some true)
    (hb : ∀ (W : WX) (pn : List (Addr × Obj)) (xe : Value → Shared → Prop), Takes (X.tr pn xe) W → PassesOwn (model X.prog X.w) X.A X.env xe → PSs (X.tr pn xe) body (tSs X.K X.mg Φ W b')) :
    PS X (.Try body [.ExceptHandler (some (.Name x np)) (some n) [.Assign [.Name kv p1] (.Name n p2) p3] pos'] [] [] pos) (tS X.K X.mg Φ W (.tryK i j b' cs)) := by
  refine impPS' (ps_try_keep hs hf nd hN hln hj hlk n1 n2 hc hb) fun D σ H q => ?_
  obtain ⟨env, c, rel, er, h⟩ := q
  simp only [evS, slS] at h
  refine ⟨env, c, rel, er, ?_⟩
  generalize evSs Φ b' env c.S = r at h
  cases r with
  | stuck => exact h
  | ok p S' =>
    obtain ⟨ctl, env'⟩ := p
    cases ctl with
    | nx => exact fun σ' c' H' e1 e2 e3 e4 e5 => h σ' c' H' e1 e2 e3 e4 (e5.sub fun m hm => List.mem_cons_of_mem _ (List.mem_cons_of_mem _ hm))
    | ret d => exact h
  | exc cl fs S' =>
    intro ca dd σ' c' H' e1 rel' st' kp hmg ex
    have h' : PRS X.K X.mg W (i :: j :: slSs b') σ c H (if cs.contains cl = true then R.ok (Ctl.nx, ((wipeE env (slSs b')).set j (some (.exc cl fs))).set i none) S' else R.stuck) D := h
    split at h'
    · rename_i hcl
      obtain ⟨C, F, hx⟩ := hcs cl (List.contains_iff_mem.mp hcl)
      have eC : C = ca := by
        have z := F.gC
        rw [hmg] at z
        cases z
        rfl
      subst eC
      refine ⟨hx, fun a oe vs na o1 o2 o3 => ?_⟩
      obtain ⟨rel2, s2⟩ := rel'.lay (o := veryObj a oe) na
      refine h' _ ⟨upd c'.G a (veryObj a oe), c'.ρ, c'.S⟩ _ e1 rel2 (st'.trans s2) ⟨?_, fun m d hm => ?_⟩ ⟨?_, fun m hm => ?_⟩
      · simp only [List.length_set, wipeE_len]
        rw [er.len, kp.1]
      · by_cases mi : i = m
        · subst mi
          exfalso
          by_cases hl : i < ((wipeE env (slSs b')).set j (some (Kp.D.exc cl fs))).length
          · rw [List.getElem?_set_self hl] at hm
            cases hm
          · rw [List.getElem?_eq_none_iff.mpr (by rw [List.length_set]; omega)] at hm
            cases hm
        · rw [List.getElem?_set_ne mi] at hm ⊢
          by_cases mj : j = m
          · subst mj
            have hl : j < (wipeE env (slSs b')).length := by
              have := (List.getElem?_eq_some_iff.mp hm).1
              rw [List.length_set] at this
              exact this
            rw [List.getElem?_set_self hl] at hm
            cases hm
            rw [wipeE_len, er.len, ← kp.1] at hl
            refine ⟨.ref a, by rw [List.getElem?_set_self (by rw [List.length_set]; exact hl)], ?_⟩
            unfold RD
            exact ⟨a, oe, C, vs, rfl, upd_same, o1, F.ns, o3, by rw [o2]; exact ExcG.mono s2.ext ex⟩
          · rw [List.getElem?_set_ne mj] at hm ⊢
            rw [List.getElem?_set_ne mi]
            obtain ⟨w1, w2⟩ := wipeE_get _ _ _ _ hm
            obtain ⟨v, q1, q2⟩ := er.get m d w2
            exact ⟨v, by rw [kp.2 m w1]; exact q1, q2.mono (st'.trans s2)⟩
      · simp only [List.length_set]
        exact kp.1
      · simp only [List.mem_cons, not_or] at hm
        rw [List.getElem?_set_ne (Ne.symm hm.1), List.getElem?_set_ne (Ne.symm hm.2.1), List.getElem?_set_ne (Ne.symm hm.1)]
        exact kp.2 m hm.2.2
    · exact h'.elim
theorem cls_of {K : PySem.W.Frag} {C : Addr} (cc : ExcC K C) : (PySem.W.clsIn K C).isSome = true := by
  obtain ⟨cd, hc, _⟩ := PySem.W.any_some cc.hd
  rw [hc]
  rfl
theorem inst_of {pins : List (Addr × Obj)} {σ : L2.St} {H : Hp} {s : Shared} {a C : Addr} {oe : Obj} {vs : Array Value} (I : L2.Inv X pins σ H s) (at_ : s.heap.get? a = some oe) (o1 : oe.cls = .ref C) (o2 : oe.data = .fields vs) (o3 : oe.dict = none ∨ ∃ dd fs, oe.dict = some dd ∧ H dd = some (.xd fs)) : ∃ od, PySem.W.InstAt s.heap a oe C od := by
  rcases o3 with o3 | ⟨dd, fs, o3, hd⟩
  · exact ⟨none, at_, o1, by unfold PySem.W.notCls; rw [o2], by rw [o3]; trivial⟩
  · have hx : ObjOk X.prog X.w H s.heap dd (.xd fs) := I.hok dd _ hd
    obtain ⟨mA, hns, _⟩ := hx
    obtain ⟨od, ho, _⟩ := lookIn_ns hns
    exact ⟨some od, at_, o1, by unfold PySem.W.notCls; rw [o2], by rw [o3]; exact ho⟩
/-- isinstance of an error, of None, by an own class -/
def rIsK (K : PySem.W.Frag) : List V → Hp → VK → Prop := fun xs H Q =>
  (∃ a oe C D vs b, xs = [.ref a, .ref D] ∧ H a = some (veryObj a oe) ∧ oe.cls = .ref C ∧ oe.data = .fields vs ∧ (oe.dict = none ∨ ∃ dd fs, oe.dict = some dd ∧ H dd = some (.xd fs)) ∧ ExcC K C ∧ PySem.W.kitOne K (.ref C) (.ref D) = some b ∧ Q (.bl b) H) ∨
  ∃ D b, xs = [.non, .ref D] ∧ PySem.W.kitOne K (.type "NoneType") (.ref D) = some b ∧ Q (.bl b) H
theorem call_isK : CallR X (.builtin "isinstance") (rIsK X.K) := by
  intro pins s σ H xs us Q I vals h
  rcases h with ⟨a, oe, C, D, vs, b, rfl, ha, o1, o2, o3, cc, hb, q⟩ | ⟨D, b, rfl, hb, q⟩
  · cases vals with
    | cons r1 vals =>
      cases vals with
      | cons r2 vals =>
        cases vals
        cases r1
        cases r2
        have hcl : (PySem.W.clsIn X.K C).isSome = true := cls_of cc
        have at_ : s.heap.get? a = some oe := (I.hok a _ ha).1
        obtain ⟨od, J⟩ := inst_of I at_ o1 o2 o3
        have hk := PySem.W.kitx_exc (x := a) (ox := oe) (od := od) hcl cc.hg cc.hk cc.hs cc.ha cc.hn cc.ht cc.hm
        refine PySem.W.kia_one hk I.kIn J hb (by intro e; cases e) fun tk => ?_
        exact ⟨.bl b, H, I.tok tk, rfl, q⟩
  · cases vals with
    | cons r1 vals =>
      cases vals with
      | cons r2 vals =>
        cases vals
        cases r2
        obtain ⟨P, k1, k2, k3⟩ := kit_of I r1 (TyX.base TyOf.non)
        refine PySem.W.kia_one k1 I.kIn k2 hb k3 fun tk => ?_
        exact ⟨.bl b, H, I.tok tk, rfl, q⟩
theorem lookup_pair {cl : String} {r : Bool} : ∀ {tb : List (String × Bool)}, tb.lookup cl = some r → ∃ pr ∈ tb, pr.1 = cl ∧ pr.2 = r
  | [], e => by simp at e
  | y :: ys, e => by
    obtain ⟨y1, y2⟩ := y
    rw [List.lookup_cons] at e
    split at e
    · rename_i hy
      cases e
      exact ⟨_, List.mem_cons_self, (beq_iff_eq.mp hy).symm, rfl⟩
    · obtain ⟨pr, h1, h2⟩ := lookup_pair e
      exact ⟨pr, List.mem_cons_of_mem _ h1, h2⟩
theorem s_isx {a : PySem.Expr} {a' : E} {tb : List (String × Bool)} {dn : String} {t : Str} {D : Addr} {p p2 pos : Pos} (F : ExcFacts X.K X.mg dn D) (hx : Str.ofString dn = t) (hgt : Gl X t) (hdt : (t == ("__debug__" : Str)) = false)
    (hg : Gl X "isinstance") (hm : X.mg "isinstance" = none) (hs : isStar a = false)
    (htb : ∀ q ∈ tb, ∃ C, ExcFacts X.K X.mg q.1 C ∧ PySem.W.kitOne X.K (.ref C) (.ref D) = some q.2) (hn : PySem.W.kitOne X.K (.type "NoneType") (.ref D) = some false) (ha : PE X a (tE X.K X.mg Φ W a')) :
    PE X (.Call (.Name "isinstance" p) [a, .Name t p2] [] pos) (tE X.K X.mg Φ W (.isx a' tb)) := by
  subst hx
  have ns : noStar [PySem.Expr.Name (Str.ofString dn) p2] = true := rfl
  refine impPE (pe_callB call_isK hg hm PyProof.Rows.boot_isinstance (pa_cons ha (pa_cons (pe_glob (v := .ref D) hgt F.gC rfl hdt) pa_nil) (se_cons hs _ X.env)) (by decide) (by decide) (se_cons hs _ X.env) (se_any _ X.env pos ns)) fun σ H Q q => ?_
  obtain ⟨env, c, rel, er, h⟩ := q
  simp only [evE] at h
  refine ⟨env, c, rel, er, PR.mono (PR.bind (RA := rD X.K) h) fun v H1 ⟨c1, x, rel1, s1, r1, h1⟩ => ?_⟩
  cases e : isxV x tb with
  | none => rw [e] at h1; exact h1.elim
  | some r =>
    rw [e] at h1
    have q := PR.now h1 rel1 (RD.mkBl r)
    unfold isxV at e
    split at e
    · rename_i cl
      obtain ⟨pr, hp1, hp2⟩ := lookup_pair e
      obtain ⟨C, FC, hk⟩ := htb pr hp1
      rw [hp2.1] at FC
      rw [hp2.2] at hk
      unfold RD at r1
      obtain ⟨b, oe, C', vs, rfl, g1, g2, g3, g4, g5⟩ := r1
      have eC : C = C' := by
        have z := FC.ns
        rw [g3] at z
        cases z
        rfl
      subst eC
      rcases g5 with ⟨_, g5⟩ | ⟨_, d, vs2, g5, g6, _⟩
      · exact .inl ⟨b, oe, C, D, vs, r, rfl, rel1.sub _ _ g1, g2, g4, .inl g5, FC.cc, hk, q⟩
      · exact .inl ⟨b, oe, C, D, vs, r, rfl, rel1.sub _ _ g1, g2, g4, .inr ⟨d, vs2, g5, rel1.sub _ _ g6⟩, FC.cc, hk, q⟩
    · cases e
      have z := r1.t
      unfold RT at z
      subst z
      exact .inr ⟨D, false, rfl, hn, q⟩
    · cases e
end
end Kp
/-! isinstance of a kept error by a tuple of own classes. -/
namespace Kp
open PySem PySem.Spec L2
theorem notDbg_ok {x : Str} (h : notDbg x = true) : (x == ("__debug__" : Str)) = false ∧ (x == ("__classdict__" : Str)) = false ∧ x ≠ "__name__" := by
  unfold notDbg at h
  simp only [Bool.and_eq_true, Bool.not_eq_true'] at h
  exact ⟨h.1.1, h.1.2, of_decide_eq_false h.2⟩
theorem gl_of {X : Cx} {sc : Scope} {x : Str} (hs : X.env.scope = sc) (h : isGlo sc x = true) : Gl X x := by
  unfold isGlo kindS at h
  unfold Gl
  show X.env.scope.names.lookup x = _
  rw [hs]
  split at h
  · assumption
  · cases h
section
variable {X : Cx} {Φ : Kp.Or} {W : WX}
/-- isinstance of an error, of None, by a tuple of own classes -/
def rIsT (K : PySem.W.Frag) : List V → Hp → VK → Prop := fun xs H Q => ∃ (x : V) (tp : Addr) (as : List Addr) (b : Bool), xs = [x, .ref tp] ∧ H tp = some (.tup (as.map V.ref)) ∧ Q (.bl b) H ∧
  ((∃ a oe C vs, x = .ref a ∧ H a = some (veryObj a oe) ∧ oe.cls = .ref C ∧ oe.data = .fields vs ∧ (oe.dict = none ∨ ∃ dd fs, oe.dict = some dd ∧ H dd = some (.xd fs)) ∧ ExcC K C ∧ PySem.W.kitAny K (.ref C) (as.map Value.ref) = some b) ∨
  (x = .non ∧ PySem.W.kitAny K (.type "NoneType") (as.map Value.ref) = some b))
theorem vals_refs : ∀ {as : List Addr} {us : List Value}, Vals (as.map V.ref) us → us = as.map Value.ref
  | [], _, .nil => rfl
  | a :: as, _, .cons r t => by
    rw [List.map_cons, ← vals_refs t, show _ = Value.ref a from r]
theorem call_isT : CallR X (.builtin "isinstance") (rIsT X.K) := by
  intro pins s σ H xs us Q I r h
  obtain ⟨x, tp, as, b, rfl, hT, q, h⟩ := h
  cases r with
  | cons r1 r =>
    cases r with
    | cons r2 r =>
      cases r
      cases r2
      obtain ⟨_, its, rv, o, h1, h2, n, h3⟩ := (show ObjOk X.prog X.w H s.heap tp (.tup (as.map V.ref)) from I.hok tp _ hT)
      have e3 := vals_refs rv
      subst e3
      obtain ⟨oc, od, dt, sl⟩ := o
      simp only at h2 h3
      subst h2 h3
      rcases h with ⟨a, oe, C, vs, rfl, ha, o1, o2, o3, cc, hb⟩ | ⟨rfl, hb⟩
      · cases r1
        have at_ : s.heap.get? a = some oe := (I.hok a _ ha).1
        obtain ⟨od, J⟩ := inst_of I at_ o1 o2 o3
        have hk := PySem.W.kitx_exc (x := a) (ox := oe) (od := od) (cls_of cc) cc.hg cc.hk cc.hs cc.ha cc.hn cc.ht cc.hm
        exact PySem.W.kia_tup hk I.kIn J h1 hb (by intro e; cases e) fun tk => ⟨.bl b, H, I.tok tk, rfl, q⟩
      · obtain ⟨P, k1, k2, k3⟩ := kit_of I r1 (TyX.base TyOf.non)
        exact PySem.W.kia_tup k1 I.kIn k2 h1 hb k3 fun tk => ⟨.bl b, H, I.tok tk, rfl, q⟩
/-- the classes' names, one by one -/
theorem pa_cls {ci : CI} {sc : Scope} {adr : String → Addr} (hsc : X.env.scope = sc) (F : ∀ cl ∈ ci.excs, ExcFacts X.K X.mg cl (adr cl)) : ∀ {ts : List PySem.Expr} {ds : List String}, clsOf ci sc ts = some ds → PA X ts (fun _ H Q => Q (ds.map fun d => V.ref (adr d)) H) ∧ noStar ts = true ∧ (∀ d ∈ ds, d ∈ ci.excs)
  | [], ds, h => by
    unfold clsOf at h
    cases h
    exact ⟨pa_nil, rfl, fun _ h => absurd h List.not_mem_nil⟩
  | e :: r, ds, h => by
    unfold clsOf at h
    split at h
    · rename_i hz; cases hz
    · rename_i t p r' hz
      cases hz
      split at h
      · cases h
      · rename_i hd
        simp only [Bool.or_eq_true, not_or, Bool.not_eq_true, Bool.not_eq_eq_eq_not, Bool.not_true, Bool.not_eq_false] at hd
        split at h
        · rename_i d ds' h1 h2
          cases h
          obtain ⟨e1, e2⟩ := findN_some h1
          obtain ⟨q1, q2, q3⟩ := pa_cls hsc F h2
          subst e1
          refine ⟨?_, ?_, fun d' hd' => ?_⟩
          · have z := pa_cons (pe_glob (X := X) (pos := p) (v := .ref (adr d)) (gl_of hsc hd.2) (F d e2).gC rfl (notDbg_ok hd.1).1) q1 (se_cons rfl _ X.env)
            exact ⟨fun pos pins s σ H Q I q => z.run pos pins s σ H Q I q⟩
          · exact q2
          · rcases List.mem_cons.mp hd' with rfl | hd'
            · exact e2
            · exact q3 _ hd'
        · cases h
    · cases h
theorem any_sub {ci : CI} {K : PySem.W.Frag} {adr : String → Addr} {t : Value} {c : String} (hk : ∀ d, ∀ b, (subsOf ci d).lookup c = some b → PySem.W.kitOne K t (.ref (adr d)) = some b) : ∀ {ds : List String} {b : Bool}, anySub ci c ds = some b → PySem.W.kitAny K t (ds.map fun d => Value.ref (adr d)) = some b
  | [], b, h => by
    unfold anySub at h
    cases h
    rfl
  | d :: ds, b, h => by
    unfold anySub at h
    split at h
    · rename_i e
      cases h
      exact kitAny_cons (hk d _ e) (fun z => nomatch z) fun _ => rfl
    · rename_i e
      exact kitAny_cons (hk d _ e) (fun _ => any_sub hk h) fun z => nomatch z
    · cases h
theorem none_any {K : PySem.W.Frag} {adr : String → Addr} : ∀ {ds : List String}, (∀ d ∈ ds, PySem.W.kitOne K (.type "NoneType") (.ref (adr d)) = some false) → PySem.W.kitAny K (.type "NoneType") (ds.map fun d => Value.ref (adr d)) = some false
  | [], _ => rfl
  | d :: ds, h => kitAny_cons (h d List.mem_cons_self) (fun _ => none_any fun d' hd => h d' (List.mem_cons_of_mem _ hd)) fun z => nomatch z
theorem subsAny_mem {ci : CI} {ds : List String} {q : String × Bool} (h : q ∈ subsAny ci ds) : q.1 ∈ ci.excs ∧ anySub ci q.1 ds = some q.2 := by
  unfold subsAny at h
  obtain ⟨c, h1, h2⟩ := List.mem_filterMap.mp h
  split at h2
  · rename_i b e
    cases h2
    exact ⟨h1, e⟩
  · cases h2
theorem s_isT {ci : CI} {sc : Scope} {adr : String → Addr} {a : PySem.Expr} {a' : E} {ts : List PySem.Expr} {ds : List String} {kk} {p p2 pos : Pos} (hsc : X.env.scope = sc) (F : ∀ cl ∈ ci.excs, ExcFacts X.K X.mg cl (adr cl))
    (hsub : ∀ q ∈ ci.subs, q.1 ∈ ci.excs ∧ q.2.1 ∈ ci.excs ∧ PySem.W.kitOne X.K (.ref (adr q.1)) (.ref (adr q.2.1)) = some q.2.2) (hnn : ∀ d ∈ ci.excs, PySem.W.kitOne X.K (.type "NoneType") (.ref (adr d)) = some false)
    (hts : clsOf ci sc ts = some ds) (hl : ds.length ≤ lim) (hg : Gl X "isinstance") (hm : X.mg "isinstance" = none) (hs : isStar a = false) (ha : PE X a (tE X.K X.mg Φ W a')) :
    PE X (.Call (.Name "isinstance" p) [a, .Tuple ts kk p2] [] pos) (tE X.K X.mg Φ W (.isx a' (subsAny ci ds))) := by
  obtain ⟨q1, q2, q3⟩ := pa_cls hsc F hts
  have ns : noStar [PySem.Expr.Tuple ts kk p2] = true := rfl
  refine impPE (pe_callB call_isT hg hm PyProof.Rows.boot_isinstance (pa_cons ha (pa_cons (pe_tup q1) pa_nil) (se_cons hs _ X.env)) (by decide) (by decide) (se_cons hs _ X.env) (se_any _ X.env pos ns)) fun σ H Q q => ?_
  obtain ⟨env, c, rel, er, h⟩ := q
  simp only [evE] at h
  refine ⟨env, c, rel, er, PR.mono (PR.bind (RA := rD X.K) h) fun v H1 ⟨c1, x, rel1, s1, r1, h1⟩ => ?_⟩
  refine ⟨by rw [List.length_map]; unfold lim at hl; exact Nat.le_trans hl (by decide), fun tp htp => ?_⟩
  obtain ⟨rel2, s2⟩ := rel1.lay (o := .tup (ds.map fun d => V.ref (adr d))) htp
  cases e : isxV x (subsAny ci ds) with
  | none => rw [e] at h1; exact h1.elim
  | some r =>
    rw [e] at h1
    have q : Q (.bl r) _ := h1 (.bl r) ⟨upd c1.G tp (.tup (ds.map fun d => V.ref (adr d))), c1.ρ, c1.S⟩ _ rfl rel2 s2 (RD.mkBl r)
    have em : (ds.map fun d => V.ref (adr d)) = (ds.map adr).map V.ref := by rw [List.map_map]; rfl
    have em2 : (ds.map adr).map Value.ref = ds.map fun d => Value.ref (adr d) := by rw [List.map_map]; rfl
    refine ⟨v, tp, ds.map adr, r, rfl, by rw [← em]; exact upd_same, q, ?_⟩
    rw [em2]
    have r2 := r1.mono s2
    unfold isxV at e
    split at e
    · rename_i cl fs0
      obtain ⟨pr, hp1, hp2⟩ := lookup_pair e
      obtain ⟨m1, m2⟩ := subsAny_mem hp1
      rw [hp2.1] at m1 m2
      rw [hp2.2] at m2
      unfold RD at r2
      obtain ⟨b, oe, C', vs, rfl, g1, g2, g3, g4, g5⟩ := r2
      have FC := F cl m1
      have eC : adr cl = C' := by
        have z := FC.ns
        rw [g3] at z
        cases z
        rfl
      subst eC
      have hk := any_sub (K := X.K) (adr := adr) (t := .ref (adr cl)) (fun d b' hb => by
        obtain ⟨pr2, y1, y2⟩ := lookup_pair hb
        unfold subsOf at y1
        obtain ⟨q', y3, y4⟩ := List.mem_filterMap.mp y1
        split at y4
        · rename_i y5
          cases y4
          have z := (hsub q' y3).2.2
          rw [y5, show q'.1 = cl from y2.1, show q'.2.2 = b' from y2.2] at z
          exact z
        · cases y4) m2
      rcases g5 with ⟨_, g5⟩ | ⟨_, d, vs2, g5, g6, _⟩
      · exact .inl ⟨b, oe, adr cl, vs, rfl, rel2.sub _ _ g1, g2, g4, .inl g5, FC.cc, hk⟩
      · exact .inl ⟨b, oe, adr cl, vs, rfl, rel2.sub _ _ g1, g2, g4, .inr ⟨d, vs2, g5, rel2.sub _ _ g6⟩, FC.cc, hk⟩
    · cases e
      have z := r2.t
      unfold RT at z
      exact .inr ⟨z, none_any fun d hd => hnn d (q3 d hd)⟩
    · cases e
end
end Kp
/-! What the translation says is so: by the depth of the syntax. -/
namespace Kp
open PySem L2
/-- the built-in names that are spoken of -/
def bNames : List Str := ["set", "sorted", "repr", "dict", "len", "all", "any", "max", "min", "int", "list", "isinstance", "str", "bool", "tuple", "range", "enumerate", "zip"]
structure GC (ci : CI) (Φ : Kp.Or) (P : Program) (w : World) (K : PySem.W.Frag) (mg : Str → Option Value) (base : Heap) (k : Nat) : Prop where
  fns : ∀ f ∈ ci.fns, ∃ fa fd ps, mg (Str.ofString f) = some (.ref fa) ∧ PySem.W.keepIn K (.ref fa) = true ∧ Binds K fd ps [] ∧ FnG P w K mg base (L2.CX P w) k fa fd ps (spR K mg Φ f) ∧ ∀ q ∈ ci.kws, q.f = f → KwB K fd ps q
  glb : ∀ p ∈ ci.glb, ∃ v u, mg (Str.ofString p.1) = some u ∧ RelV v u ∧ ∀ G, RT K G p.2 v
  blt : ∀ x ∈ bNames, mg x = none
  exc : ∃ adr : String → Addr, (∀ cl ∈ ci.excs, ExcFacts K mg cl (adr cl)) ∧ (∀ q ∈ ci.subs, q.1 ∈ ci.excs ∧ q.2.1 ∈ ci.excs ∧ PySem.W.kitOne K (.ref (adr q.1)) (.ref (adr q.2.1)) = some q.2.2 ∧ PySem.W.exmOne K (.ref (adr q.1)) (.ref (adr q.2.1)) = some q.2.2) ∧ ∀ d ∈ ci.excs, PySem.W.kitOne K (.type "NoneType") (.ref (adr d)) = some false
abbrev GX (ci : CI) (Φ : Kp.Or) (X : Cx) (k : Nat) : Prop := GC ci Φ X.prog X.w X.K X.mg X.base k
theorem cBi_mem {x : Str} {m : Nat} {b : Bi} (h : cBi x m = some b) : x ∈ bNames := by
  unfold cBi at h
  unfold bNames
  repeat' split at h
  all_goals first | (rename_i e; rw [e.1]; simp; done) | cases h
theorem tyOf_mem {x : Str} {t : Ty} (h : tyOf x = some t) : x ∈ bNames := by
  unfold tyOf at h
  unfold bNames
  split at h
  · rename_i e; rw [e]; simp
  · split at h
    · rename_i e; rw [e]; simp
    · split at h
      · rename_i e; rw [e]; simp
      · split at h
        · rename_i e; rw [e]; simp
        · split at h
          · rename_i e; rw [e]; simp
          · cases h
theorem vis_of {X : Cx} {sc : Scope} {x : Str} (hs : X.env.scope = sc) (h : isVis sc x = true) : Vis X.env.scope x := by
  unfold isVis kindS at h
  unfold Vis
  rw [hs]
  split at h
  · left; assumption
  · right; left; assumption
  · right; right; assumption
  · cases h
/-- a test by the value's truth -/
def Gen (Φ : Kp.Or) (e : E) : Prop := ∀ env S, evT Φ e env S = (evE Φ e env S).bind fun d S => opt (truth S d) S
theorem gen_var (Φ : Kp.Or) (i : Nat) : Gen Φ (.var i) := fun env S => by
  simp only [evT, evE]
  split <;> rfl
theorem gen_k (Φ : Kp.Or) (x : T) : Gen Φ (.k x) := fun env S => by simp only [evT, evE, R.bind_ok]
theorem gen_bi (Φ : Kp.Or) (b : Bi) (es : Es) : Gen Φ (.bi b es) := fun env S => by simp only [evT, evE, R.bind_assoc]
theorem gen_idx (Φ : Kp.Or) (a b : E) : Gen Φ (.idx a b) := fun env S => by simp only [evT, evE, R.bind_assoc]
theorem gen_call (Φ : Kp.Or) (f : String) (es : Es) (ad : CM) : Gen Φ (.call f es ad) := fun env S => by simp only [evT, evE, R.bind_assoc]
theorem gen_froz (Φ : Kp.Or) (e : E) : Gen Φ (.froz e) := fun env S => by simp only [evT, evE]
theorem gen_isi (Φ : Kp.Or) (e : E) (t : Ty) : Gen Φ (.isi e t) := fun env S => by
  simp only [evT, evE, R.bind_assoc]
  congr 1
  funext d S
  cases isTy S d t with
  | none => rfl
  | some r => rfl
theorem gen_isx (Φ : Kp.Or) (e : E) (tb : List (String × Bool)) : Gen Φ (.isx e tb) := fun env S => by
  simp only [evT, evE, R.bind_assoc]
  congr 1
  funext d S
  cases isxV d tb with
  | none => rfl
  | some r => rfl
theorem subs_mem {ci : CI} {d : String} {p : String × Bool} (h : p ∈ subsOf ci d) : (p.1, d, p.2) ∈ ci.subs := by
  unfold subsOf at h
  obtain ⟨q, hq, e⟩ := List.mem_filterMap.mp h
  obtain ⟨q1, q2, q3⟩ := q
  split at e
  · rename_i e2
    cases e
    have e2 : q2 = d := e2
    subst e2
    exact hq
  · cases e
theorem p_stuck {X : Cx} {e : PySem.Expr} {t : TT} (h : ∀ σ H Q, ¬ t σ H Q) : PT X e t := ⟨fun _ _ σ H Q _ q => (h σ H Q q).elim⟩
theorem tT_stuck {K : PySem.W.Frag} {mg : Str → Option Value} {Φ : Kp.Or} {W : WX} {e : E} (h : ∀ env S, evT Φ e env S = .stuck) : ∀ σ H Q, ¬ tT K mg Φ W e σ H Q := fun σ H Q q => by
  obtain ⟨env, c, _, _, q⟩ := q
  rw [h] at q
  exact q
/-- what is so of the expressions of this depth -/
structure SndE (ci : CI) (Φ : Kp.Or) (k n : Nat) : Prop where
  e : ∀ (X : Cx) (sc : Scope) (N : List Str) (W : WX), CC X sc N k W → GX ci Φ X k → ∀ e e', cE ci sc N n e = some e' → PE X e (tE X.K X.mg Φ W e') ∧ ((∀ e'', cellE e' = some e'' → PE X e (tE X.K X.mg Φ W e'')) ∧ PE X e (tE X.K X.mg Φ W (cellD e'))) ∧ PT X e (tT X.K X.mg Φ W e')
  w : ∀ (X : Cx) (sc : Scope) (N : List Str) (W : WX), CC X sc N k W → GX ci Φ X k → ∀ o es p e', cE ci sc N n (.BoolOp o es p) = some e' → PW X (.BoolOp o es p) (tT X.K X.mg Φ W e')
  es : ∀ (X : Cx) (sc : Scope) (N : List Str) (W : WX), CC X sc N k W → GX ci Φ X k → ∀ es es', cEs ci sc N n es = some es' → PA X es (tEs X.K X.mg Φ W es') ∧ noStar es = true ∧ es.length = nEs es' ∧ PA X es (tEs X.K X.mg Φ W (keepAs es')) ∧ PA X es (tEs X.K X.mg Φ W (cellAs es')) ∧ PA X es (tEs X.K X.mg Φ W (cellDs es'))
  fs : ∀ (X : Cx) (sc : Scope) (N : List Str) (W : WX), CC X sc N k W → GX ci Φ X k → ∀ es es', cFs ci sc N n es = some es' → PF X Φ W es es'
  kk : ∀ (X : Cx) (sc : Scope) (N : List Str) (W : WX), CC X sc N k W → GX ci Φ X k → ∀ ks es', cK ci sc N n ks = some es' → PK X ks (tEs X.K X.mg Φ W es') ∧ ks.length = nEs es'
  o : ∀ (X : Cx) (sc : Scope) (N : List Str) (W : WX), CC X sc N k W → GX ci Φ X k → ∀ o o', cO ci sc N n o = some o' → PO X o (tO X.K X.mg Φ W o')
  c : ∀ (X : Cx) (sc : Scope) (N : List Str) (W : WX), CC X sc N k W → GX ci Φ X k → ∀ o o', cC ci sc N n o = some o' → PTs X o (tQ X.K X.mg Φ W o')
  i : ∀ (X : Cx) (sc : Scope) (N : List Str) (W : WX), CC X sc N k W → GX ci Φ X k → ∀ it tg i', cI ci sc N n it tg = some i' → PI X tg it (tI X.K X.mg Φ W i')
section
variable {ci : CI} {Φ : Kp.Or} {k n : Nat} {X : Cx} {sc : Scope} {N : List Str} {W : WX}
theorem bool_one (ih : SndE ci Φ k n) (C : CC X sc N k W) (g : GX ci Φ X k) {o : BoolOp} {a : PySem.Expr} {p : Pos} {e' : E} (h : cE ci sc N n a = some e') :
    PE X (.BoolOp o [a] p) (tE X.K X.mg Φ W e') ∧ ((∀ e'', cellE e' = some e'' → PE X (.BoolOp o [a] p) (tE X.K X.mg Φ W e'')) ∧ PE X (.BoolOp o [a] p) (tE X.K X.mg Φ W (cellD e'))) ∧ PW X (.BoolOp o [a] p) (tT X.K X.mg Φ W e') := by
  obtain ⟨h1, ⟨h2, h4⟩, h3⟩ := ih.e X sc N W C g a e' h
  refine ⟨pe_one h1, ⟨fun e'' he => pe_one (h2 e'' he), pe_one h4⟩, ?_⟩
  cases o with
  | And => exact pw_and1 h3
  | Or => exact pw_or1 h3
theorem snd_w (ih : SndE ci Φ k n) (C : CC X sc N k W) (g : GX ci Φ X k) {o : BoolOp} {es : List PySem.Expr} {p : Pos} {e' : E} (h : cE ci sc N (n + 1) (.BoolOp o es p) = some e') : PW X (.BoolOp o es p) (tT X.K X.mg Φ W e') := by
  cases es with
  | nil => cases o <;> (simp only [cE] at h; cases h)
  | cons a r =>
    cases r with
    | nil =>
      have h : cE ci sc N n a = some e' := by simpa only [cE] using h
      exact (bool_one ih C g h).2.2
    | cons b r =>
      cases o with
      | And =>
        simp only [cE] at h
        split at h
        · rename_i a' b' ha hb
          cases h
          exact p_and (ih.e X sc N W C g _ _ ha).2.2 (ih.w X sc N W C g _ _ _ _ hb)
        · cases h
      | Or =>
        simp only [cE] at h
        split at h
        · rename_i a' b' ha hb
          cases h
          exact p_or (ih.e X sc N W C g _ _ ha).2.2 (ih.w X sc N W C g _ _ _ _ hb)
        · cases h
theorem snd_es (ih : SndE ci Φ k n) (C : CC X sc N k W) (g : GX ci Φ X k) {es : List PySem.Expr} {es' : Es} (h : cEs ci sc N (n + 1) es = some es') : PA X es (tEs X.K X.mg Φ W es') ∧ noStar es = true ∧ es.length = nEs es' ∧ PA X es (tEs X.K X.mg Φ W (keepAs es')) ∧ PA X es (tEs X.K X.mg Φ W (cellAs es')) ∧ PA X es (tEs X.K X.mg Φ W (cellDs es')) := by
  cases es with
  | nil =>
    simp only [cEs] at h
    cases h
    exact ⟨a_nil, rfl, rfl, a_nil, a_nil, a_nil⟩
  | cons a r =>
    simp only [cEs] at h
    split at h
    · cases h
    · rename_i hs
      split at h
      · rename_i a' r' ha hr
        cases h
        obtain ⟨q1, q2, q3, q4, q5, q6⟩ := ih.es X sc N W C g _ _ hr
        have hs : isStar a = false := by simpa using hs
        obtain ⟨z1, ⟨z2, z5⟩, _⟩ := ih.e X sc N W C g _ _ ha
        have z3 : PE X a (tE X.K X.mg Φ W (keepA a')) := by
          cases a' <;> first | exact z1 | exact z2 _ rfl
        have z4 : PE X a (tE X.K X.mg Φ W (asCell0 a')) := by
          unfold asCell0
          split
          · rename_i e2 he2
            exact z2 _ (by
              cases a' <;> first | exact he2 | (unfold cellE0 at he2; cases he2))
          · exact z1
        refine ⟨a_cons hs z1 q1, ?_, by simp [nEs, q3], a_cons hs z3 q4, a_cons hs z4 q5, a_cons hs z5 q6⟩
        unfold noStar at q2 ⊢
        simp [hs, q2]
      · cases h
theorem snd_fs (ih : SndE ci Φ k n) (C : CC X sc N k W) (g : GX ci Φ X k) {es : List PySem.Expr} {es' : Es} (h : cFs ci sc N (n + 1) es = some es') : PF X Φ W es es' := by
  cases es with
  | nil =>
    simp only [cFs] at h
    cases h
    exact .nil
  | cons a r =>
    unfold cFs at h
    split at h
    · split at h
      · rename_i e' r' ha hr
        cases h
        exact .fmt (ih.e X sc N W C g _ _ ha).1 (ih.fs X sc N W C g _ _ hr)
      · cases h
    · split at h
      · rename_i cs r' ha hr
        cases h
        exact .txt (csOf_some ha) (ih.fs X sc N W C g _ _ hr)
      · cases h
    · cases h
theorem snd_k (ih : SndE ci Φ k n) (C : CC X sc N k W) (g : GX ci Φ X k) {ks : List Keyword} {es' : Es} (h : cK ci sc N (n + 1) ks = some es') : PK X ks (tEs X.K X.mg Φ W es') ∧ ks.length = nEs es' := by
  cases ks with
  | nil =>
    simp only [cK] at h
    cases h
    exact ⟨k_nil, rfl⟩
  | cons a r =>
    simp only [cK] at h
    split at h
    · rename_i a' r' ha hr
      cases h
      obtain ⟨q1, q2⟩ := ih.kk X sc N W C g _ _ hr
      obtain ⟨nm, v, p⟩ := a
      exact ⟨k_cons (ih.e X sc N W C g _ _ ha).1 q1, by simp [nEs, q2]⟩
    · cases h
theorem snd_o (ih : SndE ci Φ k n) (C : CC X sc N k W) (g : GX ci Φ X k) {o : Option PySem.Expr} {o' : Eo} (h : cO ci sc N (n + 1) o = some o') : PO X o (tO X.K X.mg Φ W o') := by
  cases o with
  | none =>
    simp only [cO] at h
    cases h
    exact o_no
  | some a =>
    simp only [cO] at h
    split at h
    · rename_i a' ha
      cases h
      exact o_yes (ih.e X sc N W C g _ _ ha).1
    · cases h
theorem snd_c (ih : SndE ci Φ k n) (C : CC X sc N k W) (g : GX ci Φ X k) {o : List PySem.Expr} {o' : Eo} (h : cC ci sc N (n + 1) o = some o') : PTs X o (tQ X.K X.mg Φ W o') := by
  cases o with
  | nil =>
    simp only [cC] at h
    cases h
    exact q_no
  | cons a r =>
    cases r with
    | nil =>
      simp only [cC] at h
      split at h
      · rename_i a' ha
        cases h
        exact q_yes (ih.e X sc N W C g _ _ ha).2.2
      · cases h
    | cons b r =>
      simp only [cC] at h
      cases h
theorem tup_shape {tg : PySem.Expr} (h : isTupE tg = true) : ∃ es kk p, tg = .Tuple es kk p := by
  cases tg with
  | Tuple es kk p => exact ⟨es, kk, p, rfl⟩
  | _ => cases h
theorem snd_i (ih : SndE ci Φ k n) (C : CC X sc N k W) (g : GX ci Φ X k) {it tg : PySem.Expr} {i' : I} (h : cI ci sc N (n + 1) it tg = some i') : PI X tg it (tI X.K X.mg Φ W i') := by
  have any : ∀ {e'}, cE ci sc N n it = some e' → PI X tg it (tI X.K X.mg Φ W (.any e')) := fun h => i_any (ih.e X sc N W C g _ _ h).1
  have anyM : (match cE ci sc N n it with | some e' => some (I.any e') | none => none) = some i' → PI X tg it (tI X.K X.mg Φ W i') := fun h => by
    split at h
    · rename_i e' he
      cases h
      exact any he
    · cases h
  have sf : ∀ {b : Bool}, ¬ b = true → b = false := fun {b} h => by simpa using h
  have pe : ∀ {a a'}, cE ci sc N n a = some a' → PE X a (tE X.K X.mg Φ W a') := fun h => (ih.e X sc N W C g _ _ h).1
  unfold cI at h
  split at h
  · rename_i f p args pos
    split at h
    · rename_i hf
      simp only [Bool.and_eq_true, decide_eq_true_eq] at hf
      obtain ⟨⟨h1, h2⟩, rfl⟩ := hf
      have hg := gl_of C.scope h2
      have hm := g.blt "range" (by unfold bNames; simp)
      split at h
      · rename_i a
        split at h
        · cases h
        · rename_i hs
          split at h
          · rename_i a' ha
            cases h
            exact i_rng1 hg hm (sf hs) (pe ha)
          · cases h
      · rename_i a b
        split at h
        · cases h
        · rename_i hs
          simp only [Bool.or_eq_true, not_or, Bool.not_eq_true] at hs
          split at h
          · rename_i a' b' ha hb
            cases h
            exact i_rng2 hg hm hs.1 hs.2 (pe ha) (pe hb)
          · cases h
      · cases h
    · split at h
      · rename_i hf
        simp only [Bool.and_eq_true, decide_eq_true_eq] at hf
        obtain ⟨⟨h1, h2⟩, rfl⟩ := hf
        have hg := gl_of C.scope h2
        have hm := g.blt "enumerate" (by unfold bNames; simp)
        split at h
        · rename_i a
          split at h
          · cases h
          · rename_i hs
            simp only [Bool.or_eq_true, not_or, Bool.not_eq_true, Bool.not_eq_eq_eq_not, Bool.not_true, Bool.not_eq_false] at hs
            split at h
            · rename_i a' ha
              cases h
              obtain ⟨es, kk, p2, rfl⟩ := tup_shape hs.2
              exact i_enum hg hm hs.1 (pe ha)
            · cases h
        · cases h
      · split at h
        · rename_i hf
          simp only [Bool.and_eq_true, decide_eq_true_eq] at hf
          obtain ⟨⟨h1, h2⟩, rfl⟩ := hf
          have hg := gl_of C.scope h2
          have hm := g.blt "zip" (by unfold bNames; simp)
          split at h
          · rename_i a b
            split at h
            · cases h
            · rename_i hs
              simp only [Bool.or_eq_true, not_or, Bool.not_eq_true, Bool.not_eq_eq_eq_not, Bool.not_true, Bool.not_eq_false] at hs
              split at h
              · rename_i a' b' ha hb
                cases h
                obtain ⟨es, kk, p2, rfl⟩ := tup_shape hs.2
                exact i_zip hg hm hs.1.1 hs.1.2 (pe ha) (pe hb)
              · cases h
          · cases h
        · exact anyM h
  · exact anyM h
theorem cellAs_n : ∀ es : Es, nEs (cellAs es) = nEs es
  | .nil => rfl
  | .cons e r => by simp only [cellAs, nEs, cellAs_n r]
theorem lc_slots {own : List (Str × Nat)} {t : Tg} (h : ((tgSl t).all fun i => (own.map (·.2)).contains i) = true) : ∀ i, i ∈ tgSl t → i ∈ own.map (·.2) := fun i hi => by
  have := List.all_eq_true.mp h i hi
  exact List.contains_iff_mem.mp this
theorem lenSetArg_some {sc : Scope} {f : Str} {a b : PySem.Expr} {r : List PySem.Expr} (h : lenSetArg sc f a r = some b) : ∃ p2 q, ∃ _ : Unit, r = [] ∧ f = ("len" : Str) ∧ a = .Call (.Name "set" p2) [b] [] q ∧ isGlo sc "set" = true ∧ isStar b = false := by
  unfold lenSetArg at h
  split at h
  · rename_i s p2 b' q
    split at h
    · rename_i e
      cases h
      obtain ⟨e1, e2, e3, e4⟩ := e
      subst e2
      exact ⟨p2, q, (), rfl, e1, rfl, e3, e4⟩
    · cases h
  · cases h
theorem rngLArg_some {sc : Scope} {f : Str} {a b : PySem.Expr} {r : List PySem.Expr} (h : rngLArg sc f a r = some b) : ∃ p2 q, ∃ _ : Unit, r = [] ∧ f = ("list" : Str) ∧ a = .Call (.Name "range" p2) [b] [] q ∧ isGlo sc "range" = true ∧ isStar b = false := by
  unfold rngLArg at h
  split at h
  · rename_i s p2 b' q
    split at h
    · rename_i e
      cases h
      obtain ⟨e1, e2, e3, e4⟩ := e
      subst e2
      exact ⟨p2, q, (), rfl, e1, rfl, e3, e4⟩
    · cases h
  · cases h
theorem cellD_none {e : E} (h : cellE e = none) : cellD e = e := by
  cases e with
  | bin o a b => cases o <;> first | rfl | cases h
  | bi b es => cases b <;> first | rfl | cases h
  | _ => first | rfl | cases h
theorem cellDs_n : ∀ es : Es, nEs (cellDs es) = nEs es
  | .nil => rfl
  | .cons e r => by simp only [cellDs, nEs, cellDs_n r]
theorem snd_e (ih : SndE ci Φ k n) (C : CC X sc N k W) (g : GX ci Φ X k) {e : PySem.Expr} {e' : E} (h : cE ci sc N (n + 1) e = some e') :
    PE X e (tE X.K X.mg Φ W e') ∧ ((∀ e'', cellE e' = some e'' → PE X e (tE X.K X.mg Φ W e'')) ∧ PE X e (tE X.K X.mg Φ W (cellD e'))) ∧ PT X e (tT X.K X.mg Φ W e') := by
  have sf : ∀ {b : Bool}, ¬ b = true → b = false := fun {b} h => by simpa using h
  have pe : ∀ {a a'}, cE ci sc N n a = some a' → PE X a (tE X.K X.mg Φ W a') := fun h => (ih.e X sc N W C g _ _ h).1
  have pt : ∀ {a a'}, cE ci sc N n a = some a' → PT X a (tT X.K X.mg Φ W a') := fun h => (ih.e X sc N W C g _ _ h).2.2
  have pas : ∀ {a a'}, cEs ci sc N n a = some a' → PA X a (tEs X.K X.mg Φ W a') ∧ noStar a = true ∧ a.length = nEs a' ∧ PA X a (tEs X.K X.mg Φ W (keepAs a')) ∧ PA X a (tEs X.K X.mg Φ W (cellAs a')) ∧ PA X a (tEs X.K X.mg Φ W (cellDs a')) := fun h => ih.es X sc N W C g _ _ h
  have po : ∀ {a a'}, cO ci sc N n a = some a' → PO X a (tO X.K X.mg Φ W a') := fun h => ih.o X sc N W C g _ _ h
  have flat : ∀ {e e'}, PE X e (tE X.K X.mg Φ W e') → cellE e' = none → PT X e (tT X.K X.mg Φ W e') → PE X e (tE X.K X.mg Φ W e') ∧ ((∀ e'', cellE e' = some e'' → PE X e (tE X.K X.mg Φ W e'')) ∧ PE X e (tE X.K X.mg Φ W (cellD e'))) ∧ PT X e (tT X.K X.mg Φ W e') := fun h1 h2 h3 => ⟨h1, ⟨(fun e'' he => by rw [h2] at he; cases he), by rw [cellD_none h2]; exact h1⟩, h3⟩
  have both : ∀ {e e'} (hl : ∀ b, PE X e (tF X.K X.mg Φ W b e')), (cellE e' = some (.alloc e') ∨ cellE e' = none) → (cellD e' = .alloc e' ∨ cellD e' = e' ∨ PE X e (tE X.K X.mg Φ W (cellD e'))) → PT X e (tT X.K X.mg Φ W e') → PE X e (tE X.K X.mg Φ W e') ∧ ((∀ e'', cellE e' = some e'' → PE X e (tE X.K X.mg Φ W e'')) ∧ PE X e (tE X.K X.mg Φ W (cellD e'))) ∧ PT X e (tT X.K X.mg Φ W e') := fun hl h2 h4 h3 => by
    have zf := hl false
    rw [tF_false] at zf
    have zt := hl true
    rw [tF_true] at zt
    refine ⟨zf, ⟨fun e'' he => ?_, ?_⟩, h3⟩
    · rcases h2 with h2 | h2
      · rw [h2] at he
        cases he
        exact zt
      · rw [h2] at he
        cases he
    · rcases h4 with h4 | h4 | h4
      · rw [h4]
        exact zt
      · rw [h4]
        exact zf
      · exact h4
  unfold cE at h
  split at h
  -- a name
  · rename_i x p
    split at h
    · cases h
    · rename_i hd
      obtain ⟨d1, d2, d3⟩ := notDbg_ok (by simpa using hd)
      split at h
      · rename_i hv
        split at h
        · rename_i i hi
          cases h
          have q := s_var (Φ := Φ) (W := W) (pos := p) (by rw [C.hN]; exact ixS_some hi) (vis_of C.scope hv) d1 d2
          exact flat q rfl (p_gen q (by intro _; rfl) (gen_var Φ i))
        · cases h
      · split at h
        · rename_i hg
          split at h
          · rename_i q hq
            cases h
            obtain ⟨e1, e2⟩ := findG_some hq
            obtain ⟨v, u, g1, g2, g3⟩ := g.glb q e2
            subst e1
            have z := s_k (Φ := Φ) (W := W) (pe_glob (pos := p) (gl_of C.scope hg) g1 g2 d1) (fun _ _ _ q => q) g3
            exact flat z rfl (p_gen z (by intro _; rfl) (gen_k Φ _))
          · cases h
        · cases h
  -- a constant
  · rename_i c kk p
    split at h
    · cases h
      have z := s_k (Φ := Φ) (W := W) (X := X) (pe_non (j := kk) (pos := p)) (fun _ _ _ q => q) (x := .non) (fun _ => by unfold RT; rfl)
      exact flat z rfl (p_gen z (by intro _; rfl) (gen_k Φ _))
    · rename_i b
      cases h
      have z := s_k (Φ := Φ) (W := W) (X := X) (pe_bl (b := b) (j := kk) (pos := p)) (fun _ _ _ q => q) (x := .bl b) (fun _ => by unfold RT; rfl)
      exact flat z rfl (p_gen z (by intro _; rfl) (gen_k Φ _))
    · rename_i i
      cases h
      have z := s_k (Φ := Φ) (W := W) (X := X) (pe_int (i := i) (j := kk) (pos := p)) (fun _ _ _ q => q) (x := .int i) (fun _ => by unfold RT; rfl)
      exact flat z rfl (p_gen z (by intro _; rfl) (gen_k Φ _))
    · rename_i s
      split at h
      · rename_i cs hcs
        cases h
        have z := s_k (Φ := Φ) (W := W) (X := X) (pe_str (x := s) (j := kk) (pos := p)) (fun _ _ _ q => q) (x := .str cs) (fun _ => by unfold RT; rw [csOf_some hcs])
        exact flat z rfl (p_gen z (by intro _; rfl) (gen_k Φ _))
      · cases h
    · cases h
  -- displays
  · split at h
    · rename_i es' hes
      split at h
      · rename_i hl
        cases h
        exact ⟨s_tup hl (pas hes).1, ⟨(fun e'' he => by cases he; exact s_tup (by rw [cellAs_n]; exact hl) (pas hes).2.2.2.2.1), s_tup (by rw [cellDs_n]; exact hl) (pas hes).2.2.2.2.2⟩, p_stuck (tT_stuck fun _ _ => by simp only [evT])⟩
      · cases h
    · cases h
  · split at h
    · rename_i es' hes
      split at h
      · rename_i hl
        cases h
        obtain ⟨q1, q2⟩ := s_lst (Φ := Φ) (W := W) hl (pas hes).1
        exact ⟨q1, ⟨(fun e'' he => by cases he; exact q2), (s_lst (Φ := Φ) (W := W) (by rw [cellDs_n]; exact hl) (pas hes).2.2.2.2.2).2⟩, p_stuck (tT_stuck fun _ _ => by simp only [evT])⟩
      · cases h
    · cases h
  · cases h
    exact flat s_dict0 rfl (p_stuck (tT_stuck fun _ _ => by simp only [evT]))
  -- a op b
  · rename_i a o b p
    split at h
    · rename_i o' a' b' ho ha hb
      cases h
      refine both (fun bb => s_bin ho (pe ha) (pe hb)) ?_ ?_ (p_stuck (tT_stuck fun _ _ => by simp only [evT]))
      · cases o' <;> first | exact .inl rfl | exact .inr rfl
      · cases o' <;> first | exact .inl rfl | exact .inr (.inl rfl)
    · cases h
  -- -a, not a
  · split at h
    · rename_i a' ha
      cases h
      exact flat (s_neg (pe ha)) rfl (p_stuck (tT_stuck fun _ _ => by simp only [evT]))
    · cases h
  · split at h
    · rename_i a' ha
      cases h
      exact flat (s_not (pe ha)) rfl (p_not (pt ha))
    · cases h
  -- and, or
  · obtain ⟨h1, h2, h3⟩ := bool_one ih C g h
    exact ⟨h1, h2, h3.pt⟩
  · split at h
    · rename_i a' b' ha hb
      cases h
      exact flat (s_and (pos2 := default) (pe ha) (pe hb)) rfl (p_and (pt ha) (ih.w X sc N W C g _ _ _ _ hb)).pt
    · cases h
  · split at h
    · rename_i a' b' ha hb
      cases h
      exact flat (s_or (pos2 := default) (pe ha) (pe hb)) rfl (p_or (pt ha) (ih.w X sc N W C g _ _ _ _ hb)).pt
    · cases h
  -- comparisons
  · split at h
    · rename_i o' a' b' ho ha hb
      split at h
      · cases h
      · rename_i hs
        cases h
        exact flat (s_cmp C.room ho (sf hs) (pe ha) (pe hb)) rfl (p_cmp C.room ho (sf hs) (pe ha) (pe hb))
    · cases h
  · split at h
    · rename_i o' p' a' b' c' ho hp ha hb hc
      split at h
      · cases h
      · rename_i hs
        simp only [Bool.or_eq_true, not_or] at hs
        cases h
        exact flat (s_chn C.room ho hp (sf hs.1.1) (pe ha) (pe hb) (pe hc)) rfl (p_chn C.room ho hp (sf hs.1.1) (pe ha) (pe hb) (pe hc))
    · cases h
  · split at h
    · rename_i c' a' b' hc ha hb
      cases h
      exact flat (s_ite (pt hc) (pe ha) (pe hb)) rfl (p_stuck (tT_stuck fun _ _ => by simp only [evT]))
    · cases h
  -- slices, indexes
  · split at h
    · rename_i a' ha
      cases h
      exact both (fun bb => s_rev (pe ha)) (.inl rfl) (.inl rfl) (p_stuck (tT_stuck fun _ _ => by simp only [evT]))
    · cases h
  · split at h
    · rename_i a' l u ha hl hu
      cases h
      exact both (fun bb => s_slc (pe ha) (po hl) (po hu)) (.inl rfl) (.inl rfl) (p_stuck (tT_stuck fun _ _ => by simp only [evT]))
    · cases h
  · rename_i a b p hne hne2
    split at h
    · cases h
    · rename_i hs
      split at h
      · rename_i a' b' ha hb
        cases h
        have z := s_idx (pos := p) (Φ := Φ) (W := W) C.room (sf hs) (pe ha) (pe hb)
        exact flat (z) rfl (p_gen z (by intro _; rfl) (gen_idx Φ _ _))
      · cases h
  -- a comprehension
  · rename_i elt tg iter ifs scope p
    simp only at h
    split at h
    · cases h
    · rename_i hb
      simp only [Bool.or_eq_true, not_or, Bool.not_eq_true, Bool.not_eq_eq_eq_not, Bool.not_true, Bool.not_eq_false] at hb
      split at h
      · rename_i it' tg' c' e1 hi htg hc he
        split at h
        · rename_i ho
          cases h
          have gY : ∀ Y : Cx, Y.K = X.K → Y.mg = X.mg → Y.base = X.base → Y.prog = X.prog → Y.w = X.w → GX ci Φ Y k := fun Y q1 q2 q3 q4 q5 => by
            show GC ci Φ Y.prog Y.w Y.K Y.mg Y.base k
            rw [q1, q2, q3, q4, q5]
            exact g
          refine both (fun bb => s_lc C hb.1 hb.2 (ih.i X sc N W C g _ _ _ hi) (lc_slots ho) (fun Y eK T => by rw [← eK]; exact (tg_sound T n).1 _ _ htg) (fun Y q1 q2 q3 q4 q5 CY => ?_) (fun Y q1 q2 q3 q4 q5 CY => ?_)) (.inl rfl) (.inr (.inr (s_lcR C hb.1 hb.2 (ih.i X sc N W C g _ _ _ hi) (lc_slots ho) (fun Y eK T => by rw [← eK]; exact (tg_sound T n).1 _ _ htg) (fun Y q1 q2 q3 q4 q5 CY => ?_) (fun Y q1 q2 q3 q4 q5 CY => ?_)))) (p_stuck (tT_stuck fun _ _ => by simp only [evT]))
          · rw [← q1, ← q2]
            exact ih.c Y _ N W0 CY (gY Y q1 q2 q3 q4 q5) _ _ hc
          · rw [← q1, ← q2]
            exact (ih.e Y _ N W0 CY (gY Y q1 q2 q3 q4 q5) _ _ he).1
          · rw [← q1, ← q2]
            exact ih.c Y _ N W0 CY (gY Y q1 q2 q3 q4 q5) _ _ hc
          · rw [← q1, ← q2]
            exact (ih.e Y _ N W0 CY (gY Y q1 q2 q3 q4 q5) _ _ he).2.1.2
        · cases h
      · cases h
  · rename_i elt tg iter ifs tg1 iter1 ifs1 scope p
    simp only at h
    split at h
    · cases h
    · rename_i hb
      simp only [Bool.or_eq_true, not_or, Bool.not_eq_true, Bool.not_eq_eq_eq_not, Bool.not_true, Bool.not_eq_false] at hb
      split at h
      · rename_i it' tg' c' it1' tg1' c1' e1 hi htg hc hi1 htg1 hc1 he
        split at h
        · rename_i ho
          simp only [Bool.and_eq_true] at ho
          cases h
          refine both (fun bb => s_lc2 C hb.1.1 hb.1.2 hb.2 (ih.i X sc N W C g _ _ _ hi) (lc_slots ho.1) (fun i hi => List.contains_iff_mem.mp (List.all_eq_true.mp ho.2 i hi)) (fun i hi => (List.mem_filter.mp hi).1) (fun Y eK T => by rw [← eK]; exact ⟨(tg_sound T n).1 _ _ htg, (tg_sound T n).1 _ _ htg1⟩) (fun Y q1 q2 q3 q4 q5 CY => ?_)) (.inl rfl) (.inl rfl) (p_stuck (tT_stuck fun _ _ => by simp only [evT]))
          have gY : GX ci Φ Y k := by
            show GC ci Φ Y.prog Y.w Y.K Y.mg Y.base k
            rw [q1, q2, q3, q4, q5]
            exact g
          rw [← q1, ← q2]
          exact ⟨ih.c Y _ N W0 CY gY _ _ hc, ih.i Y _ N W0 CY gY _ _ _ hi1, ih.c Y _ N W0 CY gY _ _ hc1, (ih.e Y _ N W0 CY gY _ _ he).1⟩
        · cases h
      · cases h
  -- a text that is put together
  · split at h
    · rename_i es hes
      cases h
      exact flat (s_fstr (ih.fs X sc N W C g _ _ hes)) rfl (p_stuck (tT_stuck fun _ _ => by simp only [evT]))
    · cases h
  -- what an error keeps
  · split at h
    · rename_i hf
      subst hf
      split at h
      · rename_i e' he
        cases h
        obtain ⟨adr, x1, _, _⟩ := g.exc
        refine flat (s_fld (fun cl hcl => ?_) (pe he) rfl) rfl (p_stuck (tT_stuck fun _ _ => by simp only [evT]))
        obtain ⟨h1, h2⟩ := List.mem_filter.mp hcl
        exact ⟨h1, _, x1 cl (List.contains_iff_mem.mp h2)⟩
      · cases h
    · cases h
  -- a call by names
  · rename_i f p args kw kws pos
    split at h
    · cases h
    · rename_i hd
      simp only [Bool.or_eq_true, not_or, Bool.not_eq_true, Bool.not_eq_eq_eq_not, Bool.not_true, Bool.not_eq_false] at hd
      obtain ⟨d1, d2, d3⟩ := notDbg_ok hd.1
      have hg := gl_of C.scope hd.2
      split at h
      · rename_i f' ks hf' hks
        split at h
        · rename_i q es zs hq hes hzs
          cases h
          obtain ⟨e1, e2⟩ := findN_some hf'
          obtain ⟨k1, k2, k3, k4⟩ := findK_some hq
          subst e1
          obtain ⟨fa, fd, ps, g1, g2, g3, g4, g5⟩ := g.fns f' e2
          obtain ⟨a1, a2, a3, _⟩ := pas hes
          obtain ⟨b1, b2⟩ := ih.kk X sc N W C g _ _ hzs
          obtain ⟨_, _, _, c4⟩ := kw_all (env := X.env) (pos := pos) hks
          refine flat (s_callK (m := modeOf ci f') (p := p) (pos := pos) C.takes C.room C.gd g4 hg g1 g2 (g5 q k1 k2) d1 (by rw [hks, k4]) (by rw [← a3, k3]) (by rw [← b2, c4, ← k4, List.length_map]) a2 a3 a1 b1) rfl (p_stuck (tT_stuck fun _ _ => by simp only [evT]))
        · cases h
      · cases h
  -- a call
  · rename_i f p args pos
    split at h
    · cases h
    · rename_i hd
      simp only [Bool.or_eq_true, not_or, Bool.not_eq_true, Bool.not_eq_eq_eq_not, Bool.not_true, Bool.not_eq_false] at hd
      obtain ⟨d1, d2, d3⟩ := notDbg_ok hd.1
      have hg := gl_of C.scope hd.2
      split at h
      · cases h
      · rename_i a r
        split at h
        · rename_i hf
          subst hf
          split at h
          · rename_i t p2
            split at h
            · cases h
            · rename_i ht
              simp only [Bool.or_eq_true, not_or, Bool.not_eq_true, Bool.not_eq_eq_eq_not, Bool.not_true, Bool.not_eq_false] at ht
              obtain ⟨t1, t2, t3⟩ := notDbg_ok ht.1.1
              split at h
              · rename_i ty a' hty ha
                cases h
                have z := s_isi (Φ := Φ) (W := W) (p := p) (pos := pos) (p2 := p2) hty hg (g.blt "isinstance" (by unfold bNames; simp)) (gl_of C.scope ht.1.2) (g.blt _ (tyOf_mem hty)) ht.2 t1 t3 (pe ha)
                exact flat z rfl (p_gen z (by intro _; rfl) (gen_isi Φ _ _))
              · rename_i a' hty ha
                split at h
                · rename_i d hd
                  cases h
                  obtain ⟨e1, e2⟩ := findN_some hd
                  obtain ⟨adr, x1, x2, x3⟩ := g.exc
                  have z := s_isx (Φ := Φ) (W := W) (p := p) (pos := pos) (p2 := p2) (tb := subsOf ci d) (x1 d e2) e1 (gl_of C.scope ht.1.2) t1 hg (g.blt "isinstance" (by unfold bNames; simp)) ht.2 (fun q hq => by
                    obtain ⟨y1, y2, y3, y4⟩ := x2 _ (subs_mem hq)
                    exact ⟨_, x1 q.1 y1, y3⟩) (x3 d e2) (pe ha)
                  exact flat z rfl (p_gen z (by intro _; rfl) (gen_isx Φ _ _))
                · cases h
              · cases h
          · split at h
            · cases h
            · rename_i hs
              split at h
              · rename_i ds a' hts ha
                split at h
                · rename_i hl
                  cases h
                  obtain ⟨adr, x1, x2, x3⟩ := g.exc
                  have z := fun (p2 : Pos) (kk) => s_isT (Φ := Φ) (W := W) (p := p) (p2 := p2) (kk := kk) (pos := pos) C.scope x1 (fun q hq => ⟨(x2 q hq).1, (x2 q hq).2.1, (x2 q hq).2.2.1⟩) x3 hts hl hg (g.blt "isinstance" (by unfold bNames; simp)) (sf hs) (pe ha)
                  exact flat (z _ _) rfl (p_gen (z _ _) (by intro _; rfl) (gen_isx Φ _ _))
                · cases h
              · cases h
          · cases h
        · rename_i hf
          split at h
          · rename_i b hb
            split at h
            · rename_i b' hb'
              cases h
              obtain ⟨p2, q, es, rfl, rfl, rfl, h3, h4⟩ := lenSetArg_some hb
              have z := s_lenSet (Φ := Φ) (W := W) (p := p) (p2 := p2) (q := q) (pos := pos) C.calm hg (g.blt _ (by unfold bNames; simp)) (gl_of C.scope h3) (g.blt _ (by unfold bNames; simp)) (pe hb') h4
              exact flat z rfl (p_stuck (tT_stuck fun _ _ => by simp only [evT]))
            · cases h
          split at h
          · rename_i b hb
            split at h
            · rename_i b' hb'
              cases h
              obtain ⟨p2, q, es, rfl, rfl, rfl, h3, h4⟩ := rngLArg_some hb
              exact both (fun bb => s_rngL (Φ := Φ) (W := W) (p := p) (p2 := p2) (q := q) (pos := pos) C.calm hg (g.blt _ (by unfold bNames; simp)) (gl_of C.scope h3) (g.blt _ (by unfold bNames; simp)) (pe hb') h4) (.inl rfl) (.inl rfl) (p_stuck (tT_stuck fun _ _ => by simp only [evT]))
            · cases h
          split at h
          · rename_i f' hf'
            split at h
            · rename_i es hes
              cases h
              obtain ⟨e1, e2⟩ := findN_some hf'
              subst e1
              obtain ⟨fa, fd, ps, g1, g2, g3, g4, g5⟩ := g.fns f' e2
              have z := fun m => s_call (Φ := Φ) (W := W) (m := m) (p := p) (pos := pos) C.takes C.room C.gd g4 hg g1 g2 g3 d1 (pas hes).2.1 (show PA X (_ :: _) (tEs X.K X.mg Φ W (keepIf (ci.lend.contains f') es)) from by
                unfold keepIf
                split
                · exact (pas hes).2.2.2.1
                · exact (pas hes).1)
              exact ⟨z _, ⟨(fun e'' he => by cases he; exact z _), z _⟩, p_gen (z _) (by intro _; rfl) (gen_call Φ _ _ _)⟩
            · cases h
          · split at h
            · rename_i b es hb hes
              cases h
              have z := fun bb => bi_sound (Φ := Φ) (W := W) (bb := bb) (p := p) (pos := pos) C.room C.gd C.calm hb hg (g.blt _ (cBi_mem hb)) d1 d3 (pas hes).2.1 (pas hes).1
              have y := z false
              rw [tF_false] at y
              cases overC ci (a :: r) with
              | false =>
                rw [if_neg Bool.false_ne_true]
                refine both z ?_ ?_ (p_gen y (by intro _; rfl) (gen_bi Φ _ _))
                · cases b <;> first | exact .inl rfl | exact .inr rfl
                · cases b <;> first | exact .inl rfl | exact .inr (.inl rfl)
              | true =>
                rw [if_pos rfl]
                exact flat (s_froz y) rfl (p_gen (s_froz y) (by intro _; rfl) (gen_froz Φ _))
            · cases h
  -- a method
  · rename_i o m apos args cpos
    split at h
    · cases h
    · rename_i hm
      simp only [not_or, Bool.not_eq_true, Bool.not_eq_false] at hm
      obtain ⟨h1, h2⟩ := hm
      split at h
      · rename_i m' o' hm' ho
        split at h
        · cases h
          exact flat (s_mth0 hm' h2 h1 (pe ho)) rfl (p_stuck (tT_stuck fun _ _ => by simp only [evT]))
        · rename_i a
          split at h
          · cases h
          · rename_i hs
            split at h
            · rename_i a' ha
              cases h
              exact flat (s_mth1 hm' h2 (sf hs) h1 (pe ho) (by
                split
                · exact (ih.e X sc N W C g _ _ ha).2.1.2
                · exact pe ha)) rfl (p_stuck (tT_stuck fun _ _ => by simp only [evT]))
            · cases h
        · rename_i a b
          split at h
          · cases h
          · rename_i hs
            simp only [Bool.or_eq_true, not_or] at hs
            split at h
            · rename_i a' b' ha hb
              cases h
              exact flat (s_mth2 hm' h2 (sf hs.1) (sf hs.2) h1 (pe ho) (pe ha) (pe hb)) rfl (p_stuck (tT_stuck fun _ _ => by simp only [evT]))
            · cases h
        · cases h
      · cases h
  · cases h
theorem snd_all (ci : CI) (Φ : Kp.Or) (k : Nat) : ∀ n, SndE ci Φ k n
  | 0 => ⟨fun X sc N W C g e e' h => (by simp only [cE] at h; cases h), fun X sc N W C g o es p e' h => (by simp only [cE] at h; cases h), fun X sc N W C g e e' h => (by simp only [cEs] at h; cases h), fun X sc N W C g e e' h => (by simp only [cFs] at h; cases h), fun X sc N W C g e e' h => (by simp only [cK] at h; cases h),
      fun X sc N W C g e e' h => (by simp only [cO] at h; cases h), fun X sc N W C g e e' h => (by simp only [cC] at h; cases h), fun X sc N W C g it tg e' h => (by simp only [cI] at h; cases h)⟩
  | n + 1 => by
    have ih := snd_all ci Φ k n
    exact ⟨fun X sc N W C g e e' h => snd_e ih C g h, fun X sc N W C g o es p e' h => snd_w ih C g h, fun X sc N W C g e e' h => snd_es ih C g h, fun X sc N W C g e e' h => snd_fs ih C g h, fun X sc N W C g ks es' h => snd_k ih C g h,
      fun X sc N W C g e e' h => snd_o ih C g h, fun X sc N W C g e e' h => snd_c ih C g h, fun X sc N W C g it tg e' h => snd_i ih C g h⟩
end
end Kp
/-! A sign is taken out of a text: two statements at once, as the text that is left is made of the very sign that was stored. -/
namespace Kp
open PySem L2
section
variable {X : Cx} {Φ : Kp.Or} {W : WX} {pins : List (Addr × Obj)} {σ : L2.St} {H : Hp} {s : Shared}
/-- a local name holds the very value -/
def Holds (X : Cx) (s : Shared) (x : Str) (u : Value) : Prop := ∃ m, s.heap.Ns X.env.locals m ∧ m x = some u
theorem store_raw {M : Model} {A : Around} {E : Value → Shared → Prop} {i : Nat} {x : Str} {v : V} {u : Value} {Q : Unit → Shared → Prop} (I : L2.Inv X pins σ H s) (nd : X.N.Nodup) (hN : X.N[i]? = some x) (hk : X.env.scope.names.lookup x = some .local) (r : RelV v u)
    (q : ∀ s', L2.Inv X pins (σ.set i (some v)) H s' → Holds X s' x u → s'.toks = s.toks + 1 → Q () s') : wpAny M A (storeName X.env x u) Q E s := by
  obtain ⟨m, hm, hl⟩ := I.loc
  have kd : X.env.kindOf x = some .local := hk
  refine wpAny_storeName_local kd hm (fun h' hns sb => ?_) (by rw [I.ok.kind]; rfl)
  have keep : ∀ b o, s.heap.get? b = some o → b ≠ X.env.locals → h'.get? b = some o := fun b o hb ne => by rw [sb.2 b ne]; exact hb
  have old : ∀ b o, X.s_0.heap.get? b = some o → b ≠ X.env.locals := fun b o hb e => by
    have h1 := Heap.lt_size hb
    rw [e] at h1
    exact absurd h1 (Nat.not_lt.mpr I.ok.above)
  refine q _ ⟨I.ok, I.os, I.bare, ⟨fun b o h1 h2 h3 h4 => keep b o (I.base.keep b o h1 h2 h3 h4) (old b o h1), fun b o h1 h2 h3 h4 => ?_, I.base.free, fun b o h1 h4 => ?_, I.base.tups, I.base.frzs, I.base.tbls⟩, ⟨_, hns, fun j y w hj hw hv => ?_⟩, fun y c hc => ?_, I.free, I.freeC, fun p hp => ?_, ?_, ?_⟩ ⟨_, hns, by simp⟩ rfl
  · obtain ⟨sl, z⟩ := I.base.slot b o h1 h2 h3 h4
    exact ⟨sl, keep b _ z (old b o h1)⟩
  · obtain ⟨o', z⟩ := I.base.there b o h1 h4
    exact ⟨o', keep b _ z (old b o h1)⟩
  · by_cases e : j = i
    · subst e
      have e2 : y = x := by rw [hN] at hj; exact (Option.some.inj hj).symm
      subst e2
      have hi : j < σ.length := by rw [I.len]; exact (List.getElem?_eq_some_iff.mp hN).1
      rw [List.getElem?_set_self hi] at hw
      cases hw
      exact ⟨u, r, .inl ⟨kd, by simp⟩⟩
    · rw [List.getElem?_set_ne (Ne.symm e)] at hw
      obtain ⟨z, z1, z2⟩ := hl j y w hj hw hv
      refine ⟨z, z1, ?_⟩
      have ne : y ≠ x := fun q => e (nodup_ix nd (q ▸ hj) hN)
      rcases z2 with ⟨k1, k2⟩ | ⟨k1, c, k2, k3⟩
      · exact .inl ⟨k1, by simp only [ne, if_false]; exact k2⟩
      · refine .inr ⟨k1, c, k2, ?_⟩
        obtain ⟨o, q1, q2⟩ := k3
        refine ⟨o, keep c o q1 ?_, q2⟩
        exact I.cne y c k2
  · obtain ⟨v, o, q1, q2⟩ := I.cell y c hc
    exact ⟨v, o, keep c o q1 (I.cne y c hc), q2⟩
  · obtain ⟨p1, p2, p3, p4, p5⟩ := I.pin p hp
    exact ⟨keep _ _ p1 p3, p2, p3, p4, p5⟩
  · exact fun a o h => (I.hok a o h).stay (fun b w hb hw => keep b w hw fun e => by
      subst e
      rcases hb with rfl | hb
      · rw [I.free] at h; cases h
      · rw [I.free] at hb; cases hb) (fun _ h => h) (fun _ _ h => h)
  · rw [List.length_set]
    exact I.len
/-- the number of signs of a name's text: a number that is new -/
theorem len_tok {E : Value → Shared → Prop} {j : Nat} {t l : Str} {w : Cs} {p1 p2 p3 : Pos} {Q : Value → Shared → Prop} (I : L2.Inv X pins σ H s) (hN : X.N[j]? = some t) (hv : Vis X.env.scope t) (h1 : (t == ("__debug__" : Str)) = false) (h2 : (t == ("__classdict__" : Str)) = false)
    (hg : Gl X "len") (hm : X.mg "len" = none) (hw : σ[j]? = some (some (.str (stC w)))) (hl : w.length ≤ lim)
    (q : ∀ k tk, 1 ≤ k → L2.Inv X pins σ H ⟨s.heap, s.gens, s.drawn, k, s.os⟩ → Q (.int (w.length : Nat) tk) ⟨s.heap, s.gens, s.drawn, k, s.os⟩) :
    wpAny (model X.prog X.w) X.A (eval (.Call (.Name "len" p1) [.Name t p2] [] p3) X.env) Q E s := by
  refine wpAny_Call_Name_kw (ld_blt I hg hm PySem.boot_len ?_ (by decide))
  refine PyProof.Rows.callWith_builtin1 (Calls.spliced_cons ?_) (by rfl) (by rfl)
  refine raw_name hN hv I hw (fun u r => ?_) h1 h2
  obtain ⟨tk, rfl⟩ := r
  refine Calls.spliced_nil ?_
  refine PySem.P.len_str ?_ ?_
  · rw [stC_len]
    unfold lim at hl
    omega
  · rw [stC_len]
    exact q _ _ (by omega) (I.tok _)
/-- f(a, len(t)), by a text t: what stands then, and that something new was made -/
theorem call_tok {f : String} {k : Nat} {fa : Addr} {fd : FuncData} {ps : List Str} {a : PySem.Expr} {a' : E} {j : Nat} {x t : Str} {w : Cs} {p0 p1 p2 p3 p4 : Pos} {Q : VK} (tk : Takes X W) (hr : Room k X.A) (hgd : X.A.guards = some [])
    (F : FnG X.prog X.w X.K X.mg X.base (L2.CX X.prog X.w) k fa fd ps (spR X.K X.mg Φ f)) (hg : Gl X x) (hm : X.mg x = some (.ref fa)) (hk : PySem.W.keepIn X.K (.ref fa) = true) (hb : Binds X.K fd ps []) (hd : (x == ("__debug__" : Str)) = false) (hs : isStar a = false) (ha : PE X a (tE X.K X.mg Φ W a'))
    (I : L2.Inv X pins σ H s) (hN : X.N[j]? = some t) (hv : Vis X.env.scope t) (h1 : (t == ("__debug__" : Str)) = false) (h2 : (t == ("__classdict__" : Str)) = false) (hgl : Gl X "len") (hml : X.mg "len" = none) (hw : σ[j]? = some (some (.str (stC w)))) (hl : w.length ≤ lim)
    {env : Env} {c : Cfg} (rel : Rel X.K c H) (er : EnvR X.K c σ env) (h : PR X.K X.mg W σ (rD X.K) c H ((evE Φ a' env c.S).bind fun d S => isoCall Φ f [d, .t (.int (w.length : Nat))] .lend S) Q) :
    wpAny (model X.prog X.w) X.A (eval (.Call (.Name x p0) [a, .Call (.Name "len" p1) [.Name t p2] [] p3] [] p4) X.env) (fun u s' => 1 ≤ s'.toks ∧ EP X pins σ Q u s') X.xe s := by
  have ns : noStar [a, .Call (.Name "len" p1) [.Name t p2] [] p3] = true := by
    unfold noStar
    simp only [List.all_cons, List.all_nil, hs]
    rfl
  refine wpAny_Call_Name_kw (ld_glob I hg hm ?_ hd)
  refine PySem.W.callWith_K (h₀ := X.base) I.ok.mod.kin hk ?_ (se_cons hs _ X.env) (by rfl)
  rw [se_cons hs]
  refine Calls.spliced_cons (thn (ha.run pins s σ H _ I ⟨env, c, rel, er, PR.mono (PR.bind (RA := rD X.K) h) fun v H1 q1 => q1⟩) fun u s1 hh => ?_)
  obtain ⟨v, H1, I1, rv, c1, d, rel1, st1, r1, h1'⟩ := hh
  refine Calls.spliced_cons (len_tok (l := t) I1 hN hv h1 h2 hgl hml hw hl fun n tk2 hn I2 => ?_)
  refine Calls.spliced_nil ?_
  refine ⟨I2.kIn, ?_⟩
  have r2 : RDs X.K c1 [d, .t (.int (w.length : Nat))] [v, .int (w.length : Nat)] := RDs.of (.cons r1 (.cons (RD.mkInt _) .nil))
  have z := run_pos (E := WE W σ) F hr hgd hb (passAt tk σ) I2 (vs := [v, .int (w.length : Nat)]) (us := [u, .int (w.length : Nat) tk2]) (.cons rv (.cons ⟨tk2, rfl⟩ .nil)) (call_ok rel1 r2 h1')
  refine PySem.wpAny_mono (wpAny_toks_of hn z) (fun a s' q => q) fun e s' q => q.2
theorem replL_sign (c : Char) : ∀ s : Cs, StrLaws.replL [c.toNat] [] (s.map Char.toNat) = (s.filter fun z => z != c).map Char.toNat
  | [] => StrLaws.replL_nil
  | x :: s => by
    rw [List.map_cons]
    by_cases h : x = c
    · subst h
      rw [StrLaws.replL_hit (by simp) (by simp)]
      simp [replL_sign x s]
    · have hn : ¬ x.toNat = c.toNat := fun e => h (toNat_inj e)
      rw [StrLaws.replL_miss (by simp [hn]), replL_sign c s, List.filter_cons]
      have e : (x != c) = true := bne_iff_ne.mpr h
      rw [e, if_pos rfl, List.map_cons]
theorem str_ext {a b : Str} (h : a.cps.toList = b.cps.toList) : a = b := by
  obtain ⟨a⟩ := a
  obtain ⟨b⟩ := b
  simp only [Array.toList_inj] at h
  rw [h]
theorem repl_sign (s : Cs) (c : Char) : Txt.replace (stC s) ⟨#[c.toNat]⟩ ("" : Str) = stC (s.filter fun z => z != c) := by
  refine str_ext ?_
  rw [StrLaws.replace_list (Nat.le_refl _), stC_cps, stC_cps]
  exact replL_sign c s
theorem set_ne {σ : L2.St} {i j : Nat} {v w : V} (h : i ≠ j) (hw : σ[j]? = some (some w)) : (σ.set i (some v))[j]? = some (some w) := by
  rw [List.getElem?_set_ne h]
  exact hw
theorem ix_at {w : Cs} {k : Int} {ch : Char} (hl : w.length ≤ lim) (h : atI w k = some ch) : (decide (k < -2 ^ 63) || decide (k ≥ 2 ^ 63)) = false ∧ ((seqIndex? k (stC w).length).bind fun x => (stC w).cps[x]?) = some ch.toNat := by
  have h' : (L2.ixN w.length k).bind (fun j => w[j]?) = some ch := h
  unfold lim at hl
  have get : ∀ n : Nat, w[n]? = some ch → (stC w).cps[n]? = some ch.toNat := fun n hn => by
    show ((w.map Char.toNat).toArray)[n]? = _
    simp [hn]
  unfold L2.ixN at h'
  unfold seqIndex?
  rw [stC_len]
  split at h'
  · split at h'
    · rename_i a b
      refine ⟨?_, ?_⟩
      · rw [Bool.or_eq_false_iff]
        constructor <;> exact decide_eq_false (by omega)
      · have e : ¬ k < 0 := by omega
        simp only [e, if_false, a, b, decide_true, Bool.and_self, if_true]
        exact get _ h'
    · cases h'
  · split at h'
    · rename_i a b
      have b2 : k + (w.length : Int) < (w.length : Int) := by omega
      have b3 : 0 ≤ k + (w.length : Int) := by omega
      refine ⟨?_, ?_⟩
      · rw [Bool.or_eq_false_iff]
        constructor <;> exact decide_eq_false (by omega)
      · have e : k < 0 := by omega
        simp only [e, if_true, b2, b3, decide_true, Bool.and_self]
        exact get _ h'
    · cases h'
theorem pss_take {f : String} {k : Nat} {fa : Addr} {fd : FuncData} {ps : List Str} {a : PySem.Expr} {a' : E} {i j kk : Nat} {x t fx : Str} {p1 p2 p3 p4 p5 p6 p7 p8 p9 p10 p11 p12 p13 p14 apos cpos : Pos} {rest : List PySem.Stmt} {r' : Ss} (tk : Takes X W) (hr : Room k X.A) (hgd : X.A.guards = some [])
    (F : FnG X.prog X.w X.K X.mg X.base (L2.CX X.prog X.w) k fa fd ps (spR X.K X.mg Φ f)) (hg : Gl X fx) (hm : X.mg fx = some (.ref fa)) (hk : PySem.W.keepIn X.K (.ref fa) = true) (hb : Binds X.K fd ps []) (hd : (fx == ("__debug__" : Str)) = false) (hs : isStar a = false) (ha : PE X a (tE X.K X.mg Φ W a'))
    (nd : X.N.Nodup) (hi : X.N[i]? = some x) (hj : X.N[j]? = some t) (hxt : x ≠ t) (kx : X.env.scope.names.lookup x = some .local) (kt : X.env.scope.names.lookup t = some .local)
    (x1 : (x == ("__debug__" : Str)) = false) (x2 : (x == ("__classdict__" : Str)) = false) (t1 : (t == ("__debug__" : Str)) = false) (t2 : (t == ("__classdict__" : Str)) = false) (hgl : Gl X "len") (hml : X.mg "len" = none) (hl : (apos.endLine == cpos.line) = true)
    (hrest : PSs X rest (tSs X.K X.mg Φ W r')) :
    PSs X (.Assign [.Name x p1] (.Subscript (.Name t p2) (.Call (.Name fx p3) [a, .Call (.Name "len" p4) [.Name t p5] [] p6] [] p7) p8) p9 :: .Assign [.Name t p10] (.Call (.Attribute (.Name t p11) "replace" apos) [.Name x p12, .Constant (.str "") kk p13] [] cpos) p14 :: rest)
      (tSs X.K X.mg Φ W (.cons (.take i j f a') r')) := by
  refine ⟨fun pins s σ H D I q => ?_⟩
  obtain ⟨env, c, rel, er, h⟩ := q
  have hij : i ≠ j := fun e => by
    subst e
    rw [hi] at hj
    exact hxt (Option.some.inj hj)
  simp only [evSs, evS] at h
  split at h
  · rename_i w hw
    split at h
    · rename_i hwl
      obtain ⟨v0, hv0, rv0⟩ := er.get j _ hw
      have e0 : v0 = .str (stC w) := by
        have z := rv0.t
        unfold RT at z
        exact z
      subst e0
      have vt : Vis X.env.scope t := .inl kt
      have h' : PRS X.K X.mg W (slSs (.cons (.take i j f a') r')) σ c H (((evE Φ a' env c.S).bind fun d S => isoCall Φ f [d, .t (.int (w.length : Nat))] .lend S).bind fun d S => (match asInt d with
          | some k => match atI w k with
            | some ch => R.ok (Ctl.nx, (env.set i (some (.t (.str [ch])))).set j (some (.t (.str (w.filter fun z => z != ch))))) S
            | none => .stuck
          | none => .stuck).bind fun p S => match p with
            | (.nx, env) => evSs Φ r' env S
            | (.ret d, env) => .ok (.ret d, env) S) D := by
        simp only [R.bind_assoc] at h ⊢
        exact h
      clear h
      refine wpAny_execs_cons (wpAny_Assign_Name (PyProof.Rows.Subscript_ (raw_name hj vt I hv0 (fun u0 r0 => ?_) t1 t2)) (by rfl))
      obtain ⟨tk0, rfl⟩ := r0
      refine thn (call_tok tk hr hgd F hg hm hk hb hd hs ha I hj vt t1 t2 hgl hml hv0 hwl rel er (PRS.bindE (RA := rD X.K) h')) fun u s1 hh => ?_
      obtain ⟨n1, v, H1, I1, rv, c1, d, rel1, st1, r1, h1⟩ := hh
      cases hd2 : asInt d with
      | none => rw [hd2] at h1; exact h1.elim
      | some kx' =>
        rw [hd2] at h1
        have ev := r1.int hd2
        subst ev
        obtain ⟨tk1, rfl⟩ := rv
        simp only at h1
        cases hat : atI w kx' with
        | none => rw [hat] at h1; exact h1.elim
        | some ch =>
          rw [hat] at h1
          simp only [R.bind_ok] at h1
          refine PyProof.Rows.tail_any (id := "str.__getitem__") (ops := [.str (stC w) tk0, .int kx' tk1]) (typeIs_str _ _ _) (by rfl) (PySem.P.getItem_str (c := ch.toNat) ?_ ?_ ?_) (by rfl)
          · exact (ix_at hwl hat).1
          · exact (ix_at hwl hat).2
          · refine store_raw (i := i) (v := .str (stC [ch])) (I1.tok _) nd hi kx ⟨_, rfl⟩ fun s2 I2 ho htk => ?_
            have hne : s1.toks ≠ 0 := by omega
            have w2 : (σ.set i (some (.str (stC [ch]))))[j]? = some (some (.str (stC w))) := set_ne hij hv0
            refine wpAny_execs_cons (wpAny_Assign_Name (Call_method2 (by rfl) (by rfl) hl (raw_name hj vt I2 w2 (fun u2 r2 => ?_) t1 t2)) (by rfl))
            obtain ⟨tk2, rfl⟩ := r2
            refine ⟨"str", "str.replace", PySem.F.plainAttrs_str, PySem.F.slot_str_replace, PySem.F.type_str_replace, typeIs_str _ _ _, (fun _ e => nomatch e), ?_⟩
            refine Calls.callWith_builtin rfl (Calls.evalArgs_plain (Calls.spliced_cons ?_))
            obtain ⟨m, hm2, hmx⟩ := ho
            refine wpAny_Name (wpAny_loadName_local I2.ok.kind kx hm2 hmx ?_) x1
            refine Calls.spliced_cons (Calls.Constant_str (Calls.spliced_nil ?_))
            have le : (stC w).length + ((stC w).length + 1) * ("" : Str).length ≤ 16777216 := by
              have e : ("" : Str).length = 0 := rfl
              rw [e, stC_len]
              unfold lim at hwl
              omega
            refine PySem.SC.replace hne ?_ ?_ ?_ le fun t' n3 => ?_
            · show s2.toks ≠ 0
              rw [htk]
              exact Nat.succ_ne_zero _
            · show s1.toks ≠ s2.toks
              rw [htk]
              show s1.toks ≠ s1.toks + 1 + 1
              omega
            · rfl
            · have er' := repl_sign w ch
              rw [er']
              refine store_raw (i := j) (v := .str (stC (w.filter fun z => z != ch))) ((I2.tok _)) nd hj kt ⟨_, rfl⟩ fun s3 I3 _ _ => ?_
              refine hrest.run pins s3 _ H1 D I3 ⟨_, c1, rel1, ((er.mono st1).set (d := .t (.str [ch])) (RD.mkStr _) i).set (d := .t (.str (w.filter fun z => z != ch))) (RD.mkStr _) j, ?_⟩
              have kp : Keeps [i, j] σ ((σ.set i (some (.str (stC [ch])))).set j (some (.str (stC (w.filter fun z => z != ch))))) := ⟨by simp, fun n hn => by
                simp only [List.mem_cons, List.not_mem_nil, or_false, not_or] at hn
                rw [List.getElem?_set_ne (Ne.symm hn.2), List.getElem?_set_ne (Ne.symm hn.1)]⟩
              refine (PRS.keeps (h1.sub (m := [i, j] ++ slSs r') fun n hn => ?_) kp fun n hn => List.mem_append_left _ hn).sub fun n hn => List.mem_append_right _ hn
              unfold slSs slS
              exact hn
    · exact h.elim
  · exact h.elim
end
end Kp
/-! Statements, defs: by the depth of the syntax. -/
namespace Kp
open PySem L2
/-- what a def's own context is -/
def PO (X : Cx) : Prop := PassesOwn (model X.prog X.w) X.A X.env X.xe ∧ X.stack = X.env :: X.outer ∧ X.env.frame = some X.env.locals
structure SndS (ci : CI) (Φ : Kp.Or) (k n : Nat) : Prop where
  s : ∀ (X : Cx) (sc : Scope) (N : List Str) (W : WX), CC X sc N k W → TX X sc N → PO X → GX ci Φ X k → ∀ st s', cS ci sc N n st = some s' → PS X st (tS X.K X.mg Φ W s')
  ss : ∀ (X : Cx) (sc : Scope) (N : List Str) (W : WX), CC X sc N k W → TX X sc N → PO X → GX ci Φ X k → ∀ st s', cSs ci sc N n st = some s' → PSs X st (tSs X.K X.mg Φ W s')
theorem sw_false {elt : PySem.Expr} {gs : List Comprehension} {scope : Scope} {pos py : Pos} {y : Str} {l : Nat} {env : PySem.Env} (hk : env.scope.kind = .function)
    (ha : (decide (env.scope.names.lookup y = some .local) && py.line == pos.line && !(scope.names.any fun (n, k) => n == y && (k == .local || k == .cell))) = false) : swapsWith (.ListComp elt gs scope pos) (some (.Name y py)) l env = pure false := by
  have hb : env.blockKind = .function := by unfold PySem.Env.blockKind; rw [hk]; rfl
  have e : (env.kindOf y == some .local) = decide (env.scope.names.lookup y = some .local) := by
    show (env.scope.names.lookup y == some NameKind.local) = _
    cases h : env.scope.names.lookup y with
    | none => rfl
    | some v => cases v <;> rfl
  unfold swapsWith
  simp only [hb, e, PySem.Expr.pos]
  exact congrArg pure ha
theorem as_cell {X : Cx} {Φ : Kp.Or} {W : WX} {e : PySem.Expr} {e' : E} {b b2 : Bool} (h1 : PE X e (tE X.K X.mg Φ W e')) (h2 : ∀ e'', cellE e' = some e'' → PE X e (tE X.K X.mg Φ W e'')) (h3 : PE X e (tE X.K X.mg Φ W (cellD e'))) : PE X e (tE X.K X.mg Φ W (if b then (if b2 then cellD e' else asCell e') else e')) := by
  cases b with
  | false => exact h1
  | true =>
    rw [if_pos rfl]
    cases b2 with
    | true => exact h3
    | false =>
      rw [if_neg Bool.false_ne_true]
      unfold asCell
      split
      · rename_i e'' he
        exact h2 e'' he
      · exact h1
section
variable {ci : CI} {Φ : Kp.Or} {k n : Nat} {X : Cx} {sc : Scope} {N : List Str} {W : WX}
theorem asg_facts {tg e : PySem.Expr} {tg' : Tg} {pos : Pos} (htg : cTg sc N n tg = some tg') (htt : ¬ (isTupE tg && isTupE e) = true) : swappedStores [tg] e X.env = pure none ∧ (assignEach [tg] X.env).map (·.2) = [assign tg X.env] ∧ (isCmp e = false → swapsWithSole [tg] e pos.line X.env = pure false) := by
  have hst : isStar tg = false := by
    cases n with
    | zero => simp only [cTg] at htg; cases htg
    | succ n => cases tg <;> first | rfl | (simp only [cTg] at htg; cases htg)
  refine ⟨?_, ?_, fun hc => ?_⟩
  · cases n with
    | zero => simp only [cTg] at htg; cases htg
    | succ n =>
      cases tg with
      | Name x p => cases e <;> rfl
      | Tuple ts kk p =>
        cases e with
        | Tuple => exact absurd rfl htt
        | _ => rfl
      | _ => simp only [cTg] at htg; cases htg
  · rw [ae_cons hst]
    rfl
  · cases e <;> first | rfl | cases hc
theorem snd_s (ih : SndS ci Φ k n) (C : CC X sc N k W) (T : TX X sc N) (hp : PO X) (g : GX ci Φ X k) {st : PySem.Stmt} {s' : S1} (h : cS ci sc N (n + 1) st = some s') : PS X st (tS X.K X.mg Φ W s') := by
  have S := snd_all ci Φ k n
  have sf : ∀ {b : Bool}, ¬ b = true → b = false := fun {b} h => by simpa using h
  have pe : ∀ {a a'}, cE ci sc N n a = some a' → PE X a (tE X.K X.mg Φ W a') := fun h => (S.e X sc N W C g _ _ h).1
  have pec : ∀ {a a'} (b b2 : Bool), cE ci sc N n a = some a' → PE X a (tE X.K X.mg Φ W (if b then (if b2 then cellD a' else asCell a') else a')) := fun b b2 h => as_cell (S.e X sc N W C g _ _ h).1 (S.e X sc N W C g _ _ h).2.1.1 (S.e X sc N W C g _ _ h).2.1.2
  have pt : ∀ {a a'}, cE ci sc N n a = some a' → PT X a (tT X.K X.mg Φ W a') := fun h => (S.e X sc N W C g _ _ h).2.2
  have pg : ∀ {a a'}, cTg sc N n a = some a' → PG X a (gT X.K a') := fun h => (tg_sound T n).1 _ _ h
  have pss : ∀ {a a'}, cSs ci sc N n a = some a' → PSs X a (tSs X.K X.mg Φ W a') := fun h => ih.ss X sc N W C T hp g _ _ h
  unfold cS at h
  split at h
  · rename_i o i p2 e pos
    split at h
    · cases h
    · rename_i hs
      simp only [Bool.or_eq_true, not_or] at hs
      split at h
      · rename_i e' o' i' he ho hi
        cases h
        exact st_setI C.calm (sf hs.1) (sf hs.2) (pe he) (pe ho) (pe hi)
      · cases h
  · rename_i tg e pos hne
    split at h
    · cases h
    · rename_i htt
      split at h
      · rename_i tg' e' htg he
        cases h
        obtain ⟨f1, f2, f3⟩ := asg_facts (X := X) (pos := pos) htg htt
        by_cases hc : isCmp e = true
        · -- a comprehension
          rw [show (ci.deep && !isCmp e) = false from by rw [hc]; exact Bool.and_false _]
          cases n with
          | zero => simp only [cE] at he; cases he
          | succ m =>
          cases e with
          | ListComp elt gs scope lp =>
            by_cases hsw : ∃ y py, tg = .Name y py ∧ (decide (sc.names.lookup y = some .local) && py.line == lp.line && !(scope.names.any fun (n, k) => n == y && (k == .local || k == .cell))) = true
            · obtain ⟨y, py, rfl, hsw⟩ := hsw
              simp only [Bool.and_eq_true, decide_eq_true_eq, Bool.not_eq_true'] at hsw
              obtain ⟨⟨w1, w2⟩, w3⟩ := hsw
              have htg2 : ∃ i, tg' = .nm i ∧ N[i]? = some y := by
                simp only [cTg] at htg
                split at htg
                · split at htg
                  · rename_i i hi
                    cases htg
                    exact ⟨i, rfl, ixS_some hi⟩
                  · cases htg
                · cases htg
              obtain ⟨i, rfl, hi⟩ := htg2
              have S' := snd_all ci Φ k m
              unfold cE at he
              split at he
              all_goals first | (rename_i z; cases z; done) | (cases he; done) | skip
              · rename_i elt2 tg2 iter ifs scope2 p2 hz
                cases hz
                simp only at he
                split at he
                · cases he
                · rename_i hb
                  simp only [Bool.or_eq_true, not_or, Bool.not_eq_true, Bool.not_eq_eq_eq_not, Bool.not_true, Bool.not_eq_false] at hb
                  split at he
                  · rename_i it' tg' c' e1 hi2 htg2 hc2 he2
                    split at he
                    · rename_i ho
                      cases he
                      have key := fun bb => s_setLc (Φ := Φ) (W := W) (spos := pos) (py := py) (pos := lp) (bb := bb) C hi w1 w2 w3 hb.1 hb.2 (S'.i X sc N W C g _ _ _ hi2) (lc_slots ho) (fun Y eK T => by rw [← eK]; exact (tg_sound T m).1 _ _ htg2) (fun Y q1 q2 q3 q4 q5 CY => (by
                        have gY : GX ci Φ Y k := by
                          show GC ci Φ Y.prog Y.w Y.K Y.mg Y.base k
                          rw [q1, q2, q3, q4, q5]
                          exact g
                        rw [← q1, ← q2]
                        exact S'.c Y _ N W0 CY gY _ _ hc2)) (fun Y q1 q2 q3 q4 q5 CY => (by
                        have gY : GX ci Φ Y k := by
                          show GC ci Φ Y.prog Y.w Y.K Y.mg Y.base k
                          rw [q1, q2, q3, q4, q5]
                          exact g
                        rw [← q1, ← q2]
                        exact (S'.e Y _ N W0 CY gY _ _ he2).1))
                      have gn : ∀ v σ H Q, gT X.K (.nm i) v σ H Q → gName i v σ H Q := fun v σ H Q q => by
                        obtain ⟨env, c, d, env', rel, er, rd, st, qq⟩ := q
                        unfold setTg at st
                        cases st
                        refine qq _ (er.set rd i) ⟨by simp, fun j hj => ?_⟩
                        unfold tgSl at hj
                        rw [List.getElem?_set_ne]
                        intro z
                        subst z
                        simp at hj
                      cases hm : isMut ci (.Name y py) with
                      | false =>
                        rw [if_neg Bool.false_ne_true]
                        refine impPS (key false) (asg_imp (fun σ H Q q => ?_) gn)
                        rw [tF_false]
                        exact q
                      | true =>
                        rw [if_pos rfl, if_neg Bool.false_ne_true]
                        refine impPS (key true) (asg_imp (fun σ H Q q => ?_) gn)
                        rw [tF_true]
                        exact q
                    · cases he
                  · cases he
              · rename_i elt2 tg2 iter ifs tg3 iter3 ifs3 scope2 p2 hz
                cases hz
                simp only at he
                split at he
                · cases he
                · rename_i hb
                  simp only [Bool.or_eq_true, not_or, Bool.not_eq_true, Bool.not_eq_eq_eq_not, Bool.not_true, Bool.not_eq_false] at hb
                  split at he
                  · rename_i it' tg' c' it1' tg1' c1' e1 hi2 htg2 hc2 hi3 htg3 hc3 he2
                    split at he
                    · rename_i ho
                      cases he
                      simp only [Bool.and_eq_true] at ho
                      have key := fun bb => s_setLc2 (Φ := Φ) (W := W) (spos := pos) (py := py) (pos := lp) (bb := bb) C hi w1 w2 w3 hb.1.1 hb.1.2 hb.2 (S'.i X sc N W C g _ _ _ hi2) (lc_slots ho.1) (fun i hi => List.contains_iff_mem.mp (List.all_eq_true.mp ho.2 i hi)) (fun i hi => (List.mem_filter.mp hi).1) (fun Y eK T => by rw [← eK]; exact ⟨(tg_sound T m).1 _ _ htg2, (tg_sound T m).1 _ _ htg3⟩) (fun Y q1 q2 q3 q4 q5 CY => (by
                        have gY : GX ci Φ Y k := by
                          show GC ci Φ Y.prog Y.w Y.K Y.mg Y.base k
                          rw [q1, q2, q3, q4, q5]
                          exact g
                        rw [← q1, ← q2]
                        exact ⟨S'.c Y _ N W0 CY gY _ _ hc2, S'.i Y _ N W0 CY gY _ _ _ hi3, S'.c Y _ N W0 CY gY _ _ hc3, (S'.e Y _ N W0 CY gY _ _ he2).1⟩))
                      have gn : ∀ v σ H Q, gT X.K (.nm i) v σ H Q → gName i v σ H Q := fun v σ H Q q => by
                        obtain ⟨env, c, d, env', rel, er, rd, st, qq⟩ := q
                        unfold setTg at st
                        cases st
                        refine qq _ (er.set rd i) ⟨by simp, fun j hj => ?_⟩
                        unfold tgSl at hj
                        rw [List.getElem?_set_ne]
                        intro z
                        subst z
                        simp at hj
                      cases hm : isMut ci (.Name y py) with
                      | false =>
                        rw [if_neg Bool.false_ne_true]
                        refine impPS (key false) (asg_imp (fun σ H Q q => ?_) gn)
                        rw [tF_false]
                        exact q
                      | true =>
                        rw [if_pos rfl, if_neg Bool.false_ne_true]
                        refine impPS (key true) (asg_imp (fun σ H Q q => ?_) gn)
                        rw [tF_true]
                        exact q
                    · cases he
                  · cases he
            · refine ⟨fun pins s σ H D I q => (st_asg (pec _ _ he) (pg htg) ?_ f1 f2).run pins s σ H D I q⟩
              show swapsWith (.ListComp elt gs scope lp) (some tg) pos.line X.env = pure false
              cases tg with
              | Name y py =>
                refine sw_false I.ok.kind ?_
                rw [C.scope]
                cases hq : (decide (sc.names.lookup y = some .local) && py.line == lp.line && !(scope.names.any fun (n, k) => n == y && (k == .local || k == .cell))) with
                | false => rfl
                | true => exact absurd ⟨y, py, rfl, hq⟩ hsw
              | Tuple ts kk p => rfl
              | _ => simp only [cTg] at htg; cases htg
          | SetComp => simp only [cE] at he; cases he
          | DictComp => simp only [cE] at he; cases he
          | _ => cases hc
        · exact st_asg (pec _ _ he) (pg htg) (f3 (sf hc)) f1 f2
      · cases h
  · rename_i e pos
    split at h
    · cases h
    · rename_i hc
      split at h
      · rename_i e' he
        cases h
        exact st_expr (pe he) (by cases e <;> first | rfl | exact absurd rfl hc)
      · cases h
  · split at h
    · rename_i e' he
      cases h
      exact st_ret (pec _ _ he)
    · cases h
  · cases h
    exact st_retN
  · cases h
    exact st_pass
  · split at h
    · cases h
    · rename_i hd
      simp only [Bool.or_eq_true, not_or, Bool.not_eq_true, Bool.not_eq_eq_eq_not, Bool.not_true, Bool.not_eq_false] at hd
      split at h
      · rename_i cl hcl
        split at h
        · cases h
        · rename_i hin
          cases h
          obtain ⟨e1, e2⟩ := findN_some hcl
          obtain ⟨adr, x1, _, _⟩ := g.exc
          exact st_raise C.calm C.takes (x1 cl e2) e1 (gl_of C.scope hd.2) (notDbg_ok hd.1).1 hin
      · cases h
  · split at h
    · cases h
    · rename_i hd
      simp only [Bool.or_eq_true, not_or, Bool.not_eq_true, Bool.not_eq_eq_eq_not, Bool.not_true, Bool.not_eq_false] at hd
      split at h
      · rename_i cl e' hcl he
        split at h
        · rename_i hin
          cases h
          obtain ⟨e1, e2⟩ := findN_some hcl
          obtain ⟨adr, x1, _, _⟩ := g.exc
          exact st_raiseF C.calm C.takes (x1 cl e2) e1 (gl_of C.scope hd.1.2) (notDbg_ok hd.1.1).1 hin C.room hd.2 (pe he)
        · cases h
      · cases h
  · rename_i body x np e kv p1 en p2 p3 pos' pos
    split at h
    · rename_i hc
      obtain ⟨rfl, hek, ke, kk, hg, hdx, hde⟩ := hc
      split at h
      · rename_i i j d b hi hj hd hb
        cases h
        obtain ⟨e1, e2⟩ := findN_some hd
        obtain ⟨adr, x1, x2, _⟩ := g.exc
        obtain ⟨n1, n2, _⟩ := notDbg_ok hde
        subst e1
        have hN : X.N[i]? = some en := by rw [C.hN]; exact ixS_some hi
        have hJ : X.N[j]? = some kv := by rw [C.hN]; exact ixS_some hj
        refine st_try hp.2.1 hp.2.2 C.nd hN (by rw [← C.scope] at ke; exact ke) hJ (by rw [← C.scope] at kk; exact kk) n1 n2 (fun e => hek (by subst e; rw [hN] at hJ; exact Option.some.inj hJ)) ⟨gl_of C.scope hg, (notDbg_ok hdx).1, .inl (x1 d e2).gC⟩ (fun cl hcl => ?_) fun W' pn xe tk po => ?_
        · unfold takenBy at hcl
          obtain ⟨q, hq, rfl⟩ := List.mem_map.mp hcl
          obtain ⟨q1, q2⟩ := List.mem_filter.mp hq
          obtain ⟨y1, y2, y3, y4⟩ := x2 _ (subs_mem q1)
          refine ⟨_, x1 q.1 y1, ?_⟩
          rw [y4]
          exact congrArg some q2
        · exact ih.ss (X.tr pn xe) sc N W' ⟨C.scope, C.hN, C.nd, C.calm, C.room, C.gd, tk⟩ ⟨T.hN, T.nd, T.calm, T.loc, T.cell⟩ ⟨po, hp.2.1, hp.2.2⟩ g _ _ hb
      · cases h
    · cases h
  · rename_i x p2 e pos
    split at h
    · rename_i hl
      split at h
      · rename_i i e' hi he
        cases h
        have hN : X.N[i]? = some x := by rw [C.hN]; exact ixS_some hi
        have hk : sc.names.lookup x = some .local ∨ sc.names.lookup x = some .cell := kindS_loc hl
        refine st_aug C.nd hN (by rw [C.scope]; exact hk) ?_ (pe he)
        rcases hk with z | z
        · exact .inr (T.loc x z)
        · exact .inl (T.cell x z).2
      · cases h
    · cases h
  · split at h
    · rename_i c' b' hc hb
      cases h
      exact st_while hp.1 (pt hc) (pss hb)
    · cases h
  · split at h
    · rename_i c' a' b' hc ha hb
      cases h
      exact st_if (pt hc) (pss ha) (pss hb)
    · cases h
  · rename_i tg it body pos
    split at h
    · cases h
    · rename_i hs
      split at h
      · rename_i tg' it' b' htg hit hb
        cases h
        exact st_for hp.1 C.calm (sf hs) (S.i X sc N W C g _ _ _ hit) (pg htg) (pss hb)
      · cases h
  · cases h
theorem pss_never {st : List PySem.Stmt} : PSs X st (tSs X.K X.mg Φ W (.cons .never .nil)) := ⟨fun pins s σ H D I q => by
  obtain ⟨env, c, rel, er, h⟩ := q
  simp only [evSs, evS, R.bind_stuck] at h
  exact h.elim⟩
theorem snd_take (ih : SndS ci Φ k n) (C : CC X sc N k W) (T : TX X sc N) (hp : PO X) (g : GX ci Φ X k) {s : PySem.Stmt} {r : List PySem.Stmt} {s' : S1} {r' : Ss} (h : cTake ci sc N n s r = some s') (hr : cSs ci sc N n (r.drop 1) = some r') : PSs X (s :: r) (tSs X.K X.mg Φ W (.cons s' r')) := by
  unfold cTake at h
  split at h
  · rename_i x p1 t p2 f p3 a l p4 t2 p5 p6 p7 p8 p9 t3 p10 t4 p11 m apos x2 p12 z kk p13 cpos p14 rest
    split at h
    · rename_i hc
      obtain ⟨rfl, rfl, rfl, rfl, hxt, rfl, rfl, rfl, hl, hs, kx, kt, hg, hgl, hdf, hdx, hdt⟩ := hc
      split at h
      · rename_i i j f' a' hi hj hf ha
        cases h
        obtain ⟨e1, e2⟩ := findN_some hf
        subst e1
        obtain ⟨fa, fd, ps, g1, g2, g3, g4, _⟩ := g.fns f' e2
        obtain ⟨d1, _, _⟩ := notDbg_ok hdf
        obtain ⟨x1, x2', _⟩ := notDbg_ok hdx
        obtain ⟨t1, t2', _⟩ := notDbg_ok hdt
        refine pss_take C.takes C.room C.gd g4 (gl_of C.scope hg) g1 g2 g3 d1 hs ((snd_all ci Φ k n).e X sc N W C g _ _ ha).1 C.nd (by rw [C.hN]; exact ixS_some hi) (by rw [C.hN]; exact ixS_some hj) hxt (by rw [C.scope]; exact kx) (by rw [C.scope]; exact kt) x1 x2' t1 t2' (gl_of C.scope hgl) (g.blt "len" (by unfold bNames; simp)) hl (ih.ss X sc N W C T hp g _ _ hr)
      · cases h
    · cases h
  · cases h
theorem snd_ss (ih : SndS ci Φ k n) (C : CC X sc N k W) (T : TX X sc N) (hp : PO X) (g : GX ci Φ X k) {st : List PySem.Stmt} {s' : Ss} (h : cSs ci sc N (n + 1) st = some s') : PSs X st (tSs X.K X.mg Φ W s') := by
  cases st with
  | nil =>
    simp only [cSs] at h
    cases h
    exact sts_nil
  | cons a r =>
    simp only [cSs] at h
    split at h
    · rename_i s1 hs1
      split at h
      · rename_i r' hr
        cases h
        exact snd_take ih C T hp g hs1 hr
      · cases h
        exact pss_never
    · split at h
      · rename_i a' r' ha hr
        cases h
        exact sts_cons (ih.s X sc N W C T hp g _ _ ha) (ih.ss X sc N W C T hp g _ _ hr)
      · cases h
        exact pss_never
theorem snd_sall (ci : CI) (Φ : Kp.Or) (k : Nat) : ∀ n, SndS ci Φ k n
  | 0 => ⟨fun X sc N W C T hp g st s' h => (by simp only [cS] at h; cases h), fun X sc N W C T hp g st s' h => (by simp only [cSs] at h; cases h)⟩
  | n + 1 => ⟨fun X sc N W C T hp g st s' h => snd_s (snd_sall ci Φ k n) C T hp g h, fun X sc N W C T hp g st s' h => snd_ss (snd_sall ci Φ k n) C T hp g h⟩
end
/-! ### a def -/
section
variable {P : Program} {w : World} {K : PySem.W.Frag} {mg : Str → Option Value} {base : Heap}
theorem start_env {c : Cfg} {N : List Str} {ds : List D} {vs : List V} (r : RDs K c ds vs) (hl : ds.length ≤ N.length) : EnvR K c (L2.start N vs) (ds.map some ++ List.replicate (N.length - ds.length) none) := by
  refine ⟨by unfold L2.start; simp [r.len], fun i d h => ?_⟩
  unfold L2.start
  by_cases hi : i < ds.length
  · rw [List.getElem?_append_left (by simpa using hi), List.getElem?_map] at h
    cases e : ds[i]? with
    | none => rw [e] at h; cases h
    | some d' =>
      rw [e] at h
      cases h
      obtain ⟨v, q1, q2⟩ := r.get e
      refine ⟨v, ?_, q2⟩
      rw [List.getElem?_append_left (by rw [List.length_map, r.len]; exact hi), List.getElem?_map, q1]
      rfl
  · rw [List.getElem?_append_right (by simpa using hi)] at h
    have := List.getElem?_replicate (a := (none : Option D)) (n := N.length - ds.length) (i := i - (ds.map some).length)
    rw [this] at h
    split at h
    · cases h
    · cases h
theorem fn_ok {x qual : Str} {st : PySem.Stmt} {fa : Addr} {fd : FuncData} {N ps : List Str} {k : Nat} {ci : CI} {tb : Tb} {f : String} {fn : Fn} (F : L2.Fun K x qual st fa fd) (S : FnScope N ps (defScope st)) (g : GC ci (run tb k) P w K mg base k)
    (hc : cFn ci N st = some fn) (hps : parsOf (defArgs st) = some ps) (hf : tb f = some fn) : FnG P w K mg base (L2.CX P w) (k + 1) fa fd ps (spR K mg (run tb (k + 1)) f) := by
  obtain ⟨b, hb, rfl⟩ : ∃ b, cSs ci (defScope st) N depthC (defBody st) = some b ∧ fn = ⟨ps.length, N.length, b⟩ := by
    unfold cFn at hc
    split at hc
    · rename_i nm args body sc tc pos
      split at hc
      · rename_i ps' b h1 h2
        cases hc
        have : some ps' = some ps := h1.symm.trans hps
        cases this
        exact ⟨b, h2, rfl⟩
      · cases hc
    · cases hc
  have len : ∀ (ds : List D) (S : Sto), run tb (k + 1) f ds S ≠ .stuck → ds.length = ps.length := fun ds S h => by
    unfold run at h
    rw [hf] at h
    simp only at h
    split at h
    · assumption
    · exact absurd rfl h
  have hle : ps.length ≤ N.length := by
    have := S.pre
    have h2 : (N.take ps.length).length = ps.length := by rw [this]
    rw [List.length_take] at h2
    omega
  refine okG F S (fun vs H Q E h => ?_) fun cdv A outer s H vs Q E hgd hr h => ?_
  · obtain ⟨ds, c, rel, rds, q⟩ := h
    rw [rds.len]
    refine len ds c.S fun z => ?_
    rw [z] at q
    exact q
  · obtain ⟨ds, c, rel, rds, q⟩ := h
    have hl : ds.length = ps.length := len ds c.S fun z => by
      rw [z] at q
      exact q
    refine ⟨_, (snd_sall ci (run tb k) k depthC).ss _ (defScope st) N (fun cl dd _ H' => E cl dd H') ⟨rfl, rfl, S.nd, rfl, hr, hgd, takes_of rfl rfl rfl rfl⟩ ⟨rfl, S.nd, rfl, fun _ h => h, fun _ h => ⟨h, rfl⟩⟩ ⟨passes_of rfl, rfl, rfl⟩ g _ _ hb, ?_⟩
    refine ⟨ds.map some ++ List.replicate (N.length - ds.length) none, c, rel, start_env rds (by omega), ?_⟩
    unfold run at q
    rw [hf] at q
    simp only [hl, if_true] at q
    rw [hl]
    generalize evSs (run tb k) b (ds.map some ++ List.replicate (N.length - ps.length) none) c.S = r at q
    cases r with
    | stuck => exact q
    | ok p S' =>
      obtain ⟨ctl, env'⟩ := p
      cases ctl with
      | nx => exact fun σ' c' H' e1 e2 e3 e4 e5 => q .non c' H' e1 e2 e3 RD.mkNon
      | ret d => exact fun v c' H' e1 e2 e3 e4 => q v c' H' e1 e2 e3 e4
    | exc cl fs S' => exact fun ca dd σ' c' H' e1 e2 e3 e4 e5 e6 => q ca dd c' H' e1 e2 e3 e5 e6
end
end Kp
/-! A whole text: its defs, the law's end. -/
namespace Kp
open PySem L2
/-- a def of the text -/
structure Row where
  f : String
  st : PySem.Stmt
  N : List Str
  ps : List Str
  ci : CI
  fn : Fn
/-- what is chosen once for a text -/
structure Txt where
  fns : List String
  glb : List (String × T)
  kws : List KwRow
  excs : List String
  subs : List (String × String × Bool)
structure Row.Ok (t : Kp.Txt) (tb : Tb) (r : Row) : Prop where
  exs : r.ci.excs = t.excs
  sbs : r.ci.subs = t.subs
  fns : r.ci.fns = t.fns
  glb : r.ci.glb = t.glb
  kwl : r.ci.kws = t.kws
  kw : ∀ q ∈ t.kws, q.f = r.f → ∀ (kV doc pm : Value) (an : Option Addr) (cdv ct : Value) (us ws as : List Value), us.length = q.np → ws.length = q.ks.length → pick q.pm (us ++ ws) = some as →
    bindArgs (PySem.W.fnOf (Str.ofString r.f) (Str.ofString r.f) (defArgs r.st) (defBody r.st) (defScope r.st) .none kV doc pm an cdv ct) ⟨us, (q.ks.map Str.ofString).zip ws⟩ = pure (r.ps.zip as)
  scope : FnScope r.N r.ps (defScope r.st)
  comp : cFn r.ci r.N r.st = some r.fn
  pars : parsOf (defArgs r.st) = some r.ps
  tb : tb r.f = some r.fn
  binds : ∀ (kV doc pm : Value) (an : Option Addr) (cdv ct : Value) (us : List Value), us.length = r.ps.length →
    bindArgs (PySem.W.fnOf (Str.ofString r.f) (Str.ofString r.f) (defArgs r.st) (defBody r.st) (defScope r.st) .none kV doc pm an cdv ct) ⟨us, []⟩ = pure (r.ps.zip us)
/-- where it stands behind the top -/
def Row.At (K : PySem.W.Frag) (r : Row) (f : Addr) : Prop := PySem.W.nsIn K mainGlobals (Str.ofString r.f) = some (some (.ref f)) ∧ ∃ (oc : Value) (od : Option Addr) (kV doc pm : Value) (an : Option Addr) (cd ct : Value) (sl : Array (Option Value)),
  K.lookup f = some ⟨oc, od, .func (PySem.W.fnOf (Str.ofString r.f) (Str.ofString r.f) (defArgs r.st) (defBody r.st) (defScope r.st) .none kV doc pm an cd ct), sl⟩ ∧ PySem.W.codeIn K cd (Str.ofString r.f) = true ∧ PySem.W.keepIn K (.ref f) = true
/-- a constant of the module -/
def GlbAt (K : PySem.W.Frag) (p : String × T) : Prop := ∃ (v : V) (u : Value), PySem.W.nsIn K mainGlobals (Str.ofString p.1) = some (some u) ∧ RelV v u ∧ ∀ G, RT K G p.2 v
/-- an own class of errors -/
structure ClsAt (K : PySem.W.Frag) (cl : String) (C : Addr) : Prop where
  ns : PySem.W.nsIn K mainGlobals (Str.ofString cl) = some (some (.ref C))
  kC : PySem.W.keepIn K (.ref C) = true
  ex : cl ∉ inited → PySem.W.excIn K C [.type "Exception", .type "BaseException", .type "object"] "Exception.__new__" = true
  sb : PySem.W.subIn K (.ref C) (.type "BaseException") = some true
  ty : PySem.W.typeIn K (.ref C) = some (.type "type")
  cc : ExcC K C
  ini : cl ∈ rowed → ∃ fI, Kp.Own.ErrC K C fI ∧ Kp.Own.Init_row K C fI
  ic : PySem.W.isClsIn K C = true
theorem kitCls_ok {K : PySem.W.Frag} {cl : String} {D : Addr} {t : Value} {b : Bool} (F : ClsAt K cl D) (h : PySem.W.subIn K t (.ref D) = some b) : PySem.W.kitCls K t (.ref D) = some b := by
  have h2 : (PySem.W.clsIn K D).isSome = true := F.ic
  have e2 : ((PySem.W.clsIn K D).isSome && PySem.W.typeIn K (.ref D) == some (.type "type")) = true := by
    rw [h2, F.ty] <;> rfl
  show (if ((PySem.W.clsIn K D).isSome && PySem.W.typeIn K (.ref D) == some (.type "type")) = true then PySem.W.subIn K t (.ref D) else none) = some b
  rw [if_pos e2]
  exact h
theorem kit_ok {K : PySem.W.Frag} {cl : String} {D : Addr} {t : Value} {b : Bool} (F : ClsAt K cl D) (h : PySem.W.subIn K t (.ref D) = some b) (q : (t == .ref D) = true → b = true) : PySem.W.kitOne K t (.ref D) = some b := by
  unfold PySem.W.kitOne
  by_cases e : (t == Value.ref D) = true
  · rw [if_pos e, q e]
  · rw [if_neg e]
    exact kitCls_ok F h
theorem exm_ok {K : PySem.W.Frag} {cl : String} {D : Addr} {t : Value} {b : Bool} (F : ClsAt K cl D) (h : PySem.W.subIn K t (.ref D) = some b) : PySem.W.exmOne K t (.ref D) = some b := by
  unfold PySem.W.exmOne
  have e1 : (PySem.W.subIn K (.ref D) (.type "BaseException") == some true) = true := by rw [F.sb] <;> rfl
  rw [if_pos e1]
  exact kitCls_ok F h
def ClsOk (K : PySem.W.Frag) (excs : List String) (subs : List (String × String × Bool)) : Prop := ∃ adr : String → Addr, (∀ cl ∈ excs, ClsAt K cl (adr cl)) ∧ (∀ q ∈ subs, q.1 ∈ excs ∧ q.2.1 ∈ excs ∧ PySem.W.kitOne K (.ref (adr q.1)) (.ref (adr q.2.1)) = some q.2.2 ∧ PySem.W.exmOne K (.ref (adr q.1)) (.ref (adr q.2.1)) = some q.2.2) ∧ ∀ d ∈ excs, PySem.W.kitOne K (.type "NoneType") (.ref (adr d)) = some false
theorem ClsOk.nil {K : PySem.W.Frag} : ClsOk K [] [] := ⟨fun _ => 0, fun _ h => absurd h List.not_mem_nil, fun _ h => absurd h List.not_mem_nil, fun _ h => absurd h List.not_mem_nil⟩
section
variable {P : Program} {w : World} {K : PySem.W.Frag} {mg : Str → Option Value} {base h : Heap} {tb : Tb} {t : Kp.Txt} {rows : List Row}
theorem fn_zero {fa : Addr} {fd : FuncData} {ps : List Str} {f : String} : FnG P w K mg base (L2.CX P w) 0 fa fd ps (spR K mg (run tb 0) f) :=
  ⟨fun vs H Q E h => (by obtain ⟨ds, c, _, _, q⟩ := h; exact q.elim), fun A outer s H args us vs Q E hr hgd he hb hv h => (by obtain ⟨ds, c, _, _, q⟩ := h; exact q.elim)⟩
theorem gc_all (X : K.In h) (G : h.Ns mainGlobals mg) (ok : ∀ r ∈ rows, r.Ok t tb) (nm : ∀ f ∈ t.fns, ∃ r ∈ rows, r.f = f) (at_ : ∀ r ∈ rows, ∃ f, r.At K f) (hg : ∀ p ∈ t.glb, GlbAt K p) (hcl : ClsOk K t.excs t.subs) (hb : ∀ x ∈ bNames, PySem.W.nsIn K mainGlobals x = some none) :
    ∀ (k : Nat) (ci : CI), ci.fns = t.fns → ci.glb = t.glb → ci.kws = t.kws → ci.excs = t.excs → ci.subs = t.subs → GC ci (run tb k) P w K mg base k := by
  have facts : ∀ r ∈ rows, ∃ fa fd, mg (Str.ofString r.f) = some (.ref fa) ∧ PySem.W.keepIn K (.ref fa) = true ∧ Binds K fd r.ps [] ∧ L2.Fun K (Str.ofString r.f) (Str.ofString r.f) r.st fa fd ∧ ∀ q ∈ t.kws, q.f = r.f → KwB K fd r.ps q := fun r hr => by
    obtain ⟨f, q1, oc, od, kV, doc, pm, an, cd, ct, sl, q2, q3, q4⟩ := at_ r hr
    have F := fun_mk (st := r.st) q2 q3 q4
    exact ⟨f, _, PySem.W.mg_of X G q1, q4, F.binds (ok r hr).binds, F, fun q hq e s us ws as _ h1 h2 h3 _ => .of_eq ((ok r hr).kw q hq e kV doc pm an cd ct us ws as h1 h2 h3)⟩
  have cls : ∀ ci : CI, ci.excs = t.excs → ci.subs = t.subs → ∃ adr : String → Addr, (∀ cl ∈ ci.excs, ExcFacts K mg cl (adr cl)) ∧ (∀ q ∈ ci.subs, q.1 ∈ ci.excs ∧ q.2.1 ∈ ci.excs ∧ PySem.W.kitOne K (.ref (adr q.1)) (.ref (adr q.2.1)) = some q.2.2 ∧ PySem.W.exmOne K (.ref (adr q.1)) (.ref (adr q.2.1)) = some q.2.2) ∧ ∀ d ∈ ci.excs, PySem.W.kitOne K (.type "NoneType") (.ref (adr d)) = some false := fun ci e4 e5 => by
    obtain ⟨adr, x1, x2, x3⟩ := hcl
    rw [e4, e5]
    exact ⟨adr, fun cl h => ⟨(x1 cl h).ns, PySem.W.mg_of X G (x1 cl h).ns, (x1 cl h).kC, (x1 cl h).ex, (x1 cl h).sb, (x1 cl h).ty, (x1 cl h).cc, (x1 cl h).ini⟩, x2, x3⟩
  intro k
  induction k with
  | zero =>
    intro ci e1 e2 e3 e4 e5
    refine ⟨fun f hf => ?_, fun p hp => ?_, fun x hx => PySem.W.mg_none_of X G (hb x hx), cls ci e4 e5⟩
    · rw [e1] at hf
      obtain ⟨r, hr, rfl⟩ := nm f hf
      obtain ⟨fa, fd, q1, q2, q3, q4, q5⟩ := facts r hr
      exact ⟨fa, fd, r.ps, q1, q2, q3, fn_zero, by rw [e3]; exact q5⟩
    · rw [e2] at hp
      obtain ⟨v, u, q1, q2, q3⟩ := hg p hp
      exact ⟨v, u, PySem.W.mg_of X G q1, q2, q3⟩
  | succ k ih =>
    intro ci e1 e2 e3 e4 e5
    refine ⟨fun f hf => ?_, fun p hp => ?_, fun x hx => PySem.W.mg_none_of X G (hb x hx), cls ci e4 e5⟩
    · rw [e1] at hf
      obtain ⟨r, hr, rfl⟩ := nm f hf
      obtain ⟨fa, fd, q1, q2, q3, q4, q5⟩ := facts r hr
      have o := ok r hr
      exact ⟨fa, fd, r.ps, q1, q2, q3, fn_ok q4 o.scope (ih r.ci o.fns o.glb o.kwl o.exs o.sbs) o.comp o.pars o.tb, by rw [e3]; exact q5⟩
    · rw [e2] at hp
      obtain ⟨v, u, q1, q2, q3⟩ := hg p hp
      exact ⟨v, u, PySem.W.mg_of X G q1, q2, q3⟩
end
theorem at_mk {K : PySem.W.Frag} {r : Row} {f : Addr} {oc : Value} {od : Option Addr} {kV doc pm : Value} {an : Option Addr} {cd ct : Value} {sl : Array (Option Value)} (x : Str) (st : PySem.Stmt) (hx : Str.ofString r.f = x) (hst : r.st = st)
    (a : PySem.W.nsIn K mainGlobals x = some (some (.ref f))) (l : K.lookup f = some ⟨oc, od, .func (PySem.W.fnOf x x (defArgs st) (defBody st) (defScope st) .none kV doc pm an cd ct), sl⟩) (c : PySem.W.codeIn K cd x = true) (kp : PySem.W.keepIn K (.ref f) = true) : ∃ f, r.At K f := by
  subst hx hst
  exact ⟨f, a, oc, od, kV, doc, pm, an, cd, ct, sl, l, c, kp⟩
/-- the first def of a class's body -/
def initOf : PySem.Stmt → PySem.Stmt
  | .ClassDef _ _ _ (f :: _) _ _ _ _ _ _ _ => f
  | s => s
theorem ini_mk {K : PySem.W.Frag} {C fI : Addr} (st : PySem.Stmt) {p0 p1 a0 b0 c0 d0 : Pos} {nm q qn : Str} {N : Addr} {bs bm : List Value} {sn : List Str} {sub : List Value} {ab : Bool} {col : Option Bool} {dd : Option Addr} {m0 m1 m2 m3 m5 : Option Value} {oc doc pm cd ct : Value} {od an : Option Addr} {sl : Array (Option Value)}
    (h1 : defArgs st = Kp.Own.iA_row p0 p1) (h2 : defBody st = Kp.Own.iB_row a0 b0 c0 d0) (h3 : defScope st = Kp.Own.iS_row)
    (xL : K.lookup C = some (PySem.excClassObj nm q C N bs bm true sn sub ab col dd m0 m1 m2 m3 m5 "Exception.__new__")) (up : Kp.Own.UpX bm)
    (sa : PySem.W.findIn K (.ref C) "__setattr__" = some (some (.builtin "object.__setattr__"))) (iC : PySem.W.findIn K (.ref C) "__init__" = some (some (.ref fI))) (tC : PySem.W.typeIn K (.ref fI) = some (.type "function"))
    (l : K.lookup fI = some ⟨oc, od, .func (PySem.W.fnOf "__init__" qn (defArgs st) (defBody st) (defScope st) .none .none doc pm an cd ct), sl⟩) (c : PySem.W.codeIn K cd qn = true) (n0 : PySem.W.findIn K (.ref C) "row" = some none) :
    ∃ fI, Kp.Own.ErrC K C fI ∧ Kp.Own.Init_row K C fI := by
  rw [h1, h2, h3] at l
  exact ⟨fI, ⟨⟨_, _, _, _, _, _, _, _, _, _, _, _, _, _, _, xL, up⟩, sa, iC, tC⟩, ⟨⟨_, _, _, _, _, _, _, _, _, _, _, _, _, _, _, l, c⟩, n0⟩⟩
theorem glb_int {K : PySem.W.Frag} {i : Int} {t : Nat} {s : String} (x : Str) (hx : Str.ofString s = x) (a : PySem.W.nsIn K mainGlobals x = some (some (.int i t))) : GlbAt K (s, .int i) := by
  subst hx
  refine ⟨.int i, _, a, ⟨t, rfl⟩, fun G => ?_⟩
  unfold RT
  rfl
theorem glb_str {K : PySem.W.Frag} {cs : Cs} {z : Str} {t : Nat} {s : String} (x : Str) (hx : Str.ofString s = x) (a : PySem.W.nsIn K mainGlobals x = some (some (.str z t))) (hz : stC cs = z) : GlbAt K (s, .str cs) := by
  subst hx
  subst hz
  refine ⟨.str (stC cs), _, a, ⟨t, rfl⟩, fun G => ?_⟩
  unfold RT
  rfl
theorem glb_tup {K : PySem.W.Frag} {ss : List Cs} {A : Addr} {dd : Option Addr} {its : Array Value} {n : Nat} {sl : Array (Option Value)} {s : String} (x : Str) (hx : Str.ofString s = x) (a : PySem.W.nsIn K mainGlobals x = some (some (.ref A)))
    (l : K.lookup A = some ⟨.type "tuple", dd, .seq its n, sl⟩) (hv : Vals ((ss.map stC).map V.str) its.toList) (hl : its.size ≤ 16777216) : GlbAt K (s, .tup (ss.map .str)) := by
  subst hx
  refine ⟨.ref A, _, a, rfl, fun G => ?_⟩
  unfold RT
  exact ⟨A, _, rfl, .inr ⟨_, its, n, l, rfl, rfl, by rw [sizeLine_eq]; exact hl, hv⟩, strs_RTs G ss⟩
/-- what the head asks of a text -/
theorem law_of {l : PySem.W.OpenLaw} {n k : Nat} {q : Program} {loose : List Str} {XP : (Str → Option Value) → Heap → Prop} {YP : World → Heap → Prop} {d : DefRec} {K : Params → PySem.W.Frag} {tb : Tb} {t : Kp.Txt} {rows : List Row} {rl : Row} {x : Str}
    (hn : l.most = some n) (hn2 : n ≤ sizeLine) (hdf : d.params.defaults = []) (hr : Room (k + 1) callerA) (hY : ∀ (w : World) (h : Heap), YP w h → (K w.params).In h)
    (ok : ∀ r ∈ rows, r.Ok t tb) (nm : ∀ f ∈ t.fns, ∃ r ∈ rows, r.f = f) (okl : rl.Ok t tb) (hps : rl.ps = [x]) (hd : Str.ofString rl.f = d.name)
    (F : ∀ w : World, (∃ f, rl.At (K w.params) f) ∧ (∀ r ∈ rows, ∃ f, r.At (K w.params) f) ∧ (∀ p ∈ t.glb, GlbAt (K w.params) p) ∧ (∀ x ∈ bNames, PySem.W.nsIn (K w.params) mainGlobals x = some none) ∧ ClsOk (K w.params) t.excs t.subs)
    (law : ∀ ns : List Int, ns.length ≤ n → ∃ S, run tb (k + 1) rl.f [.t (.scr ns)] [] = .ok (.t (.bl true)) S) :
    PySem.W.WalkO q loose XP YP l.row.toRowW d [] (fun f vs => PySem.call f vs) := by
  refine Att.attach_call hn hdf fun w s₀ s₁ mg mb fa o pm cd doc a vs ns G Y ho hd2 hcd hmg hobj hints hlen hg => ?_
  have KX := hY w _ Y
  obtain ⟨⟨f, q1, oc, od, kV, doc2, pm2, an, cd2, ct, sl, q2, q3, q4⟩, F2, F3, F4, F5⟩ := F w
  have FL := fun_mk (st := rl.st) q2 q3 q4
  have e : f = fa := by
    have z := PySem.W.mg_of KX G.T.g q1
    rw [hd, hmg] at z
    cases z
    rfl
  subst e
  refine lawG (fd := PySem.W.fnOf (Str.ofString rl.f) (Str.ofString rl.f) (defArgs rl.st) (defBody rl.st) (defScope rl.st) .none kV doc2 pm2 an cd2 ct) (CX := L2.CX l.prog w) (sp := spR (K w.params) mg (run tb (k + 1)) rl.f) (x := x) KX G.T.g G.T.b G.T.builtins G.T.nolimit hg hobj hints (Nat.le_trans hlen hn2) hr (fun base kb gb => ?_) (fun s u => ?_) (fun H hO hS => ?_) fun H e s' z => ?_
  · have o := okl
    have z := fn_ok (P := l.prog) (w := w) (mg := mg) (base := base) FL o.scope (gc_all KX G.T.g ok nm F2 F3 F5 F4 k rl.ci o.fns o.glb o.kwl o.exs o.sbs) o.comp o.pars o.tb
    rw [hps] at z
    exact z
  · have z := okl.binds kV doc2 pm2 an cd2 ct [u] (by rw [hps]; rfl)
    rw [hps] at z
    exact .of_eq z
  · obtain ⟨S, hrun⟩ := law ns hlen
    refine ⟨[.t (.scr ns)], ⟨H, [], []⟩, ⟨fun _ _ h => h, rfl, fun n x a h => (by simp at h), fun n m a h => (by simp at h)⟩, ?_, ?_⟩
    · unfold RDs RD RT
      refine ⟨_, [], rfl, ⟨a, rfl, hS⟩, ?_⟩
      unfold RDs
      rfl
    · show PR _ _ _ _ _ _ _ (run tb (k + 1) rl.f [.t (.scr ns)] []) _
      rw [hrun]
      intro b c' H' _ _ _ r
      have r := RD.t r
      unfold RT at r
      exact r
  · obtain ⟨_, _, _, _, _, _, _, _, _, _, _, _, z⟩ := z
    exact z.elim
end Kp
/-! Reasoning over runs of the little language. -/
namespace Kp
/-- what is wanted of an answer, of a refusal -/
def wp0 {α : Type} (r : R α) (Q : α → Sto → Prop) (E : String → List (String × T) → Sto → Prop) : Prop := match r with
  | .ok a S => Q a S
  | .exc c fs S => E c fs S
  | .stuck => False
/-- .. which nothing looks into -/
@[irreducible] def wp {α : Type} (r : R α) (Q : α → Sto → Prop) (E : String → List (String × T) → Sto → Prop) : Prop := wp0 r Q E
theorem wp_eq {α : Type} : @wp α = @wp0 α := by
  funext r Q E
  unfold wp
  rfl
theorem wp_of0 {α : Type} {r : R α} {Q : α → Sto → Prop} {E : String → List (String × T) → Sto → Prop} (h : wp0 r Q E) : wp r Q E := by
  rw [wp_eq]
  exact h
theorem wp_to0 {α : Type} {r : R α} {Q : α → Sto → Prop} {E : String → List (String × T) → Sto → Prop} (h : wp r Q E) : wp0 r Q E := by
  rw [wp_eq] at h
  exact h
abbrev noE : String → List (String × T) → Sto → Prop := fun _ _ _ => False
section
variable {α β : Type} {Q Q' : α → Sto → Prop} {QB : β → Sto → Prop} {E E' : String → List (String × T) → Sto → Prop} {r : R α} {S : Sto}
@[simp] theorem wp_ok (a : α) (S : Sto) : wp (.ok a S) Q E = Q a S := propext ⟨fun h => wp_to0 h, fun h => wp_of0 h⟩
@[simp] theorem wp_exc (c : String) (fs) (S : Sto) : wp (.exc c fs S : R α) Q E = E c fs S := propext ⟨fun h => wp_to0 h, fun h => wp_of0 h⟩
@[simp] theorem wp_stuck : wp (.stuck : R α) Q E = False := propext ⟨fun h => wp_to0 h, fun h => h.elim⟩
theorem wp.bind {f : α → Sto → R β} (h : wp r (fun a S => wp (f a S) QB E) E) : wp (r.bind f) QB E := by
  cases r with
  | ok a S =>
    rw [wp_ok] at h
    exact h
  | exc c fs S =>
    rw [wp_exc] at h
    rw [R.bind_exc, wp_exc]
    exact h
  | stuck =>
    rw [wp_stuck] at h
    exact h.elim
theorem wp.mono (h : wp r Q E) (q : ∀ a S, Q a S → Q' a S) (e : ∀ c fs S, E c fs S → E' c fs S) : wp r Q' E' := by
  have h := wp_to0 h
  refine wp_of0 ?_
  cases r with
  | ok a S => exact q _ _ h
  | exc c fs S => exact e _ _ _ h
  | stuck => exact h
theorem wp.get (h : wp r Q noE) : ∃ a S, r = .ok a S ∧ Q a S := by
  have h := wp_to0 h
  cases r with
  | ok a S => exact ⟨a, S, rfl, h⟩
  | exc c fs S => exact h.elim
  | stuck => exact h.elim
theorem wp.of {a : α} (h : r = .ok a S) (q : Q a S) : wp r Q E := by
  rw [h, wp_ok]
  exact q
end
/-! ### statements, one at a time -/
/-- the statements behind -/
def andSs (Φ : Or) (r : Ss) (Q : Ctl × Env → Sto → Prop) (E : String → List (String × T) → Sto → Prop) : Ctl × Env → Sto → Prop := fun p S => match p.1 with
  | .nx => wp (evSs Φ r p.2 S) Q E
  | .ret d => Q (.ret d, p.2) S
section
variable {Φ : Or} {r a b : Ss} {env : Env} {S : Sto} {Q : Ctl × Env → Sto → Prop} {E : String → List (String × T) → Sto → Prop} {e o i : Kp.E} {tg : Tg}
theorem andSs_nx : andSs Φ r Q E (.nx, env) S = wp (evSs Φ r env S) Q E := by unfold andSs; rfl
theorem andSs_ret {d : D} : andSs Φ r Q E (.ret d, env) S = Q (.ret d, env) S := by unfold andSs; rfl
theorem ss_nil (h : Q (.nx, env) S) : wp (evSs Φ .nil env S) Q E := by
  simp only [evSs, wp_ok]
  exact h
theorem ss_cons {s : S1} (h : wp (evS Φ s env S) (andSs Φ r Q E) E) : wp (evSs Φ (.cons s r) env S) Q E := by
  simp only [evSs]
  refine wp.bind (wp.mono h (fun p S' q => ?_) fun _ _ _ q => q)
  obtain ⟨ctl, env'⟩ := p
  cases ctl with
  | nx =>
    rw [andSs_nx] at q
    exact q
  | ret d =>
    rw [andSs_ret] at q
    show wp (.ok _ _) _ _
    rw [wp_ok]
    exact q
theorem ss_asg (h : ∀ K : D → Sto → Prop, (∀ d S, K d S = ∃ env', setTg tg d env = some env' ∧ wp (evSs Φ r env' S) Q E) → wp (evE Φ e env S) K E) : wp (evSs Φ (.cons (.asg tg e) r) env S) Q E := by
  refine ss_cons ?_
  simp only [evS]
  refine wp.bind (wp.mono (h _ fun _ _ => rfl) (fun d S' q => ?_) fun _ _ _ q => q)
  obtain ⟨env', q1, q2⟩ := q
  rw [q1, opt_some, R.bind_ok, wp_ok, andSs_nx]
  exact q2
theorem ss_setI (h : ∀ K : D → D → D → Sto → Prop, (∀ v d j S, K v d j S = ∃ S', setV d j v S = some S' ∧ wp (evSs Φ r env S') Q E) → wp (evE Φ e env S) (fun v S => wp (evE Φ o env S) (fun d S => wp (evE Φ i env S) (fun j S => K v d j S) E) E) E) : wp (evSs Φ (.cons (.setI o i e) r) env S) Q E := by
  refine ss_cons ?_
  simp only [evS]
  refine wp.bind (wp.mono (h _ fun _ _ _ _ => rfl) (fun v S1 q => ?_) fun _ _ _ q => q)
  refine wp.bind (wp.mono q (fun d S2 q => ?_) fun _ _ _ q => q)
  refine wp.bind (wp.mono q (fun j S3 q => ?_) fun _ _ _ q => q)
  obtain ⟨S', q1, q2⟩ := q
  rw [q1]
  show wp (.ok _ _) _ _
  rw [wp_ok, andSs_nx]
  exact q2
theorem ss_expr (h : ∀ K : D → Sto → Prop, (∀ d S, K d S = wp (evSs Φ r env S) Q E) → wp (evE Φ e env S) K E) : wp (evSs Φ (.cons (.expr e) r) env S) Q E := by
  refine ss_cons ?_
  simp only [evS]
  exact wp.bind (wp.mono (h _ fun _ _ => rfl) (fun d S' q => by rw [wp_ok, andSs_nx]; exact q) fun _ _ _ q => q)
theorem ss_ret (h : ∀ K : D → Sto → Prop, (∀ d S, K d S = Q (.ret d, env) S) → wp (evE Φ e env S) K E) : wp (evSs Φ (.cons (.ret e) r) env S) Q E := by
  refine ss_cons ?_
  simp only [evS]
  exact wp.bind (wp.mono (h _ fun _ _ => rfl) (fun d S' q => by rw [wp_ok, andSs_ret]; exact q) fun _ _ _ q => q)
theorem ss_retN (h : Q (.ret (.t .non), env) S) : wp (evSs Φ (.cons .retN r) env S) Q E := by
  refine ss_cons ?_
  simp only [evS, wp_ok, andSs_ret]
  exact h
theorem ss_pass (h : wp (evSs Φ r env S) Q E) : wp (evSs Φ (.cons .pass r) env S) Q E := by
  refine ss_cons ?_
  simp only [evS, wp_ok, andSs_nx]
  exact h
theorem ss_ife (h : ∀ K : Bool → Sto → Prop, (∀ b' S, K b' S = if b' = true then wp (evSs Φ a env S) (andSs Φ r Q E) E else wp (evSs Φ b env S) (andSs Φ r Q E) E) → wp (evT Φ e env S) K E) : wp (evSs Φ (.cons (.ife e a b) r) env S) Q E := by
  refine ss_cons ?_
  simp only [evS]
  refine wp.bind (wp.mono (h _ fun _ _ => rfl) (fun c S' q => ?_) fun _ _ _ q => q)
  cases c with
  | true =>
    rw [if_pos rfl] at q ⊢
    exact q
  | false =>
    rw [if_neg Bool.false_ne_true] at q ⊢
    exact q
theorem ss_if0 (h : ∀ K : Bool → Sto → Prop, (∀ b' S, K b' S = if b' = true then wp (evSs Φ a env S) (andSs Φ r Q E) E else wp (evSs Φ r env S) Q E) → wp (evT Φ e env S) K E) : wp (evSs Φ (.cons (.ife e a .nil) r) env S) Q E := by
  refine ss_cons ?_
  simp only [evS]
  refine wp.bind (wp.mono (h _ fun _ _ => rfl) (fun c S' q => ?_) fun _ _ _ q => q)
  cases c with
  | true =>
    rw [if_pos rfl] at q ⊢
    exact q
  | false =>
    rw [if_neg Bool.false_ne_true] at q ⊢
    refine ss_nil ?_
    rw [andSs_nx]
    exact q
/-- a loop: the items, then an invariant -/
theorem ss_for {it : Kp.I} {body : Ss} (h : ∀ K : List D → Sto → Prop, (∀ xs S, K xs S = wp (forL (fun x env S => (opt (setTg tg x env) S).bind fun env S => evSs Φ body env S) xs env S) (andSs Φ r Q E) E) → wp (evI Φ it env S) K E) : wp (evSs Φ (.cons (.for tg it body) r) env S) Q E := by
  refine ss_cons ?_
  simp only [evS]
  exact wp.bind (wp.mono (h _ fun _ _ => rfl) (fun d S' q => q) fun _ _ _ q => q)
end
/-! ### calls -/
/-- what is wanted of a def's end -/
abbrev retQ (Q : D → Sto → Prop) : Ctl × Env → Sto → Prop := fun p S' => Q (match p.1 with | .nx => .t .non | .ret d => d) S'
theorem retQ_ret {Q : D → Sto → Prop} {d : D} {env : Env} {S : Sto} : retQ Q (.ret d, env) S = Q d S := rfl
theorem retQ_nx {Q : D → Sto → Prop} {env : Env} {S : Sto} : retQ Q (.nx, env) S = Q (.t .non) S := rfl
theorem wp_run {tb : Tb} {k : Nat} {f : String} {fn : Fn} {ds : List D} {S : Sto} {Q : D → Sto → Prop} {E : String → List (String × T) → Sto → Prop} (hf : tb f = some fn) (hl : ds.length = fn.np)
    (h : wp (evSs (run tb k) fn.body (ds.map some ++ List.replicate (fn.ns - fn.np) none) S) (retQ Q) E) : wp (run tb (k + 1) f ds S) Q E := by
  have h := wp_to0 h
  refine wp_of0 ?_
  unfold run
  simp only [hf, hl, if_true]
  generalize evSs (run tb k) fn.body (ds.map some ++ List.replicate (fn.ns - fn.np) none) S = r at h
  cases r with
  | ok p S' =>
    obtain ⟨ctl, env⟩ := p
    cases ctl <;> exact h
  | exc c fs S' => exact h
  | stuck => exact h
theorem isoArgs_T : ∀ (xs : List T) (n : Nat), isoArgs (xs.map .t) n = some (xs.map .t, [])
  | [], _ => rfl
  | x :: r, n => by simp only [List.map_cons, isoArgs, isoArgs_T r n]
/-- a call on trees, told a tree -/
theorem iso_T {Φ : Or} {f : String} (xs : List T) {S : Sto} {Q : D → Sto → Prop} {E : String → List (String × T) → Sto → Prop} (h : wp (Φ f (xs.map .t) []) (fun d S1 => S1.all flatC = true ∧ ∃ x, toT 0 S1 d = some x ∧ Q (.t x) S) (fun c fs S1 => S1.all flatC = true ∧ E c fs S)) :
    wp (isoLend Φ f (xs.map .t) false S) Q E := by
  have h := wp_to0 h
  refine wp_of0 ?_
  unfold isoLend
  rw [isoArgs_T]
  simp only [List.nodup_nil, if_true, lentC]
  generalize Φ f (xs.map .t) [] = r at h
  cases r with
  | ok d S1 =>
    obtain ⟨h1, x, h2, h3⟩ := h
    simp only [h1, if_true, List.length_nil, h2]
    exact h3
  | exc c fs S1 =>
    obtain ⟨h1, h3⟩ := h
    simp only [h1, if_true]
    exact h3
  | stuck => exact h
theorem iso_frz {Φ : Or} {f : String} (xs : List T) (S : Sto) : isoCall Φ f (xs.map .t) .frz S = isoLend Φ f (xs.map .t) false S := by
  unfold isoCall
  rw [allT_map]
theorem iso_F {Φ : Or} {f : String} (xs : List T) {S : Sto} {Q : D → Sto → Prop} {E : String → List (String × T) → Sto → Prop} (h : wp (Φ f (xs.map .t) []) (fun d S1 => S1.all flatC = true ∧ ∃ x, toT 0 S1 d = some x ∧ Q (.t x) S) (fun c fs S1 => S1.all flatC = true ∧ E c fs S)) :
    wp (isoCall Φ f (xs.map .t) .frz S) Q E := by
  rw [iso_frz]
  exact iso_T xs h
theorem iso_T1 {Φ : Or} {f : String} (x : T) {S : Sto} {Q : D → Sto → Prop} {E : String → List (String × T) → Sto → Prop} (h : wp (Φ f [.t x] []) (fun d S1 => S1.all flatC = true ∧ ∃ x, toT 0 S1 d = some x ∧ Q (.t x) S) (fun c fs S1 => S1.all flatC = true ∧ E c fs S)) :
    wp (isoCall Φ f [.t x] .frz S) Q E := iso_F [x] h
theorem iso_T2 {Φ : Or} {f : String} (x y : T) {S : Sto} {Q : D → Sto → Prop} {E : String → List (String × T) → Sto → Prop} (h : wp (Φ f [.t x, .t y] []) (fun d S1 => S1.all flatC = true ∧ ∃ x, toT 0 S1 d = some x ∧ Q (.t x) S) (fun c fs S1 => S1.all flatC = true ∧ E c fs S)) :
    wp (isoCall Φ f [.t x, .t y] .frz S) Q E := iso_F [x, y] h
/-- .. whose new cells are kept -/
theorem iso_A {Φ : Or} {f : String} (xs : List T) {S : Sto} {Q : D → Sto → Prop} {E : String → List (String × T) → Sto → Prop} (h : wp (Φ f (xs.map .t) []) (fun d S1 => S1.all flatC = true ∧ ∃ x, ado 0 S.length d = some x ∧ Q x (S ++ S1)) (fun c fs S1 => S1.all flatC = true ∧ E c fs S)) :
    wp (isoCall Φ f (xs.map .t) .keep S) Q E := by
  have h := wp_to0 h
  refine wp_of0 ?_
  show wp0 (isoLend Φ f (xs.map .t) true S) Q E
  unfold isoLend
  rw [isoArgs_T]
  simp only [List.nodup_nil, if_true, lentC]
  generalize Φ f (xs.map .t) [] = r at h
  cases r with
  | ok d S1 =>
    obtain ⟨h1, x, h2, h3⟩ := h
    simp only [h1, if_true, List.length_nil, h2]
    exact h3
  | exc c fs S1 =>
    obtain ⟨h1, h3⟩ := h
    simp only [h1, if_true]
    exact h3
  | stuck => exact h
/-- a call on a cell, and trees -/
theorem iso_C {Φ : Or} {f : String} {n : Nat} {ys : List T} (xs : List T) {S : Sto} {Q : D → Sto → Prop} {E : String → List (String × T) → Sto → Prop} (hn : S[n]? = some (.lst ys))
    (h : wp (Φ f (.ref 0 :: xs.map .t) [.lst ys]) (fun d S1 => S1.all flatC = true ∧ ∃ c r, S1 = c :: r ∧ ∃ x, toT 1 S1 d = some x ∧ Q (.t x) (S.set n c)) (fun c fs S1 => S1.all flatC = true ∧ ∃ x r, S1 = x :: r ∧ E c fs (S.set n x))) :
    wp (isoCall Φ f (.ref n :: xs.map .t) .lend S) Q E := by
  have h := wp_to0 h
  refine wp_of0 ?_
  show wp0 (isoLend Φ f (.ref n :: xs.map .t) false S) Q E
  unfold isoLend
  have e : isoArgs (.ref n :: xs.map .t) 0 = some (.ref 0 :: xs.map .t, [n]) := by
    simp only [isoArgs, isoArgs_T]
  rw [e]
  simp only [List.nodup_cons, List.not_mem_nil, not_false_eq_true, List.nodup_nil, and_self, if_true, lentC, hn]
  generalize Φ f (.ref 0 :: xs.map .t) [.lst ys] = r at h
  cases r with
  | ok d S1 =>
    obtain ⟨h1, c, r, rfl, x, h2, h3⟩ := h
    simp only [h1, if_true, List.length_cons, List.length_nil, Nat.zero_add, h2]
    exact h3
  | exc c fs S1 =>
    obtain ⟨h1, x, r, rfl, h3⟩ := h
    simp only [h1, if_true]
    exact h3
  | stuck => exact h
/-! ### loops -/
theorem wp_forL {f : D → Env → Sto → R (Ctl × Env)} {Q : Ctl × Env → Sto → Prop} {E : String → List (String × T) → Sto → Prop} : ∀ {xs : List D} {env : Env} {S : Sto} (I : Nat → Env → Sto → Prop), I 0 env S →
    (∀ (i : Nat) x env S, xs[i]? = some x → I i env S → wp (f x env S) (fun p S' => match p.1 with | .nx => I (i + 1) p.2 S' | .ret d => Q (.ret d, p.2) S') E) → (∀ env S, I xs.length env S → Q (.nx, env) S) → wp (forL f xs env S) Q E
  | [], env, S, I, h0, _, he => wp_of0 (he env S h0)
  | x :: xs, env, S, I, h0, hs, he => by
    have h := wp_to0 (hs 0 x env S rfl h0)
    unfold forL
    generalize f x env S = r at h
    cases r with
    | ok p S1 =>
      obtain ⟨ctl, env1⟩ := p
      cases ctl with
      | nx => exact wp_forL (fun i => I (i + 1)) h (fun i y env S e q => hs (i + 1) y env S e q) he
      | ret d => exact wp_of0 h
    | exc c fs S1 => exact wp_of0 h
    | stuck => exact h.elim
theorem wp_for {Φ : Or} {tg : Tg} {body : Ss} {Q : Ctl × Env → Sto → Prop} {E : String → List (String × T) → Sto → Prop} {xs : List D} {env : Env} {S : Sto} (I : Nat → Env → Sto → Prop) (h0 : I 0 env S)
    (hs : ∀ (i : Nat) x env S, xs[i]? = some x → I i env S → ∃ env', setTg tg x env = some env' ∧ wp (evSs Φ body env' S) (fun p S' => match p.1 with | .nx => I (i + 1) p.2 S' | .ret d => Q (.ret d, p.2) S') E) (he : ∀ env S, I xs.length env S → Q (.nx, env) S) :
    wp (forL (fun x env S => (opt (setTg tg x env) S).bind fun env S => evSs Φ body env S) xs env S) Q E := by
  refine wp_forL I h0 (fun i x env S e q => ?_) he
  obtain ⟨env', h1, h2⟩ := hs i x env S e q
  rw [h1, opt_some, R.bind_ok]
  exact h2
/-- a comprehension whose turns change nothing -/
theorem lcL_pure {f : D → Sto → R (Option D)} {g : D → Option D} {S : Sto} : ∀ {xs : List D}, (∀ x ∈ xs, f x S = .ok (g x) S) → lcL f xs S = .ok (xs.filterMap g) S
  | [], _ => rfl
  | x :: xs, h => by
    unfold lcL
    rw [h x List.mem_cons_self]
    simp only
    rw [lcL_pure fun y hy => h y (List.mem_cons_of_mem _ hy)]
    simp only [List.filterMap_cons]
    cases g x <;> rfl
theorem wp_lcL {f : D → Sto → R (Option D)} {Q : List D → Sto → Prop} {E : String → List (String × T) → Sto → Prop} : ∀ {xs : List D} {S : Sto} (I : Nat → List D → Sto → Prop) (acc : List D), I 0 acc S →
    (∀ (i : Nat) x acc S, xs[i]? = some x → I i acc S → wp (f x S) (fun o S' => I (i + 1) (acc ++ o.toList) S') noE) → (∀ ds S, I xs.length (acc ++ ds) S → Q ds S) → wp (lcL f xs S) Q E
  | [], S, I, acc, h0, _, he => wp_of0 (he [] S (by simpa using h0))
  | x :: xs, S, I, acc, h0, hs, he => by
    unfold lcL
    obtain ⟨o, S1, e, h1⟩ := (hs 0 x acc S rfl h0).get
    rw [e]
    simp only
    have z := wp_lcL (Q := fun ds S => Q (o.toList ++ ds) S) (E := noE) (S := S1) (xs := xs) (fun i => I (i + 1)) (acc ++ o.toList) h1 (fun i y acc S e q => hs (i + 1) y acc S e q) (fun ds S q => he _ _ (by simpa using q))
    obtain ⟨ds, S2, e2, h2⟩ := z.get
    rw [e2]
    cases o <;> exact wp_of0 h2
end Kp
namespace Kp
section
variable {α β : Type} {QB : β → Sto → Prop} {E : String → List (String × T) → Sto → Prop}
theorem wp_bind (r : R α) (f : α → Sto → R β) : wp (r.bind f) QB E = wp r (fun a S => wp (f a S) QB E) E := by
  cases r with
  | ok a S => rw [wp_ok, R.bind_ok]
  | exc c fs S => rw [R.bind_exc, wp_exc, wp_exc]
  | stuck => rw [R.bind_stuck, wp_stuck, wp_stuck]
theorem wp_opt (o : Option β) (S : Sto) : wp (opt o S) QB E = ∃ a, o = some a ∧ QB a S := by
  cases o with
  | none => rw [opt_none, wp_stuck]; simp
  | some a => rw [opt_some, wp_ok]; simp
theorem wp_ite {c : Prop} [Decidable c] (a b : R β) : wp (if c then a else b) QB E = if c then wp a QB E else wp b QB E := by
  split <;> rfl
end
end Kp
namespace Kp
section
variable {Φ : Or} {f : String} {S S1 : Sto} {v : T} {ad : Bool}
/-- a call told as an equation -/
theorem iso_eq {xs : List T} (h : Φ f (xs.map .t) [] = .ok (.t v) S1) (hf : S1.all flatC = true) : isoCall Φ f (xs.map .t) .frz S = .ok (.t v) S := by
  rw [iso_frz]
  unfold isoLend
  rw [isoArgs_T]
  simp only [List.nodup_nil, if_true, lentC, h, hf, List.length_nil, toT_t, if_false, Bool.false_eq_true]
  rfl
theorem iso1 {x : T} (h : Φ f [.t x] [] = .ok (.t v) []) : isoCall Φ f [.t x] .frz S = .ok (.t v) S := iso_eq (xs := [x]) h rfl
theorem iso2 {x y : T} (h : Φ f [.t x, .t y] [] = .ok (.t v) []) : isoCall Φ f [.t x, .t y] .frz S = .ok (.t v) S := iso_eq (xs := [x, y]) h rfl
theorem iso3 {x y z : T} (h : Φ f [.t x, .t y, .t z] [] = .ok (.t v) []) : isoCall Φ f [.t x, .t y, .t z] .frz S = .ok (.t v) S := iso_eq (xs := [x, y, z]) h rfl
/-- an equation by what is wanted -/
theorem eq_of {α : Type} {r : R α} {a : α} {S : Sto} (h : wp r (fun b S' => b = a ∧ S' = S) noE) : r = .ok a S := by
  obtain ⟨b, S', h1, h2, h3⟩ := h.get
  rw [h1, h2, h3]
theorem run_eq {tb : Tb} {k : Nat} {f : String} {fn : Fn} {ds : List D} {S S2 : Sto} {d : D} (hf : tb f = some fn) (hl : ds.length = fn.np)
    (h : wp (evSs (run tb k) fn.body (ds.map some ++ List.replicate (fn.ns - fn.np) none) S) (fun p S' => (match p.1 with | .nx => D.t .non | .ret d => d) = d ∧ S' = S2) noE) : run tb (k + 1) f ds S = .ok d S2 := eq_of (wp_run hf hl h)
end
end Kp
namespace Kp
/-- one statement with an assertion behind it -/
theorem ss_mid {Φ : Or} {r : Ss} {env : Env} {S : Sto} {Q : Ctl × Env → Sto → Prop} {E : String → List (String × T) → Sto → Prop} {s : S1} (M : Ctl × Env → Sto → Prop) (h : wp (evSs Φ (.cons s .nil) env S) M E) (q : ∀ p S1, M p S1 → andSs Φ r Q E p S1) : wp (evSs Φ (.cons s r) env S) Q E := by
  refine ss_cons ?_
  simp only [evSs] at h
  generalize evS Φ s env S = x at h ⊢
  have h := wp_to0 h
  cases x with
  | ok p S' =>
    obtain ⟨c, env'⟩ := p
    cases c <;> exact wp_of0 (q _ _ h)
  | exc c fs S' => exact wp_of0 h
  | stuck => exact h.elim
theorem and_nil {Φ : Or} {env : Env} {S : Sto} {Q : Ctl × Env → Sto → Prop} {E : String → List (String × T) → Sto → Prop} (h : Q (.nx, env) S) : andSs Φ .nil Q E (.nx, env) S := by
  rw [andSs_nx]
  exact ss_nil h
/-- .. that goes on in one state -/
theorem ss_to {Φ : Or} {r : Ss} {env : Env} {S : Sto} {Q : Ctl × Env → Sto → Prop} {E : String → List (String × T) → Sto → Prop} {s : S1} (env1 : Env) (S2 : Sto) (h : wp (evSs Φ (.cons s .nil) env S) (fun p S1 => p = (.nx, env1) ∧ S1 = S2) E) (q : wp (evSs Φ r env1 S2) Q E) : wp (evSs Φ (.cons s r) env S) Q E :=
  ss_mid _ h fun p S1 ⟨e1, e2⟩ => (by rw [e1, e2]; exact q)
end Kp
namespace Kp
theorem ss_take {Φ : Or} {r : Ss} {env : Env} {S : Sto} {Q : Ctl × Env → Sto → Prop} {E : String → List (String × T) → Sto → Prop} {i j : Nat} {f : String} {a : Kp.E} {w : Cs} (hw : env[j]? = some (some (.t (.str w)))) (hl : w.length ≤ lim)
    (h : ∀ K : D → Sto → Prop, (∀ d S, K d S = ∃ (k : Int) (c : Char), asInt d = some k ∧ atI w k = some c ∧ wp (evSs Φ r ((env.set i (some (.t (.str [c])))).set j (some (.t (.str (w.filter fun z => z != c))))) S) Q E) → wp (evE Φ a env S) (fun x S => wp (isoCall Φ f [x, .t (.int (w.length : Nat))] .lend S) K E) E) : wp (evSs Φ (.cons (.take i j f a) r) env S) Q E := by
  refine ss_cons ?_
  simp only [evS, hw, hl, if_true]
  refine wp.bind (wp.mono (h _ fun _ _ => rfl) (fun x S1 q => ?_) fun _ _ _ q => q)
  refine wp.bind (wp.mono q (fun d S2 q => ?_) fun _ _ _ q => q)
  obtain ⟨k, c, q1, q2, q3⟩ := q
  simp only [q1, q2, wp_ok, andSs_nx]
  exact q3
end Kp
namespace Kp
theorem iso_eqC {Φ : Or} {f : String} {S S1 : Sto} {v : T} {d : D} {xs : List T} (h : Φ f (xs.map .t) [] = .ok d S1) (hf : S1.all flatC = true) (hd : toT 0 S1 d = some v) : isoCall Φ f (xs.map .t) .frz S = .ok (.t v) S := by
  rw [iso_frz]
  unfold isoLend
  rw [isoArgs_T]
  simp only [List.nodup_nil, if_true, lentC, h, hf, List.length_nil, hd, if_false, Bool.false_eq_true]
  rfl
end Kp
namespace Kp
theorem iso_frz2 {Φ : Or} {f : String} {S S1 : Sto} {n : Nat} {xs : List T} {y v : T} (hn : S[n]? = some (.lst xs)) (h : Φ f [.t (.lst xs), .t y] [] = .ok (.t v) S1) (hv : flatT v = true) : isoCall Φ f [.ref n, .t y] .frz S = .ok (.t v) S := by
  unfold isoCall
  have e : allT [D.ref n, .t y] = none := rfl
  have e2 : toTs 0 S [D.ref n, .t y] = some [.lst xs, y] := by
    rw [toTs_cons, toT_ref (Nat.zero_le _) hn, toTs_cons, toT_t, toTs_nil]
  simp only [e, isoFrz, e2, List.map_cons, List.map_nil, h, hv, if_true]
end Kp
namespace Kp
theorem flat_set {S : Sto} {n : Nat} {c : Cell} (h : S.all flatC = true) (hc : flatC c = true) : (S.set n c).all flatC = true := by
  rw [List.all_eq_true] at h ⊢
  intro x hx
  rcases List.mem_or_eq_of_mem_set hx with h1 | rfl
  · exact h x h1
  · exact hc
end Kp
namespace Kp
theorem ss_raise {Φ : Or} {r : Ss} {env : Env} {S : Sto} {Q : Ctl × Env → Sto → Prop} {E : String → List (String × T) → Sto → Prop} {c : String} (h : E c [] S) : wp (evSs Φ (.cons (.raise c) r) env S) Q E := by
  refine ss_cons ?_
  simp only [evS, wp_exc]
  exact h
theorem ss_try {Φ : Or} {r b : Ss} {env : Env} {S : Sto} {Q : Ctl × Env → Sto → Prop} {E : String → List (String × T) → Sto → Prop} {i j : Nat} {cs : List String}
    (h : wp (evSs Φ b env S) (andSs Φ r Q E) (fun c fs S' => cs.contains c = true ∧ wp (evSs Φ r (((wipeE env (slSs b)).set j (some (.exc c fs))).set i none) S') Q E)) : wp (evSs Φ (.cons (.tryK i j b cs) r) env S) Q E := by
  refine ss_cons ?_
  simp only [evS]
  have h := wp_to0 h
  generalize evSs Φ b env S = x at h
  cases x with
  | ok p S' => exact wp_of0 h
  | exc c fs S' =>
    obtain ⟨h1, h2⟩ := h
    simp only [h1, if_true, wp_ok, andSs_nx]
    exact h2
  | stuck => exact h.elim
theorem exc_of {α : Type} {r : R α} {c : String} {fs : List (String × T)} {S : Sto} (h : wp r (fun _ _ => False) (fun c' fs' S' => c' = c ∧ fs' = fs ∧ S' = S)) : r = .exc c fs S := by
  have h := wp_to0 h
  cases r with
  | ok a S' => exact h.elim
  | exc c' fs' S' =>
    obtain ⟨rfl, rfl, rfl⟩ := h
    rfl
  | stuck => exact h.elim
theorem iso_keepD {Φ : Or} {f : String} {xs : List T} {d d' : D} {S1 : Sto} (h : Φ f (xs.map .t) [] = .ok d S1) (hf : S1.all flatC = true) {S : Sto} (hd : ado 0 S.length d = some d') : isoCall Φ f (xs.map .t) .keep S = .ok d' (S ++ S1) := by
  show isoLend Φ f (xs.map .t) true S = _
  unfold isoLend
  rw [isoArgs_T]
  simp only [List.nodup_nil, if_true, lentC, h, List.length_nil, hf, hd]
  simp [backC]
theorem iso_exc {Φ : Or} {f : String} {xs : List T} {c : String} {fs : List (String × T)} (h : Φ f (xs.map .t) [] = .exc c fs []) (S : Sto) : isoCall Φ f (xs.map .t) .frz S = .exc c fs S := by
  rw [iso_frz]
  unfold isoLend
  rw [isoArgs_T]
  simp only [List.nodup_nil, if_true, lentC, h, List.all_nil]
  rfl
end Kp
/-! The operations on written forms. -/
namespace Kp
theorem isDct_non : isDct (.t (.non) : D) = false := rfl
theorem isDct_bl (b : Bool) : isDct (.t (.bl b) : D) = false := rfl
theorem isDct_int (i : Int) : isDct (.t (.int i) : D) = false := rfl
theorem isDct_str (s : Cs) : isDct (.t (.str s) : D) = false := rfl
theorem isDct_tup (xs : List T) : isDct (.t (.tup xs) : D) = false := rfl
theorem isDct_lst (xs : List T) : isDct (.t (.lst xs) : D) = false := rfl
theorem isDct_dct (ks : List Cs) (xs : List T) : isDct (.t (.dct ks xs) : D) = true := rfl
theorem isDct_scr (ns : List Int) : isDct (.t (.scr ns) : D) = false := rfl
theorem isDct_ref (n : Nat) : isDct (.ref n) = false := rfl
theorem isDct_tp (ds : List D) : isDct (.tp ds) = false := rfl
theorem dgt_dct (ks : List Cs) (xs : List T) (c : Cs) : dgtV (.t (.dct ks xs)) (.t (.str c)) = (match getD ks xs c with | some x => some (.t x) | none => none) := rfl
theorem asInt_non  : asInt (.t (.non) : D) = none := rfl
theorem asInt_bl (b : Bool) : asInt (.t (.bl b) : D) = none := rfl
theorem asInt_int (i : Int) : asInt (.t (.int i) : D) = some i := rfl
theorem asInt_str (s : Cs) : asInt (.t (.str s) : D) = none := rfl
theorem asInt_tup (xs : List T) : asInt (.t (.tup xs) : D) = none := rfl
theorem asInt_lst (xs : List T) : asInt (.t (.lst xs) : D) = none := rfl
theorem asInt_dct (ks : List Cs) (xs : List T) : asInt (.t (.dct ks xs) : D) = none := rfl
theorem asInt_scr (ns : List Int) : asInt (.t (.scr ns) : D) = none := rfl
theorem asInt_ref (n : Nat) : asInt (.ref n) = none := rfl
theorem asInt_tp (ds : List D) : asInt (.tp ds) = none := rfl
theorem asStr_non  : asStr (.t (.non) : D) = none := rfl
theorem asStr_bl (b : Bool) : asStr (.t (.bl b) : D) = none := rfl
theorem asStr_int (i : Int) : asStr (.t (.int i) : D) = none := rfl
theorem asStr_str (s : Cs) : asStr (.t (.str s) : D) = some s := rfl
theorem asStr_tup (xs : List T) : asStr (.t (.tup xs) : D) = none := rfl
theorem asStr_lst (xs : List T) : asStr (.t (.lst xs) : D) = none := rfl
theorem asStr_dct (ks : List Cs) (xs : List T) : asStr (.t (.dct ks xs) : D) = none := rfl
theorem asStr_scr (ns : List Int) : asStr (.t (.scr ns) : D) = none := rfl
theorem asStr_ref (n : Nat) : asStr (.ref n) = none := rfl
theorem asStr_tp (ds : List D) : asStr (.tp ds) = none := rfl
theorem asScr_non  : asScr (.t (.non) : D) = none := rfl
theorem asScr_bl (b : Bool) : asScr (.t (.bl b) : D) = none := rfl
theorem asScr_int (i : Int) : asScr (.t (.int i) : D) = none := rfl
theorem asScr_str (s : Cs) : asScr (.t (.str s) : D) = none := rfl
theorem asScr_tup (xs : List T) : asScr (.t (.tup xs) : D) = none := rfl
theorem asScr_lst (xs : List T) : asScr (.t (.lst xs) : D) = none := rfl
theorem asScr_dct (ks : List Cs) (xs : List T) : asScr (.t (.dct ks xs) : D) = none := rfl
theorem asScr_scr (ns : List Int) : asScr (.t (.scr ns) : D) = some ns := rfl
theorem asScr_ref (n : Nat) : asScr (.ref n) = none := rfl
theorem asScr_tp (ds : List D) : asScr (.tp ds) = none := rfl
theorem asBl_non  : asBl (.t (.non) : D) = none := rfl
theorem asBl_bl (b : Bool) : asBl (.t (.bl b) : D) = some b := rfl
theorem asBl_int (i : Int) : asBl (.t (.int i) : D) = none := rfl
theorem asBl_str (s : Cs) : asBl (.t (.str s) : D) = none := rfl
theorem asBl_tup (xs : List T) : asBl (.t (.tup xs) : D) = none := rfl
theorem asBl_lst (xs : List T) : asBl (.t (.lst xs) : D) = none := rfl
theorem asBl_dct (ks : List Cs) (xs : List T) : asBl (.t (.dct ks xs) : D) = none := rfl
theorem asBl_scr (ns : List Int) : asBl (.t (.scr ns) : D) = none := rfl
theorem asBl_ref (n : Nat) : asBl (.ref n) = none := rfl
theorem asBl_tp (ds : List D) : asBl (.tp ds) = none := rfl
theorem isNon_non  : isNon (.t (.non) : D) = true := rfl
theorem asL_non {S : Sto}  : asL S (.t (.non) : D) = none := rfl
theorem lstOf_non {S : Sto}  : lstOf S (.t (.non) : D) = none := rfl
theorem tupOf_non  : tupOf (.t (.non) : D) = none := rfl
theorem itemsOf_non {S : Sto}  : itemsOf S (.t (.non) : D) = none := rfl
theorem seqOf_non {S : Sto}  : seqOf S (.t (.non) : D) = none := rfl
theorem kndT_non  : kndT (.non) = .non := rfl
theorem isNon_bl (b : Bool) : isNon (.t (.bl b) : D) = false := rfl
theorem asL_bl {S : Sto} (b : Bool) : asL S (.t (.bl b) : D) = none := rfl
theorem lstOf_bl {S : Sto} (b : Bool) : lstOf S (.t (.bl b) : D) = none := rfl
theorem tupOf_bl (b : Bool) : tupOf (.t (.bl b) : D) = none := rfl
theorem itemsOf_bl {S : Sto} (b : Bool) : itemsOf S (.t (.bl b) : D) = none := rfl
theorem seqOf_bl {S : Sto} (b : Bool) : seqOf S (.t (.bl b) : D) = none := rfl
theorem kndT_bl (b : Bool) : kndT (.bl b) = .bl := rfl
theorem isNon_int (i : Int) : isNon (.t (.int i) : D) = false := rfl
theorem asL_int {S : Sto} (i : Int) : asL S (.t (.int i) : D) = none := rfl
theorem lstOf_int {S : Sto} (i : Int) : lstOf S (.t (.int i) : D) = none := rfl
theorem tupOf_int (i : Int) : tupOf (.t (.int i) : D) = none := rfl
theorem itemsOf_int {S : Sto} (i : Int) : itemsOf S (.t (.int i) : D) = none := rfl
theorem seqOf_int {S : Sto} (i : Int) : seqOf S (.t (.int i) : D) = none := rfl
theorem kndT_int (i : Int) : kndT (.int i) = .int := rfl
theorem isNon_str (s : Cs) : isNon (.t (.str s) : D) = false := rfl
theorem asL_str {S : Sto} (s : Cs) : asL S (.t (.str s) : D) = none := rfl
theorem lstOf_str {S : Sto} (s : Cs) : lstOf S (.t (.str s) : D) = none := rfl
theorem tupOf_str (s : Cs) : tupOf (.t (.str s) : D) = none := rfl
theorem itemsOf_str {S : Sto} (s : Cs) : itemsOf S (.t (.str s) : D) = some (s.map fun c => .t (.str [c])) := rfl
theorem seqOf_str {S : Sto} (s : Cs) : seqOf S (.t (.str s) : D) = none := rfl
theorem kndT_str (s : Cs) : kndT (.str s) = .str := rfl
theorem isNon_tup (xs : List T) : isNon (.t (.tup xs) : D) = false := rfl
theorem asL_tup {S : Sto} (xs : List T) : asL S (.t (.tup xs) : D) = none := rfl
theorem lstOf_tup {S : Sto} (xs : List T) : lstOf S (.t (.tup xs) : D) = none := rfl
theorem tupOf_tup (xs : List T) : tupOf (.t (.tup xs) : D) = some (xs.map .t) := rfl
theorem itemsOf_tup {S : Sto} (xs : List T) : itemsOf S (.t (.tup xs) : D) = some (xs.map .t) := rfl
theorem seqOf_tup {S : Sto} (xs : List T) : seqOf S (.t (.tup xs) : D) = some (xs.map .t) := rfl
theorem kndT_tup (xs : List T) : kndT (.tup xs) = .tup := rfl
theorem isNon_lst (xs : List T) : isNon (.t (.lst xs) : D) = false := rfl
theorem asL_lst {S : Sto} (xs : List T) : asL S (.t (.lst xs) : D) = some xs := rfl
theorem lstOf_lst {S : Sto} (xs : List T) : lstOf S (.t (.lst xs) : D) = some (xs.map .t) := rfl
theorem tupOf_lst (xs : List T) : tupOf (.t (.lst xs) : D) = none := rfl
theorem itemsOf_lst {S : Sto} (xs : List T) : itemsOf S (.t (.lst xs) : D) = some (xs.map .t) := rfl
theorem seqOf_lst {S : Sto} (xs : List T) : seqOf S (.t (.lst xs) : D) = some (xs.map .t) := rfl
theorem kndT_lst (xs : List T) : kndT (.lst xs) = .lst := rfl
theorem isNon_dct (ks : List Cs) (xs : List T) : isNon (.t (.dct ks xs) : D) = false := rfl
theorem asL_dct {S : Sto} (ks : List Cs) (xs : List T) : asL S (.t (.dct ks xs) : D) = none := rfl
theorem lstOf_dct {S : Sto} (ks : List Cs) (xs : List T) : lstOf S (.t (.dct ks xs) : D) = none := rfl
theorem tupOf_dct (ks : List Cs) (xs : List T) : tupOf (.t (.dct ks xs) : D) = none := rfl
theorem itemsOf_dct {S : Sto} (ks : List Cs) (xs : List T) : itemsOf S (.t (.dct ks xs) : D) = none := rfl
theorem seqOf_dct {S : Sto} (ks : List Cs) (xs : List T) : seqOf S (.t (.dct ks xs) : D) = none := rfl
theorem kndT_dct (ks : List Cs) (xs : List T) : kndT (.dct ks xs) = .dct := rfl
theorem isNon_scr (ns : List Int) : isNon (.t (.scr ns) : D) = false := rfl
theorem asL_scr {S : Sto} (ns : List Int) : asL S (.t (.scr ns) : D) = none := rfl
theorem lstOf_scr {S : Sto} (ns : List Int) : lstOf S (.t (.scr ns) : D) = none := rfl
theorem tupOf_scr (ns : List Int) : tupOf (.t (.scr ns) : D) = none := rfl
theorem itemsOf_scr {S : Sto} (ns : List Int) : itemsOf S (.t (.scr ns) : D) = none := rfl
theorem seqOf_scr {S : Sto} (ns : List Int) : seqOf S (.t (.scr ns) : D) = none := rfl
theorem kndT_scr (ns : List Int) : kndT (.scr ns) = .lst := rfl
theorem isNon_ref (n : Nat) : isNon (.ref n) = false := rfl
theorem isNon_tp (ds : List D) : isNon (.tp ds) = false := rfl
theorem tupOf_ref (n : Nat) : tupOf (.ref n) = none := rfl
theorem tupOf_tp (ds : List D) : tupOf (.tp ds) = some ds := rfl
theorem lstOf_tp {S : Sto} (ds : List D) : lstOf S (.tp ds) = none := rfl
theorem asL_tp {S : Sto} (ds : List D) : asL S (.tp ds) = none := rfl
theorem seqOf_tp {S : Sto} (ds : List D) : seqOf S (.tp ds) = some ds := rfl
theorem itemsOf_tp {S : Sto} (ds : List D) : itemsOf S (.tp ds) = some ds := rfl
theorem itemsOf_ref {S : Sto} (n : Nat) : itemsOf S (.ref n) = none := rfl
theorem asRef_ref (n : Nat) : asRef (.ref n) = some n := rfl
theorem asRef_t (x : T) : asRef (.t x) = none := rfl
theorem asTree_t (x : T) : asTree (.t x) = some x := rfl
theorem kndOf_t {S : Sto} (x : T) : kndOf S (.t x) = some (kndT x) := rfl
theorem kndOf_tp {S : Sto} (ds : List D) : kndOf S (.tp ds) = some .tup := rfl
theorem isTy_t {S : Sto} (x : T) (y : Ty) : isTy S (.t x) y = some (isKnd (kndT x) y) := rfl
theorem truth_bl {S : Sto} (b : Bool) : truth S (.t (.bl b)) = some b := rfl
theorem truth_int {S : Sto} (i : Int) : truth S (.t (.int i)) = some (i != 0) := rfl
theorem truth_non {S : Sto} : truth S (.t .non) = some false := rfl
theorem truth_lst {S : Sto} (xs : List T) : truth S (.t (.lst xs)) = some (!(xs.map D.t).isEmpty) := rfl
theorem truth_tup {S : Sto} (xs : List T) : truth S (.t (.tup xs)) = some (!(xs.map D.t).isEmpty) := rfl
theorem truth_str {S : Sto} (s : Cs) : truth S (.t (.str s)) = if s.length ≤ lim then some (s.length != 0) else none := rfl
theorem add_int {S : Sto} (i j : Int) : binV .add (.t (.int i)) (.t (.int j)) S = R.ok (.t (.int (i + j))) S := rfl
theorem add_str {S : Sto} (x y : Cs) : binV .add (.t (.str x)) (.t (.str y)) S = if x.length + y.length ≤ lim then R.ok (.t (.str (x ++ y))) S else .stuck := rfl
theorem add_lst {S : Sto} (x y : List T) : binV .add (.t (.lst x)) (.t (.lst y)) S = if x.length + y.length ≤ lim then R.ok (.t (.lst (x ++ y))) S else .stuck := rfl
theorem sub_int {S : Sto} (i j : Int) : binV .sub (.t (.int i)) (.t (.int j)) S = R.ok (.t (.int (i - j))) S := rfl
theorem mul_int {S : Sto} {i j : Int} (h : bound64 i = true ∨ bound64 j = true) : binV .mul (.t (.int i)) (.t (.int j)) S = R.ok (.t (.int (i * j))) S := by
  have e : (bound64 i || bound64 j) = true := by
    rcases h with h | h <;> simp [h]
  simp only [binV, intOp, asInt, asStr, e, if_true]
theorem mul_str {S : Sto} {s : Cs} {n : Int} (h : 1 ≤ n ∧ n ≤ 1000 ∧ s.length ≤ 1000) : binV .mul (.t (.str s)) (.t (.int n)) S = R.ok (.t (.str (List.replicate n.toNat s).flatten)) S := by
  simp only [binV, asInt, asStr]
  rw [if_pos h]
theorem fdiv_int {S : Sto} {i j : Int} (h : 0 < j) (h2 : j < 1073741824) : binV .fdiv (.t (.int i)) (.t (.int j)) S = R.ok (.t (.int (i / j))) S := by
  simp only [binV, intOp, asInt, h, h2, and_self, if_true]
theorem mod_int {S : Sto} {i j : Int} (h : 0 < j) : binV .mod (.t (.int i)) (.t (.int j)) S = R.ok (.t (.int (i % j))) S := by
  simp only [binV, intOp, asInt, h, if_true]
theorem bound_of {i : Int} (h1 : -(2 ^ 64) < i) (h2 : i < 2 ^ 64) : bound64 i = true := decide_eq_true ⟨h1, h2⟩
theorem lt_int {S : Sto} (i j : Int) : cmpV .lt (.t (.int i)) (.t (.int j)) S = some (decide (i < j)) := rfl
theorem le_int {S : Sto} (i j : Int) : cmpV .le (.t (.int i)) (.t (.int j)) S = some (decide (i ≤ j)) := rfl
theorem gt_int {S : Sto} (i j : Int) : cmpV .gt (.t (.int i)) (.t (.int j)) S = some (decide (j < i)) := rfl
theorem ge_int {S : Sto} (i j : Int) : cmpV .ge (.t (.int i)) (.t (.int j)) S = some (decide (j ≤ i)) := rfl
theorem lt_str {S : Sto} (x y : Cs) : cmpV .lt (.t (.str x)) (.t (.str y)) S = some (ltS x y) := rfl
theorem le_str {S : Sto} (x y : Cs) : cmpV .le (.t (.str x)) (.t (.str y)) S = some (leS x y) := rfl
theorem eq_t {S : Sto} (x y : T) : cmpV .eq (.t x) (.t y) S = if (plain x && plain y) = true then some (eqT x y) else none := by
  simp only [cmpV, eqV, toT_t]
theorem ne_t {S : Sto} (x y : T) : cmpV .ne (.t x) (.t y) S = notO (if (plain x && plain y) = true then some (eqT x y) else none) := by
  simp only [cmpV, eqV, toT_t]
theorem isN_t {S : Sto} (x : T) : cmpV .isN (.t x) (.t .non) S = some (isNon (.t x)) := rfl
theorem notN_t {S : Sto} (x : T) : cmpV .notN (.t x) (.t .non) S = some (!isNon (.t x)) := rfl
theorem idx_str {S : Sto} {s : Cs} {i : Int} {c : Char} (h : s.length ≤ lim) (hc : atI s i = some c) : idxV (.t (.str s)) (.t (.int i)) S = some (.t (.str [c])) := by
  simp only [idxV, asInt, asStr, h, if_true, hc]
theorem idx_scr {S : Sto} {s : List Int} {i n : Int} (hc : atI s i = some n) : idxV (.t (.scr s)) (.t (.int i)) S = some (.t (.int n)) := by
  simp only [idxV, asInt, asStr, asScr, hc]
theorem idx_lst {S : Sto} (xs : List T) (i : Int) : idxV (.t (.lst xs)) (.t (.int i)) S = atI (xs.map .t) i := rfl
theorem idx_tup {S : Sto} (xs : List T) (i : Int) : idxV (.t (.tup xs)) (.t (.int i)) S = atI (xs.map .t) i := rfl
theorem idx_tp {S : Sto} (ds : List D) (i : Int) : idxV (.tp ds) (.t (.int i)) S = atI ds i := rfl
theorem idx_ref {S : Sto} {n : Nat} {xs : List T} {i : Int} (h : S[n]? = some (.lst xs)) : idxV (.ref n) (.t (.int i)) S = atI (xs.map .t) i := by
  simp only [idxV, asInt, asStr, asScr, lstOf, h]
theorem slc_lst {S : Sto} (xs : List T) (lo hi : Option Int) : slcV (.t (.lst xs)) lo hi S = some (.t (.lst (cut xs lo hi))) := rfl
theorem slc_str {S : Sto} (s : Cs) (lo hi : Option Int) : slcV (.t (.str s)) lo hi S = if s.length ≤ lim then some (.t (.str (cut s lo hi))) else none := rfl
theorem len_str {S : Sto} (s : Cs) : lenV S (.t (.str s)) = if s.length ≤ lim then some s.length else none := rfl
theorem len_scr {S : Sto} (ns : List Int) : lenV S (.t (.scr ns)) = some ns.length := rfl
theorem len_lst {S : Sto} (xs : List T) : lenV S (.t (.lst xs)) = some xs.length := by
  simp only [lenV, asStr, asScr, seqOf, lstOf, List.length_map]
theorem len_tup {S : Sto} (xs : List T) : lenV S (.t (.tup xs)) = some xs.length := by
  simp only [lenV, asStr, asScr, seqOf, lstOf, tupOf, List.length_map]
theorem len_ref {S : Sto} {n : Nat} {xs : List T} (h : S[n]? = some (.lst xs)) : lenV S (.ref n) = some xs.length := by
  simp only [lenV, asStr, asScr, seqOf, lstOf, h, List.length_map]
theorem bi_len {S : Sto} (d : D) : biV .len [d] S = (match lenV S d with | some n => some (.t (.int n)) | none => none) := rfl
theorem bi_max2 {S : Sto} (i j : Int) : biV .max2 [.t (.int i), .t (.int j)] S = some (.t (.int (if j > i then j else i))) := rfl
theorem bi_min2 {S : Sto} (i j : Int) : biV .min2 [.t (.int i), .t (.int j)] S = some (.t (.int (if j < i then j else i))) := rfl
theorem bi_int_int {S : Sto} (i : Int) : biV .int1 [.t (.int i)] S = some (.t (.int i)) := rfl
theorem bi_int_bl {S : Sto} (b : Bool) : biV .int1 [.t (.bl b)] S = some (.t (.int (b2 b))) := rfl
theorem blsOf_map (bs : List Bool) : blsOf (bs.map fun b => D.t (.bl b)) = some bs := by
  induction bs with
  | nil => rfl
  | cons b r ih => simp only [List.map_cons, blsOf, asBl, ih]
theorem bi_all {S : Sto} (bs : List Bool) : biV .all [.t (.lst (bs.map fun b => T.bl b))] S = some (.t (.bl (bs.all id))) := by
  have e : (bs.map fun b => T.bl b).map D.t = bs.map fun b => D.t (.bl b) := by simp
  simp only [biV, blsIn, lstOf, e, blsOf_map]
theorem bi_any {S : Sto} (bs : List Bool) : biV .any [.t (.lst (bs.map fun b => T.bl b))] S = some (.t (.bl (bs.any id))) := by
  have e : (bs.map fun b => T.bl b).map D.t = bs.map fun b => D.t (.bl b) := by simp
  simp only [biV, blsIn, lstOf, e, blsOf_map]
theorem mkLst_map (xs : List T) : mkLst (xs.map .t) = some (.t (.lst xs)) := by
  simp only [mkLst, allT_map]
theorem mkTup_map (xs : List T) : mkTup (xs.map .t) = .t (.tup xs) := by
  simp only [mkTup, allT_map]
theorem app_ref {S : Sto} {n : Nat} {xs : List T} {x : T} (h : S[n]? = some (.lst xs)) (hl : xs.length < lim) : mtV .append (.ref n) [.t x] S = .ok (.t .non) (S.set n (.lst (xs ++ [x]))) := by
  simp only [mtV, cellL, asRef, h, asTree, hl, if_true]
theorem knd_ref {S : Sto} {n : Nat} {xs : List T} (h : S[n]? = some (.lst xs)) : kndOf S (.ref n) = some .lst := by
  simp only [kndOf, h]
theorem set_ref {S : Sto} {n : Nat} {xs : List T} {i : Int} {j : Nat} {x : T} (h : S[n]? = some (.lst xs)) (hj : ixN xs.length i = some j) : setV (.ref n) (.t (.int i)) (.t x) S = some (S.set n (.lst (xs.set j x))) := by
  simp only [setV, cellL, asRef, h, asInt, asTree, hj]
end Kp
namespace Kp
theorem atI_nat {α : Type} {xs : List α} {j : Nat} {x : α} (h : xs[j]? = some x) : atI xs (j : Int) = some x := by
  have hj : j < xs.length := (List.getElem?_eq_some_iff.mp h).1
  unfold atI L2.atI L2.ixN
  rw [if_pos (by omega), if_pos (by omega)]
  simpa using h
theorem atI_int {α : Type} {xs : List α} {i : Int} {x : α} (h0 : 0 ≤ i) (h : xs[i.toNat]? = some x) : atI xs i = some x := by
  have := atI_nat h
  rwa [Int.toNat_of_nonneg h0] at this
theorem atI_in {α : Type} {xs : List α} {i : Int} (h0 : 0 ≤ i) (h : i < xs.length) : ∃ x, atI xs i = some x ∧ x ∈ xs := by
  have hj : i.toNat < xs.length := by omega
  exact ⟨xs[i.toNat], atI_int h0 (List.getElem?_eq_getElem hj), List.getElem_mem hj⟩
theorem ixN_int {n : Nat} {i : Int} (h0 : 0 ≤ i) (h : i < n) : ixN n i = some i.toNat := by
  unfold ixN L2.ixN
  rw [if_pos h0, if_pos h]
end Kp
namespace Kp
theorem lstOf_ref {S : Sto} (n : Nat) : lstOf S (.ref n) = match S[n]? with | some (.lst xs) => some (xs.map .t) | some (.lsr ds) => some ds | _ => none := rfl
theorem asL_ref {S : Sto} (n : Nat) : asL S (.ref n) = match S[n]? with | some (.lst xs) => some xs | _ => none := rfl
theorem kndOf_ref {S : Sto} (n : Nat) : kndOf S (.ref n) = match S[n]? with | some (.lst _) => some .lst | some (.lsr _) => some .lst | _ => none := rfl
theorem idx_refU {S : Sto} (n : Nat) (i : Int) : idxV (.ref n) (.t (.int i)) S = match lstOf S (.ref n) with | some ds => atI ds i | none => none := by
  (simp only [idxV, asInt, asStr, asScr, tupOf]) <;> (cases lstOf S (.ref n) <;> rfl)
theorem len_refU {S : Sto} (n : Nat) : lenV S (.ref n) = match lstOf S (.ref n) with | some ds => some ds.length | none => none := by
  (simp only [lenV, asStr, asScr, seqOf, tupOf]) <;> (cases lstOf S (.ref n) <;> rfl)
theorem app_refU {S : Sto} (n : Nat) (x : T) : mtV .append (.ref n) [.t x] S = match S[n]? with | some (.lst xs) => if xs.length < lim then .ok (.t .non) (S.set n (.lst (xs ++ [x]))) else .stuck | some (.lsr es) => if es.length < lim then .ok (.t .non) (S.set n (.lsr (es ++ [.t x]))) else .stuck | _ => .stuck := by
  simp only [mtV, cellL, cellR, asRef, asTree]
  cases S[n]? with
  | none => rfl
  | some c => cases c <;> rfl
theorem set_refU {S : Sto} (n : Nat) (i : Int) (x : T) : setV (.ref n) (.t (.int i)) (.t x) S = match S[n]? with | some (.lst xs) => (match ixN xs.length i with | some j => some (S.set n (.lst (xs.set j x))) | none => none) | _ => none := by
  simp only [setV, cellL, asRef, asTree, asInt]
  cases S[n]? with
  | none => rfl
  | some c => cases c <;> rfl
/-- a def's run by its rows -/
theorem wp_fn {tb : Tb} {k np ns : Nat} {f : String} {body : Ss} {ds : List D} {S : Sto} {Q : D → Sto → Prop} {E : String → List (String × T) → Sto → Prop} (env : Env) (hf : tb f = some ⟨np, ns, body⟩) (hl : ds.length = np) (he : ds.map some ++ List.replicate (ns - np) none = env)
    (h : wp (evSs (run tb k) body env S) (retQ Q) E) : wp (run tb (k + 1) f ds S) Q E := by
  subst he
  exact wp_run hf hl h
end Kp
namespace Kp
theorem ixN_lit {m n : Nat} : ixN m (no_index (@OfNat.ofNat Int n instOfNat)) = if n < m then some n else none := by
  show ixN m (n : Int) = _
  unfold ixN L2.ixN
  by_cases h : n < m
  · rw [if_pos (by omega), if_pos (by omega), if_pos h]
    simp
  · rw [if_pos (by omega), if_neg (by omega), if_neg h]
theorem atI_cast {α : Type} {xs : List α} {n : Nat} : atI xs (n : Int) = xs[n]? := by
  cases h : xs[n]? with
  | some x => exact atI_nat h
  | none =>
    have hn := List.getElem?_eq_none_iff.mp h
    unfold atI L2.atI L2.ixN
    rw [if_pos (by omega), if_neg (by omega)]
    rfl
theorem atI_lit {α : Type} {xs : List α} {n : Nat} : atI xs (no_index (@OfNat.ofNat Int n instOfNat)) = xs[n]? := atI_cast
theorem atI_last {α : Type} {xs : List α} {x : α} : atI (xs ++ [x]) (-1) = some x := by
  unfold atI L2.atI L2.ixN
  rw [if_neg (by omega), if_pos (by simp; omega)]
  have e : (-1 + (((xs ++ [x]).length : Nat) : Int)).toNat = xs.length := by
    rw [List.length_append, List.length_singleton]
    omega
  show (xs ++ [x])[(-1 + (((xs ++ [x]).length : Nat) : Int)).toNat]? = some x
  rw [e, List.getElem?_concat_length]
end Kp
namespace Kp
section
variable {f : D → Sto → R (Option D)} {S : Sto}
theorem lc_trees {xs : List T} (g : T → Option T) (h : ∀ x ∈ xs, f (.t x) S = .ok ((g x).map .t) S) : lcL f (xs.map .t) S = .ok ((xs.filterMap g).map .t) S := by
  induction xs with
  | nil => rfl
  | cons x r ih =>
    rw [List.map_cons]
    unfold lcL
    rw [h x List.mem_cons_self]
    simp only
    rw [ih fun y hy => h y (List.mem_cons_of_mem _ hy)]
    simp only [List.filterMap_cons]
    cases g x <;> rfl
theorem lc_map {xs : List T} (g : T → T) (h : ∀ x ∈ xs, f (.t x) S = .ok (some (.t (g x))) S) : lcL f (xs.map .t) S = .ok ((xs.map g).map .t) S := by
  have z := lc_trees (fun x => some (g x)) h
  rw [List.filterMap_eq_map'] at z
  exact z
theorem strs_eq (s : Cs) : (s.map fun c => D.t (.str [c])) = (s.map fun c => T.str [c]).map .t := by
  rw [List.map_map]
  rfl
theorem lc_str {s : Cs} (g : Char → Option T) (h : ∀ c ∈ s, f (.t (.str [c])) S = .ok ((g c).map .t) S) : lcL f (s.map fun c => .t (.str [c])) S = .ok ((s.filterMap g).map .t) S := by
  induction s with
  | nil => rfl
  | cons x r ih =>
    rw [List.map_cons]
    unfold lcL
    rw [h x List.mem_cons_self]
    simp only
    rw [ih fun y hy => h y (List.mem_cons_of_mem _ hy)]
    simp only [List.filterMap_cons]
    cases g x <;> rfl
theorem lc_strM {s : Cs} (g : Char → T) (h : ∀ c ∈ s, f (.t (.str [c])) S = .ok (some (.t (g c))) S) : lcL f (s.map fun c => .t (.str [c])) S = .ok ((s.map g).map .t) S := by
  have z := lc_str (fun x => some (g x)) h
  rw [List.filterMap_eq_map'] at z
  exact z
end
theorem bi_allM {α : Type} {S : Sto} (g : α → Bool) (xs : List α) : biV .all [.t (.lst (xs.map fun x => T.bl (g x)))] S = some (.t (.bl (xs.all g))) := by
  have e := bi_all (S := S) (xs.map g)
  rw [List.map_map, List.all_map] at e
  exact e
theorem bi_anyM {α : Type} {S : Sto} (g : α → Bool) (xs : List α) : biV .any [.t (.lst (xs.map fun x => T.bl (g x)))] S = some (.t (.bl (xs.any g))) := by
  have e := bi_any (S := S) (xs.map g)
  rw [List.map_map, List.any_map] at e
  exact e
theorem lim_pos {n : Nat} (h : n ≤ 99999) : n ≤ lim := by unfold lim; omega
end Kp
namespace Kp
section
variable {f : D → Sto → R (Option D)} {S : Sto}
theorem lc_filt {xs : List T} (p : T → Bool) (g : T → T) (h : ∀ x ∈ xs, f (.t x) S = if p x = true then .ok (some (.t (g x))) S else .ok none S) : lcL f (xs.map .t) S = .ok (((xs.filter p).map g).map .t) S := by
  induction xs with
  | nil => rfl
  | cons x r ih =>
    have e := h x List.mem_cons_self
    rw [List.map_cons]
    unfold lcL
    rw [e]
    cases q : p x with
    | true =>
      rw [if_pos rfl]
      simp only
      rw [ih fun y hy => h y (List.mem_cons_of_mem _ hy)]
      simp [List.filter_cons, q]
    | false =>
      rw [if_neg Bool.false_ne_true]
      simp only
      rw [ih fun y hy => h y (List.mem_cons_of_mem _ hy)]
      simp [List.filter_cons, q]
theorem lc_strF {s : Cs} (p : Char → Bool) (g : Char → T) (h : ∀ x ∈ s, f (.t (.str [x])) S = if p x = true then .ok (some (.t (g x))) S else .ok none S) : lcL f (s.map fun c => .t (.str [c])) S = .ok (((s.filter p).map g).map .t) S := by
  induction s with
  | nil => rfl
  | cons x r ih =>
    have e := h x List.mem_cons_self
    rw [List.map_cons]
    unfold lcL
    rw [e]
    cases q : p x with
    | true =>
      rw [if_pos rfl]
      simp only
      rw [ih fun y hy => h y (List.mem_cons_of_mem _ hy)]
      simp [List.filter_cons, q]
    | false =>
      rw [if_neg Bool.false_ne_true]
      simp only
      rw [ih fun y hy => h y (List.mem_cons_of_mem _ hy)]
      simp [List.filter_cons, q]
end
theorem eqT_nil (xs : List T) : eqT (.lst xs) (.lst []) = xs.isEmpty := by
  cases xs with
  | nil => rfl
  | cons x r =>
    unfold eqT eqTs
    rfl
theorem lim_1 (c : Char) : [c].length ≤ lim := by
  show 1 ≤ lim
  unfold lim
  omega
end Kp
namespace Kp
theorem rng_get {n i : Nat} {x : D} (h : (rngD 0 n)[i]? = some x) : i < n ∧ x = .t (.int (i : Int)) := by
  have hi : i < n := by
    have := (List.getElem?_eq_some_iff.mp h).1
    simpa [rngD] using this
  unfold rngD at h
  rw [List.getElem?_map, List.getElem?_range hi] at h
  cases h
  exact ⟨hi, by simp⟩
theorem cut_le {α : Type} (xs : List α) (lo hi : Option Int) : (cut xs lo hi).length ≤ xs.length := by
  unfold cut
  simp only [List.length_take, List.length_drop]
  omega
end Kp
namespace Kp
section
variable {S : Sto} {n : Nat} {ys : List T} {x : T}
theorem dct_plain {x : T} (h : plain x = true) : dctKs (.t x) = none := by
  cases x <;> first | rfl | (simp [plain, plainN] at h)
theorem dct_ref {n : Nat} : dctKs (.ref n) = none := rfl
theorem dct_lst {ys : List T} : dctKs (.t (.lst ys)) = none := rfl
theorem in_ref (h : S[n]? = some (.lst ys)) (hx : plain x = true) (hy : plain (.lst ys) = true) : cmpV .inn (.t x) (.ref n) S = some (inT x ys) := by
  simp only [cmpV, memV, dct_ref, dct_lst, dct_plain hx, toT_t, asL, h, hx, hy, Bool.and_self, if_true]
theorem nin_ref (h : S[n]? = some (.lst ys)) (hx : plain x = true) (hy : plain (.lst ys) = true) : cmpV .nin (.t x) (.ref n) S = some (!inT x ys) := by
  simp only [cmpV, memV, dct_ref, dct_lst, dct_plain hx, toT_t, asL, h, hx, hy, Bool.and_self, if_true, notO]
theorem in_lst (hx : plain x = true) (hy : plain (.lst ys) = true) : cmpV .inn (.t x) (.t (.lst ys)) S = some (inT x ys) := by
  simp only [cmpV, memV, dct_ref, dct_lst, dct_plain hx, toT_t, asL, hx, hy, Bool.and_self, if_true]
theorem nin_lst (hx : plain x = true) (hy : plain (.lst ys) = true) : cmpV .nin (.t x) (.t (.lst ys)) S = some (!inT x ys) := by
  simp only [cmpV, memV, dct_ref, dct_lst, dct_plain hx, toT_t, asL, hx, hy, Bool.and_self, if_true, notO]
end
theorem cut_mem {α : Type} {xs : List α} {lo hi : Option Int} {x : α} (h : x ∈ cut xs lo hi) : x ∈ xs := by
  unfold cut at h
  exact List.mem_of_mem_drop (List.mem_of_mem_take h)
theorem cut_init {α : Type} (xs : List α) : cut xs none (some (-1)) = xs.dropLast := by
  unfold cut
  rw [List.dropLast_eq_take]
  have e1 : _root_.HT.sIx xs.length 0 none = 0 := rfl
  have e2 : _root_.HT.sIx xs.length xs.length (some (-1)) = xs.length - 1 := by
    unfold _root_.HT.sIx
    simp
    omega
  rw [e1, e2]
  simp
end Kp
namespace Kp
theorem ins_ref {S : Sto} {n : Nat} {xs : List T} {x : T} {k : Nat} (h : S[n]? = some (.lst xs)) (hl : xs.length < lim) (hk : k < 1000000) : mtV .insert (.ref n) [.t (.int (k : Nat)), .t x] S = .ok (.t .non) (S.set n (.lst (xs.take k ++ [x] ++ xs.drop k))) := by
  have e : ((k : Nat) : Int).toNat = k := rfl
  have e2 : (0 : Int) ≤ (k : Nat) ∧ ((k : Nat) : Int) < 2 ^ 62 := by omega
  simp only [mtV, cellL, asRef, h, asInt, asTree, hl, e2, and_self, if_true, e]
theorem clr_ref {S : Sto} {n : Nat} {xs : List T} (h : S[n]? = some (.lst xs)) : mtV .clear (.ref n) [] S = .ok (.t .non) (S.set n (.lst [])) := by
  simp only [mtV, cellL, asRef, h]
end Kp
namespace Kp
section
variable {α : Type} {f : D → Sto → R (Option D)} {S : Sto}
/-- a comprehension over a list of things -/
theorem lc_of {xs : List α} {t : α → T} (p : α → Bool) (g : α → T) (h : ∀ x ∈ xs, f (.t (t x)) S = if p x = true then .ok (some (.t (g x))) S else .ok none S) : lcL f ((xs.map t).map .t) S = .ok (((xs.filter p).map g).map .t) S := by
  induction xs with
  | nil => rfl
  | cons x r ih =>
    have e := h x List.mem_cons_self
    rw [List.map_cons, List.map_cons]
    unfold lcL
    rw [e]
    cases q : p x with
    | true =>
      rw [if_pos rfl]
      simp only
      rw [ih fun y hy => h y (List.mem_cons_of_mem _ hy)]
      simp [List.filter_cons, q]
    | false =>
      rw [if_neg Bool.false_ne_true]
      simp only
      rw [ih fun y hy => h y (List.mem_cons_of_mem _ hy)]
      simp [List.filter_cons, q]
theorem lc_ofM {xs : List α} {t : α → T} (g : α → T) (h : ∀ x ∈ xs, f (.t (t x)) S = .ok (some (.t (g x))) S) : lcL f ((xs.map t).map .t) S = .ok ((xs.map g).map .t) S := by
  have z := lc_of (t := t) (fun _ => true) g (fun x hx => by rw [if_pos rfl]; exact h x hx)
  rw [List.filter_eq_self.mpr fun _ _ => rfl] at z
  exact z
end
theorem pl_str (s : Cs) : plain (.str s) = true := rfl
theorem pl_int (i : Int) : plain (.int i) = true := rfl
theorem pl_bl (b : Bool) : plain (.bl b) = true := rfl
theorem pl_non : plain .non = true := rfl
theorem eqT_str (a b : Cs) : eqT (.str a) (.str b) = (a == b) := by unfold eqT; rfl
theorem eqT_int (a b : Int) : eqT (.int a) (.int b) = (a == b) := by unfold eqT; rfl
theorem eqT_bl (a b : Bool) : eqT (.bl a) (.bl b) = (a == b) := by unfold eqT; rfl
theorem notO_sm (b : Bool) : notO (some b) = some (!b) := rfl
theorem pairs_map {α : Type} (f : α → Cs) (g : α → T) : ∀ xs : List α, pairsT (xs.map fun x => .tup [.str (f x), g x]) = some (xs.map fun x => (f x, g x))
  | [] => rfl
  | x :: r => by
    rw [List.map_cons]
    unfold pairsT
    rw [pairs_map f g r]
    rfl
theorem mergeD_nd : ∀ (ps : List (Cs × T)) (ks : List Cs) (xs : List T), (ks ++ ps.map (·.1)).Nodup → mergeD ks xs ps = (ks ++ ps.map (·.1), xs ++ ps.map (·.2))
  | [], ks, xs, _ => by simp [mergeD]
  | p :: r, ks, xs, h => by
    have hn : (ks.any fun k => decide (k = p.1)) = false := by
      rw [List.any_eq_false]
      intro k hk e
      rw [decide_eq_true_eq] at e
      subst e
      rw [List.nodup_append] at h
      exact h.2.2 _ hk _ (by simp) rfl
    have e : putD ks xs p.1 p.2 = (ks ++ [p.1], xs ++ [p.2]) := by
      unfold putD
      rw [hn, if_neg Bool.false_ne_true]
    unfold mergeD
    rw [e, mergeD_nd r]
    · simp
    · simpa using h
theorem bi_dict {α : Type} {S : Sto} (f : α → Cs) (g : α → T) (xs : List α) (h : (xs.map f).Nodup) : biV .dict [.t (.lst (xs.map fun x => .tup [.str (f x), g x]))] S = some (.t (.dct (xs.map f) (xs.map g))) := by
  have e := mergeD_nd (xs.map fun x => (f x, g x)) [] [] (by simpa [List.map_map, Function.comp_def] using h)
  simp only [biV, asL, pairs_map, e, List.nil_append, List.map_map, Function.comp_def]
theorem getD_map {α : Type} (f : α → Cs) (g : α → T) (c : Cs) : ∀ xs : List α, getD (xs.map f) (xs.map g) c = (xs.find? fun x => f x == c).map g
  | [] => rfl
  | x :: r => by
    rw [List.map_cons, List.map_cons]
    unfold getD
    rw [List.find?_cons, getD_map f g c r]
    by_cases e : f x = c
    · rw [if_pos e, beq_iff_eq.mpr e]
      rfl
    · rw [if_neg e, beq_eq_false_iff_ne.mpr e]
end Kp
namespace Kp
section
variable {S : Sto} (x y : Bool)
theorem or_bl : (if x = true then R.ok (D.t (.bl x)) S else R.ok (D.t (.bl y)) S) = R.ok (D.t (.bl (x || y))) S := by cases x <;> rfl
theorem and_bl : (if x = true then R.ok (D.t (.bl y)) S else R.ok (D.t (.bl x)) S) = R.ok (D.t (.bl (x && y))) S := by cases x <;> rfl
theorem or_tt : (if x = true then R.ok true S else R.ok y S) = R.ok (x || y) S := by cases x <;> rfl
theorem and_tt : (if x = true then R.ok y S else R.ok false S) = R.ok (x && y) S := by cases x <;> rfl
end
theorem sign_eq (a b : Char) : (([a] : Cs) == [b]) = (a == b) := by
  simp
theorem inT_strs (s : Cs) (ss : List Cs) : inT (.str s) (ss.map .str) = ss.any fun y => y == s := by
  unfold inT
  rw [List.any_map]
  congr 1
theorem inT_signs (c : Char) (cs : Cs) : inT (.str [c]) (cs.map fun c => T.str [c]) = cs.any fun y => y == c := by
  unfold inT
  rw [List.any_map]
  congr 1
  funext y
  show eqT (.str [y]) (.str [c]) = _
  rw [eqT_str, sign_eq]
theorem plainN_map {α : Type} (n : Nat) (t : α → T) (xs : List α) (h : ∀ x, plainN n (t x) = true) : plainN (n + 1) (.lst (xs.map t)) = true := by
  unfold plainN
  rw [List.all_map, List.all_eq_true]
  intro s _
  exact h s
end Kp
namespace Kp
theorem bi_list {S : Sto} (xs : List T) : biV .list [.t (.lst xs)] S = some (.t (.lst xs)) := by
  simp only [biV, seqOf, lstOf, mkLst_map]
mutual
theorem eqT_refl : ∀ (n : Nat) (x : T), plainN n x = true → eqT x x = true
  | _, .non, _ => by unfold eqT; rfl
  | _, .bl b, _ => by unfold eqT; simp
  | _, .int i, _ => by unfold eqT; simp
  | _, .str s, _ => by unfold eqT; simp
  | 0, .tup xs, h => by simp [plainN] at h
  | 0, .lst xs, h => by simp [plainN] at h
  | n + 1, .tup xs, h => by
    unfold plainN at h
    unfold eqT
    exact eqTs_refl n xs (List.all_eq_true.mp h)
  | n + 1, .lst xs, h => by
    unfold plainN at h
    unfold eqT
    exact eqTs_refl n xs (List.all_eq_true.mp h)
  | 0, .dct ks xs, h => by simp [plainN] at h
  | 0, .scr ks, h => by simp [plainN] at h
  | n + 1, .dct ks xs, h => by simp [plainN] at h
  | n + 1, .scr ks, h => by simp [plainN] at h
theorem eqTs_refl : ∀ (n : Nat) (xs : List T), (∀ x ∈ xs, plainN n x = true) → eqTs xs xs = true
  | _, [], _ => by unfold eqTs; rfl
  | n, x :: r, h => by
    unfold eqTs
    rw [eqT_refl n x (h x List.mem_cons_self), eqTs_refl n r fun y hy => h y (List.mem_cons_of_mem _ hy)]
    rfl
end
theorem eq_self_t {S : Sto} {x : T} (h : plain x = true) : cmpV .eq (.t x) (.t x) S = some true := by
  rw [eq_t, h, eqT_refl 8 x h]
  rfl
theorem ne_self_t {S : Sto} {x : T} (h : plain x = true) : cmpV .ne (.t x) (.t x) S = some false := by
  rw [ne_t, h, eqT_refl 8 x h]
  rfl
end Kp
namespace Kp
section
variable {S : Sto} {n m : Nat} {xs ys : List T}
theorem ne_refs (h : S[n]? = some (.lst xs)) (h2 : S[m]? = some (.lst ys)) : cmpV .ne (.ref n) (.ref m) S = notO (if (plain (.lst xs) && plain (.lst ys)) = true then some (eqT (.lst xs) (.lst ys)) else none) := by
  simp only [cmpV, eqV, toT_ref (Nat.zero_le n) h, toT_ref (Nat.zero_le m) h2]
theorem ne_tref (x : T) (h : S[n]? = some (.lst xs)) : cmpV .ne (.t x) (.ref n) S = notO (if (plain x && plain (.lst xs)) = true then some (eqT x (.lst xs)) else none) := by
  simp only [cmpV, eqV, toT_ref (Nat.zero_le n) h, toT_t]
theorem isTy_ref {t : Ty} (h : S[n]? = some (.lst xs)) : isTy S (.ref n) t = some (isKnd .lst t) := by
  simp only [isTy, kndOf, h]
theorem frz_nil : frzEnv S [] = [] := rfl
theorem frz_t (x : T) (r : Env) : frzEnv S (some (.t x) :: r) = some (.t x) :: frzEnv S r := by
  simp [frzEnv]
theorem frz_none (r : Env) : frzEnv S (none :: r) = none :: frzEnv S r := rfl
theorem frz_ref (r : Env) (h : S[n]? = some (.lst xs)) : frzEnv S (some (.ref n) :: r) = some (.t (.lst xs)) :: frzEnv S r := by
  simp [frzEnv, toT_ref (Nat.zero_le n) h]
end
end Kp
namespace Kp
/-- one slot, looked at alone -/
def frz1 (S : Sto) (o : Option D) : Option D := match o with
  | some d => match toT 0 S d with
    | some x => some (.t x)
    | none => none
  | none => none
theorem frz_cons {S : Sto} (o : Option D) (r : Env) : frzEnv S (o :: r) = frz1 S o :: frzEnv S r := rfl
theorem frz1_ref {S : Sto} {n : Nat} {xs : List T} (h : S[n]? = some (.lst xs)) : frz1 S (some (.ref n)) = some (.t (.lst xs)) := by
  simp [frz1, toT_ref (Nat.zero_le n) h]
theorem frz1_t {S : Sto} (x : T) : frz1 S (some (.t x)) = some (.t x) := by
  simp [frz1]
theorem frzR_ok {x : T} {S S1 : Sto} (h : flatT x = true) : frzR (.ok (.t x) S1) S = .ok (.t x) S := by
  simp only [frzR, h, if_true]
/-- .. by what is wanted -/
theorem frzR_of {r : R D} {x : T} {S : Sto} (h : wp r (fun d _ => d = .t x) noE) (hx : flatT x = true) : frzR r S = .ok (.t x) S := by
  obtain ⟨d, S1, e, rfl⟩ := h.get
  rw [e]
  exact frzR_ok hx
end Kp
namespace Kp
theorem ik1 : isKnd .tup .tuple = true := rfl
theorem ik2 : isKnd .lst .tuple = false := rfl
theorem ik3 : isKnd .non .tuple = false := rfl
theorem ik4 : isKnd .bl .tuple = false := rfl
theorem ik5 : isKnd .int .tuple = false := rfl
theorem ik6 : isKnd .str .tuple = false := rfl
theorem ik7 : isKnd .dct .tuple = false := rfl
theorem il1 : isKnd .tup .list = false := rfl
theorem il2 : isKnd .lst .list = true := rfl
theorem il3 : isKnd .non .list = false := rfl
theorem il4 : isKnd .bl .list = false := rfl
theorem il5 : isKnd .int .list = false := rfl
theorem il6 : isKnd .str .list = false := rfl
theorem il7 : isKnd .dct .list = false := rfl
theorem is1 : isKnd .tup .str = false := rfl
theorem is2' : isKnd .lst .str = false := rfl
theorem is3 : isKnd .non .str = false := rfl
theorem is4 : isKnd .bl .str = false := rfl
theorem is5 : isKnd .int .str = false := rfl
theorem is6 : isKnd .str .str = true := rfl
theorem is7 : isKnd .dct .str = false := rfl
theorem ii1 : isKnd .tup .int = false := rfl
theorem ii2 : isKnd .lst .int = false := rfl
theorem ii3 : isKnd .non .int = false := rfl
theorem ii4 : isKnd .bl .int = true := rfl
theorem ii5 : isKnd .int .int = true := rfl
theorem ii6 : isKnd .str .int = false := rfl
theorem ii7 : isKnd .dct .int = false := rfl
theorem ib1 : isKnd .tup .bool = false := rfl
theorem ib2 : isKnd .lst .bool = false := rfl
theorem ib3 : isKnd .non .bool = false := rfl
theorem ib4 : isKnd .bl .bool = true := rfl
theorem ib5 : isKnd .int .bool = false := rfl
theorem ib6 : isKnd .str .bool = false := rfl
theorem ib7 : isKnd .dct .bool = false := rfl
end Kp
/-! The pool of digits that the laws draw from. -/
namespace Kp
local macro_rules | `(tactic| array_get_dec) => `(tactic| try simp only [evE, evEs, evT, evO, evC, evI, wp_bind, wp_ok, wp_stuck, wp_exc, wp_ite, R.bind_ok, R.bind_exc, R.bind_stuck, opt_some, opt_none, setTg, setTgs, fin, List.map_cons, List.map_nil, List.length_cons, List.length_nil, List.replicate, List.cons_append, List.nil_append, List.set_cons_zero, List.set_cons_succ, List.getElem?_cons_zero, List.getElem?_cons_succ, allT_nil, allT_cons, allT_map, wipeE, List.length_map, mkLst, mkTup, mtK, eq_self, if_true, if_false, Bool.false_eq_true, Bool.not_true, Bool.not_false, Nat.zero_add, Nat.add_zero, Nat.sub_self, Nat.reduceSub, Nat.reduceAdd, reduceIte, itmV, isDct_non, isDct_bl, isDct_int, isDct_str, isDct_tup, isDct_lst, isDct_dct, isDct_scr, isDct_ref, isDct_tp, dgt_dct, asInt_non, asInt_bl, asInt_int, asInt_str, asInt_tup, asInt_lst, asInt_dct, asInt_scr, asInt_ref, asInt_tp, asStr_non, asStr_bl, asStr_int, asStr_str, asStr_tup, asStr_lst, asStr_dct, asStr_scr, asStr_ref, asStr_tp, asScr_non, asScr_bl, asScr_int, asScr_str, asScr_tup, asScr_lst, asScr_dct, asScr_scr, asScr_ref, asScr_tp, asBl_non, asBl_bl, asBl_int, asBl_str, asBl_tup, asBl_lst, asBl_dct, asBl_scr, asBl_ref, asBl_tp, isNon_non, asL_non, lstOf_non, tupOf_non, itemsOf_non, seqOf_non, kndT_non, isNon_bl, asL_bl, lstOf_bl, tupOf_bl, itemsOf_bl, seqOf_bl, kndT_bl, isNon_int, asL_int, lstOf_int, tupOf_int, itemsOf_int, seqOf_int, kndT_int, isNon_str, asL_str, lstOf_str, tupOf_str, itemsOf_str, seqOf_str, kndT_str, isNon_tup, asL_tup, lstOf_tup, tupOf_tup, itemsOf_tup, seqOf_tup, kndT_tup, isNon_lst, asL_lst, lstOf_lst, tupOf_lst, itemsOf_lst, seqOf_lst, kndT_lst, isNon_dct, asL_dct, lstOf_dct, tupOf_dct, itemsOf_dct, seqOf_dct, kndT_dct, isNon_scr, asL_scr, lstOf_scr, tupOf_scr, itemsOf_scr, seqOf_scr, kndT_scr, isNon_ref, isNon_tp, tupOf_ref, tupOf_tp, lstOf_tp, asL_tp, seqOf_tp, itemsOf_tp, itemsOf_ref, asRef_ref, asRef_t, asTree_t, kndOf_t, kndOf_tp, isTy_t, truth_bl, truth_int, truth_non, truth_lst, truth_tup, truth_str, add_int, add_str, add_lst, sub_int, lt_int, le_int, gt_int, ge_int, lt_str, le_str, eq_t, ne_t, isN_t, notN_t, idx_lst, idx_tup, idx_tp, slc_lst, slc_str, len_str, len_scr, len_lst, len_tup, bi_len, bi_max2, bi_min2, bi_int_int, bi_int_bl, lstOf_ref, asL_ref, kndOf_ref, idx_refU, len_refU, app_refU, set_refU, ixN_lit, atI_lit, List.set_nil, Nat.reduceLT, Nat.reduceLeDiff])
def ir_pool : Fn := ⟨2, 5,
    (.cons (.asg (.nm 2) (.k (.int 0)))
    (.cons (.ife (.cmp .lt (.var 1) (.bi .len (.cons (.var 0) .nil))) (.cons (.asg (.nm 2) (.idx (.var 0) (.var 1)))
    .nil) .nil)
    (.cons (.asg (.nm 3) (.bi .max2 (.cons (.var 2) (.cons (.bin .sub (.neg (.k (.int 1))) (.var 2)) .nil))))
    (.cons (.asg (.nm 4) (.bin .mod (.bin .mul (.bin .add (.bin .add (.bin .add (.bin .mod (.var 3) (.k (.int 2147483629))) (.bin .mul (.bin .mul (.k (.int 7919)) (.var 1)) (.var 1))) (.bin .mul (.k (.int 31)) (.var 1))) (.k (.int 17))) (.k (.int 48271))) (.k (.int 2147483647))))
    (.cons (.ret (.newL (.cons (.bin .mul (.var 3) (.bi .int1 (.cons (.cmp .ge (.var 3) (.bin .pow (.k (.int 10)) (.k (.int 18)))) .nil))) (.cons (.var 4) .nil))))
    .nil)))))⟩
def ir_draw : Fn := ⟨2, 3,
    (.cons (.ife (.cmp .gt (.idx (.var 0) (.k (.int 0))) (.k (.int 0))) (.cons (.asg (.nm 2) (.bin .mod (.idx (.var 0) (.k (.int 0))) (.var 1)))
    (.cons (.setI (.var 0) (.k (.int 0)) (.bin .fdiv (.idx (.var 0) (.k (.int 0))) (.var 1)))
    (.cons (.ret (.var 2))
    .nil))) .nil)
    (.cons (.setI (.var 0) (.k (.int 1)) (.bin .mod (.bin .add (.bin .mul (.idx (.var 0) (.k (.int 1))) (.k (.int 69621))) (.k (.int 7))) (.k (.int 2147483647))))
    (.cons (.ret (.bin .mod (.bin .fdiv (.bin .mod (.bin .mul (.idx (.var 0) (.k (.int 1))) (.idx (.var 0) (.k (.int 1)))) (.k (.int 2147483629))) (.k (.int 32))) (.var 1)))
    .nil)))⟩
/-- the two numbers of a pool -/
structure Pool where
  a : Int
  b : Int
structure Pool.Ok (p : Pool) : Prop where
  a0 : 0 ≤ p.a
  b0 : 0 ≤ p.b
  b1 : p.b < 2147483647
def poolC (p : Pool) : Cell := .lst [.int p.a, .int p.b]
/-- what a draw told, what is left -/
structure Drew (p : Pool) (m : Int) (v : Int) (p' : Pool) : Prop where
  ok : p'.Ok
  lo : 0 ≤ v
  hi : v < m
theorem draw_ok {tb : Tb} {k : Nat} (ht : tb "_law_draw" = some ir_draw) {p : Pool} (hp : p.Ok) {m : Int} (h0 : 0 < m) (h1 : m < 1073741824) :
    ∃ v p', run tb (k + 1) "_law_draw" [.ref 0, .t (.int m)] [poolC p] = .ok (.t (.int v)) [poolC p'] ∧ Drew p m v p' := by
  obtain ⟨a0, b0, b1⟩ := hp
  suffices h : wp (run tb (k + 1) "_law_draw" [.ref 0, .t (.int m)] [poolC p]) (fun d S => ∃ v p', d = .t (.int v) ∧ S = [poolC p'] ∧ Drew p m v p') noE by
    obtain ⟨d, S, e, v, p', rfl, rfl, q⟩ := h.get
    exact ⟨v, p', e, q⟩
  unfold ir_draw at ht
  unfold poolC
  refine wp_fn _ ht rfl rfl ?_
  refine ss_ife fun K hK => ?_
  array_get_dec
  rw [hK]
  by_cases ha : 0 < p.a
  · rw [if_pos (decide_eq_true ha)]
    refine ss_asg fun K1 hK1 => ?_
    array_get_dec
    rw [mod_int h0]
    array_get_dec
    rw [hK1]
    refine ⟨_, rfl, ?_⟩
    refine ss_setI fun K2 hK2 => ?_
    array_get_dec
    rw [fdiv_int h0 h1]
    array_get_dec
    rw [hK2]
    refine ⟨[.lst [.int (p.a / m), .int p.b]], rfl, ?_⟩
    refine ss_ret fun K3 hK3 => ?_
    array_get_dec
    rw [hK3]
    refine ⟨_, ⟨p.a / m, p.b⟩, rfl, rfl, ⟨Int.ediv_nonneg a0 (Int.le_of_lt h0), b0, b1⟩, Int.emod_nonneg _ (by omega), Int.emod_lt_of_pos _ h0⟩
  · rw [if_neg (by simpa using ha)]
    refine ss_nil ?_
    rw [andSs_nx]
    have nb : ∀ x : Int, 0 ≤ x → x < 2147483647 → bound64 x = true := fun x h1 h2 => bound_of (by omega) (by omega)
    refine ss_setI fun K2 hK2 => ?_
    array_get_dec
    rw [mul_int (.inl (nb _ b0 b1))]
    array_get_dec
    rw [mod_int (by decide)]
    array_get_dec
    rw [hK2]
    refine ⟨[.lst [.int p.a, .int ((p.b * 69621 + 7) % 2147483647)]], rfl, ?_⟩
    have q0 : 0 ≤ (p.b * 69621 + 7) % 2147483647 := Int.emod_nonneg _ (by decide)
    have q1 : (p.b * 69621 + 7) % 2147483647 < 2147483647 := Int.emod_lt_of_pos _ (by decide)
    generalize (p.b * 69621 + 7) % 2147483647 = q at q0 q1
    refine ss_ret fun K3 hK3 => ?_
    array_get_dec
    rw [mul_int (.inl (nb _ q0 q1))]
    array_get_dec
    rw [mod_int (by decide)]
    array_get_dec
    rw [fdiv_int (by decide) (by decide)]
    array_get_dec
    rw [mod_int h0]
    array_get_dec
    rw [hK3]
    exact ⟨_, ⟨p.a, q⟩, rfl, rfl, ⟨a0, q0, q1⟩, Int.emod_nonneg _ (by omega), Int.emod_lt_of_pos _ h0⟩
theorem pool_ok {tb : Tb} {k : Nat} (ht : tb "_law_pool" = some ir_pool) (ns : List Int) (i : Nat) (hi : i < 1000) :
    ∃ p, run tb (k + 1) "_law_pool" [.t (.scr ns), .t (.int i)] [] = .ok (.ref 0) [poolC p] ∧ p.Ok := by
  suffices h : wp (run tb (k + 1) "_law_pool" [.t (.scr ns), .t (.int i)] []) (fun d S => ∃ p, d = .ref 0 ∧ S = [poolC p] ∧ p.Ok) noE by
    obtain ⟨d, S, e, p, rfl, rfl, q⟩ := h.get
    exact ⟨p, e, q⟩
  unfold ir_pool at ht
  refine wp_fn _ ht rfl rfl ?_
  refine ss_asg fun K hK => ?_
  array_get_dec
  rw [hK]
  refine ⟨_, rfl, ?_⟩
  obtain ⟨z, hz⟩ : ∃ z : Int, wp (evSs (run tb k) (.cons (.ife (.cmp .lt (.var 1) (.bi .len (.cons (.var 0) .nil))) (.cons (.asg (.nm 2) (.idx (.var 0) (.var 1))) .nil) .nil) .nil) [some (.t (.scr ns)), some (.t (.int i)), some (.t (.int 0)), none, none] []) (fun p S => p = (.nx, [some (.t (.scr ns)), some (.t (.int i)), some (.t (.int z)), none, none]) ∧ S = []) noE := by
    by_cases hl : i < ns.length
    · refine ⟨ns[i], ?_⟩
      refine ss_ife fun K hK => ?_
      array_get_dec
      rw [hK, if_pos (decide_eq_true (by omega))]
      refine ss_asg fun K1 hK1 => ?_
      array_get_dec
      rw [idx_scr (atI_nat (List.getElem?_eq_getElem hl))]
      array_get_dec
      rw [hK1]
      exact ⟨_, rfl, ss_nil (and_nil ⟨rfl, rfl⟩)⟩
    · refine ⟨0, ?_⟩
      refine ss_ife fun K hK => ?_
      array_get_dec
      rw [hK, if_neg (by simp; omega)]
      exact ss_nil (and_nil ⟨rfl, rfl⟩)
  refine ss_to _ _ hz ?_
  refine ss_asg fun K1 hK1 => ?_
  array_get_dec
  rw [hK1]
  refine ⟨_, rfl, ?_⟩
  have s0 : 0 ≤ (if -1 - z > z then -1 - z else z) := by split <;> omega
  generalize (if -1 - z > z then -1 - z else z) = y at s0
  refine ss_asg fun K2 hK2 => ?_
  array_get_dec
  rw [mod_int (by decide)]
  array_get_dec
  rw [mul_int (.inl (by decide))]
  array_get_dec
  rw [mul_int (.inl (bound_of (by omega) (by omega)))]
  array_get_dec
  rw [mul_int (.inl (by decide))]
  array_get_dec
  rw [mul_int (.inr (by decide))]
  array_get_dec
  rw [mod_int (by decide)]
  array_get_dec
  rw [hK2]
  refine ⟨_, rfl, ?_⟩
  refine ss_ret fun K3 hK3 => ?_
  have pw : ∀ S, binV .pow (.t (.int 10)) (.t (.int 18)) S = .ok (.t (.int 1000000000000000000)) S := fun S => by
    simp only [binV, intOp, asInt]
    rfl
  array_get_dec
  rw [pw]
  array_get_dec
  rw [mul_int (.inr (by cases decide (1000000000000000000 ≤ y) <;> decide))]
  array_get_dec
  rw [hK3]
  refine ⟨⟨_, _⟩, rfl, rfl, ?_, Int.emod_nonneg _ (by decide), Int.emod_lt_of_pos _ (by decide)⟩
  cases decide (1000000000000000000 ≤ y) <;> simp [b2, s0]
end Kp
namespace Kp
theorem draw_call {tb : Tb} {k n : Nat} {S : Sto} {p : Pool} {m : Int} {Q : D → Sto → Prop} {E : String → List (String × T) → Sto → Prop} (ht : tb "_law_draw" = some ir_draw) (hn : S[n]? = some (poolC p)) (hp : p.Ok) (h0 : 0 < m) (h1 : m < 1073741824)
    (h : ∀ v p', Drew p m v p' → Q (.t (.int v)) (S.set n (poolC p'))) : wp (isoCall (run tb (k + 1)) "_law_draw" [.ref n, .t (.int m)] .lend S) Q E := by
  obtain ⟨v, p', e, q⟩ := draw_ok (k := k) ht hp h0 h1
  refine iso_C [.int m] hn ?_
  refine wp.of e ⟨rfl, _, _, rfl, .int v, by simp, h v p' q⟩
end Kp
/-! The book that the laws draw. -/
namespace Kp
local macro_rules | `(tactic| array_get_dec) => `(tactic| try simp only [evE, evEs, evT, evO, evC, evI, wp_bind, wp_ok, wp_stuck, wp_exc, wp_ite, R.bind_ok, R.bind_exc, R.bind_stuck, opt_some, opt_none, setTg, setTgs, fin, List.map_cons, List.map_nil, List.length_cons, List.length_nil, List.replicate, List.cons_append, List.nil_append, List.set_cons_zero, List.set_cons_succ, List.getElem?_cons_zero, List.getElem?_cons_succ, allT_nil, allT_cons, allT_map, wipeE, List.length_map, mkLst, mkTup, mtK, eq_self, if_true, if_false, Bool.false_eq_true, Bool.not_true, Bool.not_false, Nat.zero_add, Nat.add_zero, Nat.sub_self, Nat.reduceSub, Nat.reduceAdd, reduceIte, itmV, isDct_non, isDct_bl, isDct_int, isDct_str, isDct_tup, isDct_lst, isDct_dct, isDct_scr, isDct_ref, isDct_tp, dgt_dct, asInt_non, asInt_bl, asInt_int, asInt_str, asInt_tup, asInt_lst, asInt_dct, asInt_scr, asInt_ref, asInt_tp, asStr_non, asStr_bl, asStr_int, asStr_str, asStr_tup, asStr_lst, asStr_dct, asStr_scr, asStr_ref, asStr_tp, asScr_non, asScr_bl, asScr_int, asScr_str, asScr_tup, asScr_lst, asScr_dct, asScr_scr, asScr_ref, asScr_tp, asBl_non, asBl_bl, asBl_int, asBl_str, asBl_tup, asBl_lst, asBl_dct, asBl_scr, asBl_ref, asBl_tp, isNon_non, asL_non, lstOf_non, tupOf_non, itemsOf_non, seqOf_non, kndT_non, isNon_bl, asL_bl, lstOf_bl, tupOf_bl, itemsOf_bl, seqOf_bl, kndT_bl, isNon_int, asL_int, lstOf_int, tupOf_int, itemsOf_int, seqOf_int, kndT_int, isNon_str, asL_str, lstOf_str, tupOf_str, itemsOf_str, seqOf_str, kndT_str, isNon_tup, asL_tup, lstOf_tup, tupOf_tup, itemsOf_tup, seqOf_tup, kndT_tup, isNon_lst, asL_lst, lstOf_lst, tupOf_lst, itemsOf_lst, seqOf_lst, kndT_lst, isNon_dct, asL_dct, lstOf_dct, tupOf_dct, itemsOf_dct, seqOf_dct, kndT_dct, isNon_scr, asL_scr, lstOf_scr, tupOf_scr, itemsOf_scr, seqOf_scr, kndT_scr, isNon_ref, isNon_tp, tupOf_ref, tupOf_tp, lstOf_tp, asL_tp, seqOf_tp, itemsOf_tp, itemsOf_ref, asRef_ref, asRef_t, asTree_t, kndOf_t, kndOf_tp, isTy_t, truth_bl, truth_int, truth_non, truth_lst, truth_tup, truth_str, add_int, add_str, add_lst, sub_int, lt_int, le_int, gt_int, ge_int, lt_str, le_str, eq_t, ne_t, isN_t, notN_t, idx_lst, idx_tup, idx_tp, slc_lst, slc_str, len_str, len_scr, len_lst, len_tup, bi_len, bi_max2, bi_min2, bi_int_int, bi_int_bl, lstOf_ref, asL_ref, kndOf_ref, idx_refU, len_refU, app_refU, set_refU, ixN_lit, atI_lit, List.set_nil, Nat.reduceLT, Nat.reduceLeDiff])
def abc : Cs := "abcdefghijklmnopqrstuvwxyz".toList
def dRead : Cs := "read".toList
def dWrite : Cs := "write".toList
def dAsk : Cs := "ask".toList
def ir_names : Fn := ⟨2, 11,
    (.cons (.asg (.nm 2) (.k (.str abc)))
    (.cons (.asg (.nm 3) (.newL .nil))
    (.cons (.for (.nm 4) (.rng1 (.var 1)) (.cons (.asg (.nm 5) (.bin .add (.k (.int 1)) (.bin .mul (.call "_law_draw" (.cons (.var 0) (.cons (.k (.int 2)) .nil)) .lend) (.call "_law_draw" (.cons (.var 0) (.cons (.k (.int 8)) .nil)) .lend))))
    (.cons (.asg (.nm 6) (.mth .join (.k (.str [])) (.cons (.lc (.idx (.var 2) (.call "_law_draw" (.cons (.var 0) (.cons (.k (.int 26)) .nil)) .lend)) [8] (.nm 8) (.rng1 (.var 5)) .no) .nil)))
    (.cons (.asg (.nm 7) (.bin .add (.lst (.cons (.var 6) .nil)) (.lc (.bin .add (.slc (.var 6) .no (.yes (.neg (.k (.int 1))))) (.var 9)) [9] (.nm 9) (.any (.var 2)) .no)))
    (.cons (.expr (.mth .append (.var 3) (.cons (.idx (.lc (.var 10) [10] (.nm 10) (.any (.var 7)) (.yes (.cmp .nin (.var 10) (.var 3)))) (.k (.int 0))) .nil)))
    .nil)))))
    (.cons (.ret (.var 3))
    .nil))))⟩
def ir_marks : Fn := ⟨2, 6,
    (.cons (.asg (.nm 2) (.k (.str abc)))
    (.cons (.asg (.nm 3) (.newL .nil))
    (.cons (.for (.nm 4) (.rng1 (.var 1)) (.cons (.take 5 2 "_law_draw" (.var 0))
    (.cons (.expr (.mth .append (.var 3) (.cons (.var 5) .nil)))
    .nil)))
    (.cons (.ret (.var 3))
    .nil))))⟩
def ir_steps : Fn := ⟨2, 7,
    (.cons (.asg (.nm 2) (.newL .nil))
    (.cons (.asg (.nm 3) (.lc (.idx (.var 1) (.call "_law_draw" (.cons (.var 0) (.cons (.bi .len (.cons (.var 1) .nil)) .nil)) .lend)) [6] (.nm 6) (.rng1 (.call "_law_draw" (.cons (.var 0) (.cons (.k (.int 5)) .nil)) .lend)) .no))
    (.cons (.for (.nm 4) (.any (.bin .add (.var 1) (.var 3))) (.cons (.asg (.nm 5) (.idx (.lst (.cons (.k (.str dRead)) (.cons (.k (.str dRead)) (.cons (.k (.str dRead)) (.cons (.k (.str dWrite)) (.cons (.k (.str dWrite)) (.cons (.k (.str dAsk)) .nil))))))) (.call "_law_draw" (.cons (.var 0) (.cons (.k (.int 6)) .nil)) .lend)))
    (.cons (.expr (.mth .insert (.var 2) (.cons (.call "_law_draw" (.cons (.var 0) (.cons (.bin .add (.bi .len (.cons (.var 2) .nil)) (.k (.int 1))) .nil)) .lend) (.cons (.tup (.cons (.var 5) (.cons (.var 4) .nil))) .nil))))
    .nil)))
    (.cons (.ret (.var 2))
    .nil))))⟩
def ir_book : Fn := ⟨3, 10,
    (.cons (.asg (.nm 3) (.call "_law_names" (.cons (.var 0) (.cons (.bin .add (.k (.int 1)) (.call "_law_draw" (.cons (.var 0) (.cons (.var 1) .nil)) .lend)) .nil)) .lend))
    (.cons (.asg (.nm 5) (.lc (.tup (.cons (.var 4) (.cons (.cmp .gt (.call "_law_draw" (.cons (.var 0) (.cons (.k (.int 3)) .nil)) .lend) (.k (.int 0))) .nil))) [4] (.nm 4) (.any (.var 3)) .no))
    (.cons (.asg (.nm 6) (.newL .nil))
    (.cons (.for (.nm 4) (.any (.call "_law_names" (.cons (.var 0) (.cons (.bin .add (.k (.int 1)) (.call "_law_draw" (.cons (.var 0) (.cons (.var 2) .nil)) .lend)) .nil)) .lend)) (.cons (.asg (.nm 7) (.call "_law_marks" (.cons (.var 0) (.cons (.bin .add (.k (.int 1)) (.call "_law_draw" (.cons (.var 0) (.cons (.k (.int 4)) .nil)) .lend)) .nil)) .lend))
    (.cons (.asg (.nm 8) (.lc (.tup (.cons (.var 9) (.cons (.idx (.var 3) (.call "_law_draw" (.cons (.var 0) (.cons (.bi .len (.cons (.var 3) .nil)) .nil)) .lend)) .nil))) [9] (.nm 9) (.any (.var 7)) .no))
    (.cons (.expr (.mth .append (.var 6) (.cons (.tup (.cons (.var 4) (.cons (.var 8) (.cons (.call "_law_steps" (.cons (.var 0) (.cons (.var 7) .nil)) .lend) .nil)))) .nil)))
    .nil))))
    (.cons (.ret (.tup (.cons (.var 5) (.cons (.var 6) .nil))))
    .nil)))))⟩
theorem abc_eq : abc = ['a', 'b', 'c', 'd', 'e', 'f', 'g', 'h', 'i', 'j', 'k', 'l', 'm', 'n', 'o', 'p', 'q', 'r', 's', 't', 'u', 'v', 'w', 'x', 'y', 'z'] := rfl
theorem abc_len : abc.length = 26 := rfl
theorem abc_nd : abc.Nodup := by
  rw [abc_eq]
  decide +kernel
structure NameOk (s : Cs) : Prop where
  lo : 1 ≤ s.length
  hi : s.length ≤ 8
  low : ∀ c ∈ s, c ∈ abc
theorem isMid_of {i : Int} (h0 : 0 ≤ i) (h1 : i < 1000000) : isMid i = true := by
  rw [isMid_iff]
  omega
theorem inT_str0 (s : Cs) (ss : List Cs) : inT (.str s) (ss.map .str) = ss.any fun y => y == s := by
  unfold inT
  rw [List.any_map]
  congr 1
theorem plain_str (s : Cs) : plain (.str s) = true := rfl
theorem plainN_strs (n : Nat) (ss : List Cs) : plainN (n + 1) (.lst (ss.map .str)) = true := by
  unfold plainN
  rw [List.all_map, List.all_eq_true]
  intro s _
  cases n <;> rfl
theorem plain_strs (ss : List Cs) : plain (.lst (ss.map .str)) = true := plainN_strs 7 ss
theorem nodup_mapI {α β : Type} {f : α → β} (hf : ∀ a b, f a = f b → a = b) {l : List α} (h : l.Nodup) : (l.map f).Nodup := List.Pairwise.map f (fun a b ne e => ne (hf a b e)) h
theorem fresh_one {acc : List Cs} (w : Cs) (hl : acc.length < 8) : ∃ c ∈ abc, (w ++ [c]) ∉ acc := by
  apply Classical.byContradiction
  intro h
  have h2 : ∀ c ∈ abc, (w ++ [c]) ∈ acc := fun c hc => Classical.byContradiction fun z => h ⟨c, hc, z⟩
  have nd : (abc.map fun c => w ++ [c]).Nodup := nodup_mapI (fun a b e => by simpa using e) abc_nd
  have := nd.length_le_of_subset (l₂ := acc) fun x hx => by
    obtain ⟨c, hc, rfl⟩ := List.mem_map.mp hx
    exact h2 c hc
  rw [List.length_map, abc_len] at this
  omega
section
variable {tb : Tb} {k : Nat}
theorem join_strs {s : Cs} {ss : List Cs} {S : Sto} (h1 : ss.length ≤ lim) (h2 : ss.flatten.length ≤ lim) (h3 : s.length ≤ 10) : mtV .join (.t (.str s)) [.t (.lst (ss.map .str))] S = .ok (.t (.str (joinC s ss))) S := by
  have e : ∀ ss : List Cs, strsT (ss.map .str) = some ss := by
    intro ss
    induction ss with
    | nil => rfl
    | cons x r ih => simp only [List.map_cons, strsT, ih]
  simp only [mtV, asStr, joinL, asL, e, h1, h2, h3, and_self, if_true]
theorem join_signs (cs : Cs) : joinC [] (cs.map fun c => [c]) = cs := by
  cases cs with
  | nil => rfl
  | cons c r =>
    show [c] ++ (r.map fun c => [c]).flatMap (fun p => [] ++ p) = c :: r
    have : ∀ r : Cs, (r.map fun c => [c]).flatMap (fun p => [] ++ p) = r := by
      intro r
      induction r with
      | nil => rfl
      | cons x r ih =>
        simp only [List.map_cons, List.flatMap_cons, List.nil_append, ih] at ih ⊢
        rfl
    rw [this r]
    rfl
theorem flat_signs (cs : Cs) : (cs.map fun c => [c]).flatten = cs := by
  induction cs with
  | nil => rfl
  | cons c r ih => simp [ih]
theorem atI_abc {v : Int} (h0 : 0 ≤ v) (h1 : v < 26) : ∃ c ∈ abc, atI abc v = some c := by
  obtain ⟨n, rfl⟩ : ∃ n : Nat, v = n := ⟨v.toNat, by omega⟩
  have hn : n < abc.length := by rw [abc_len]; omega
  exact ⟨abc[n], List.getElem_mem hn, atI_nat (List.getElem?_eq_getElem hn)⟩
theorem lc_strsF {f : D → Sto → R (Option D)} {S : Sto} {ss : List Cs} (p : Cs → Bool) (h : ∀ s ∈ ss, f (.t (.str s)) S = if p s = true then .ok (some (.t (.str s))) S else .ok none S) : lcL f ((ss.map T.str).map .t) S = .ok (((ss.filter p).map T.str).map .t) S := by
  induction ss with
  | nil => rfl
  | cons x r ih =>
    have e := h x List.mem_cons_self
    rw [List.map_cons, List.map_cons]
    unfold lcL
    rw [e]
    cases q : p x with
    | true =>
      rw [if_pos rfl]
      simp only
      rw [ih fun y hy => h y (List.mem_cons_of_mem _ hy)]
      simp [List.filter_cons, q]
    | false =>
      rw [if_neg Bool.false_ne_true]
      simp only
      rw [ih fun y hy => h y (List.mem_cons_of_mem _ hy)]
      simp [List.filter_cons, q]
theorem names_ok (hd : tb "_law_draw" = some ir_draw) (hn : tb "_law_names" = some ir_names) {p : Pool} (hp : p.Ok) {n : Nat} (h8 : n ≤ 8) :
    wp (run tb (k + 2) "_law_names" [.ref 0, .t (.int n)] [poolC p]) (fun d S => d = .ref 1 ∧ ∃ (p' : Pool) (ns : List Cs), S = [poolC p', .lst (ns.map .str)] ∧ p'.Ok ∧ ns.length = n ∧ ns.Nodup ∧ ∀ s ∈ ns, NameOk s) noE := by
  unfold ir_names at hn
  refine wp_fn _ hn rfl rfl ?_
  clear hn
  refine ss_asg fun K hK => ?_
  array_get_dec
  rw [hK]
  refine ⟨_, rfl, ?_⟩
  clear hK K
  refine ss_asg fun K hK => ?_
  array_get_dec
  rw [hK]
  refine ⟨_, rfl, ?_⟩
  clear hK K
  refine ss_for fun K hK => ?_
  array_get_dec
  rw [if_pos (isMid_of (by omega) (by omega))]
  rw [hK]
  clear hK K
  refine wp_for (fun i env S => ∃ (a4 a5 a6 a7 : Option D) (p : Pool) (acc : List Cs), env = [some (.ref 0), some (.t (.int n)), some (.t (.str abc)), some (.ref 1), a4, a5, a6, a7, none, none, none] ∧ S = [poolC p, .lst (acc.map .str)] ∧ p.Ok ∧ acc.length = i ∧ acc.Nodup ∧ ∀ s ∈ acc, NameOk s) ⟨none, none, none, none, p, [], rfl, rfl, hp, rfl, .nil, by simp⟩ ?_ ?_
  · rintro i x env S hx ⟨a4, a5, a6, a7, p, acc, rfl, rfl, hp, hl, nd, hok⟩
    obtain ⟨hi, rfl⟩ := rng_get hx
    refine ⟨_, rfl, ?_⟩
    refine ss_asg fun K hK => ?_
    array_get_dec
    refine draw_call hd rfl hp (by decide) (by decide) fun v p hv => ?_
    array_get_dec
    refine draw_call hd rfl hv.ok (by decide) (by decide) fun w p hw => ?_
    array_get_dec
    have v0 := hv.lo
    have v1 := hv.hi
    have w0 := hw.lo
    have w1 := hw.hi
    rw [mul_int (.inl (bound_of (by omega) (by omega)))]
    array_get_dec
    obtain ⟨m, hm, m1, m8⟩ : ∃ m : Nat, 1 + v * w = m ∧ 1 ≤ m ∧ m ≤ 8 := by
      have : v = 0 ∨ v = 1 := by omega
      rcases this with rfl | rfl
      · exact ⟨1, by omega, by omega, by omega⟩
      · exact ⟨(1 + w).toNat, by omega, by omega, by omega⟩
    rw [hm, hK]
    refine ⟨_, rfl, ?_⟩
    clear hK K
    replace hp := hw.ok
    refine ss_asg fun K hK => ?_
    array_get_dec
    rw [if_pos (isMid_of (by omega) (by omega))]
    refine wp_lcL (fun i ds S => ∃ (cs : Cs) (p : Pool), ds = (cs.map fun c => D.t (.str [c])) ∧ S = [poolC p, .lst (acc.map .str)] ∧ p.Ok ∧ cs.length = i ∧ ∀ c ∈ cs, c ∈ abc) [] ⟨[], p, rfl, rfl, hp, rfl, by simp⟩ ?_ ?_
    · rintro j y ds S hy ⟨cs, p, rfl, rfl, hp, hlc, hc⟩
      array_get_dec
      refine draw_call hd rfl hp (by decide) (by decide) fun v p hv => ?_
      obtain ⟨c, hca, hcc⟩ := atI_abc hv.lo hv.hi
      array_get_dec
      rw [idx_str (by rw [abc_len]; exact lim_pos (by omega)) hcc]
      array_get_dec
      refine ⟨cs ++ [c], p, by simp, rfl, hv.ok, by simp [hlc], fun z hz => ?_⟩
      rcases List.mem_append.mp hz with h | h
      · exact hc z h
      · rw [List.mem_singleton.mp h]; exact hca
    · rintro ds S ⟨cs, p, h1, rfl, hp, hlc, hc⟩
      rw [List.nil_append] at h1
      subst h1
      have hlc : cs.length = m := by
        rw [hlc]
        unfold rngD
        simp
      rw [if_pos (by rw [List.length_map]; exact lim_pos (by omega)), strs_eq, allT_map]
      array_get_dec
      have e : (cs.map fun c => T.str [c]) = (cs.map fun c => [c]).map T.str := by rw [List.map_map]; rfl
      rw [e, join_strs (by rw [List.length_map]; exact lim_pos (by omega)) (by rw [flat_signs]; exact lim_pos (by omega)) (by decide), join_signs]
      array_get_dec
      rw [hK]
      refine ⟨_, rfl, ?_⟩
      clear hK K e
      refine ss_asg fun K hK => ?_
      array_get_dec
      have hcl : cs.length ≤ lim := lim_pos (by omega)
      have hcut := cut_le cs none (some (-1))
      refine wp.of (lc_strM (fun c => .str (cut cs none (some (-1)) ++ [c])) fun c hc => ?_) ?_
      · array_get_dec
        rw [if_pos hcl]
        array_get_dec
        rw [if_pos (lim_pos (by omega))]
        array_get_dec
      · rw [if_pos (by simp only [List.length_map, abc_len]; exact lim_pos (by omega)), allT_map]
        array_get_dec
        rw [if_pos (by rw [abc_len]; exact lim_pos (by omega))]
        array_get_dec
        rw [hK]
        refine ⟨_, rfl, ?_⟩
        clear hK K
        refine ss_expr fun K hK => ?_
        array_get_dec
        have e2 : (D.t (T.str cs) :: List.map D.t (List.map (fun c => T.str (cut cs none (some (-1)) ++ [c])) abc)) = ((cs :: abc.map fun c => cut cs none (some (-1)) ++ [c]).map T.str).map D.t := by
          simp only [List.map_cons, List.map_map]
          rfl
        rw [e2]
        refine wp.of (lc_strsF (fun s => !acc.any fun y => y == s) fun s hs => ?_) ?_
        · rw [nin_ref (ys := acc.map .str) rfl (plain_str _) (plain_strs _), inT_str0]
          array_get_dec
        · obtain ⟨c0, hc0, hn0⟩ := fresh_one (cut cs none (some (-1))) (acc := acc) (by omega)
          have hne : ((cs :: abc.map fun c => cut cs none (some (-1)) ++ [c]).filter fun s => !acc.any fun y => y == s) ≠ [] := fun z => by
            have := List.filter_eq_nil_iff.mp z (cut cs none (some (-1)) ++ [c0]) (List.mem_cons_of_mem _ (List.mem_map_of_mem hc0))
            simp only [Bool.not_eq_true', Bool.not_eq_false, List.any_eq_true, beq_iff_eq, exists_eq_right, Bool.not_eq_true] at this
            exact hn0 (by simpa using this)
          generalize hf : ((cs :: abc.map fun c => cut cs none (some (-1)) ++ [c]).filter fun s => !acc.any fun y => y == s) = fl at hne ⊢
          obtain ⟨s0, fl, rfl⟩ : ∃ s0 r, fl = s0 :: r := by
            cases fl with
            | nil => exact absurd rfl hne
            | cons a r => exact ⟨a, r, rfl⟩
          have hs0 : s0 ∈ ((cs :: abc.map fun c => cut cs none (some (-1)) ++ [c]).filter fun s => !acc.any fun y => y == s) := by
            rw [hf]
            exact List.mem_cons_self
          have hlen : (s0 :: fl).length ≤ 27 := by
            rw [← hf]
            refine Nat.le_trans (List.length_filter_le _ _) ?_
            simp only [List.length_cons, List.length_map, abc_len]
            omega
          obtain ⟨hs1, hs2⟩ := List.mem_filter.mp hs0
          have hs3 : s0 ∉ acc := fun h => by
            simp at hs2
            exact hs2 s0 h rfl
          have hs4 : NameOk s0 := by
            rcases List.mem_cons.mp hs1 with rfl | h
            · exact ⟨by omega, by omega, hc⟩
            · obtain ⟨c, hca, rfl⟩ := List.mem_map.mp h
              rw [cut_init]
              refine ⟨by simp, by simp; omega, fun z hz => ?_⟩
              rcases List.mem_append.mp hz with h | h
              · exact hc z ((List.dropLast_sublist cs).subset h)
              · rw [List.mem_singleton.mp h]; exact hca
          rw [if_pos (by simp only [List.length_map]; exact lim_pos (by omega)), allT_map]
          array_get_dec
          rw [if_pos (Nat.lt_of_lt_of_le (by omega : acc.length < 9) (lim_pos (by omega))), hK]
          clear hK K
          refine ss_nil ?_
          refine ⟨_, _, _, _, p, acc ++ [s0], rfl, by simp, hp, by simp [hl], ?_, fun z hz => ?_⟩
          · rw [List.nodup_append]
            refine ⟨nd, by simp, fun a ha b hb e => ?_⟩
            rw [List.mem_singleton.mp hb] at e
            exact hs3 (e ▸ ha)
          · rcases List.mem_append.mp hz with h | h
            · exact hok z h
            · rw [List.mem_singleton.mp h]; exact hs4
  · rintro env S ⟨a4, a5, a6, a7, p, acc, rfl, rfl, hp, hl, nd, hok⟩
    rw [andSs_nx]
    refine ss_ret fun K hK => ?_
    array_get_dec
    rw [hK, retQ_ret]
    refine ⟨rfl, p, acc, rfl, hp, ?_, nd, hok⟩
    rw [hl]
    unfold rngD
    simp
theorem names_call (hd : tb "_law_draw" = some ir_draw) (hn : tb "_law_names" = some ir_names) {p : Pool} (hp : p.Ok) {n j : Nat} {m : Int} (hm : m = (n : Int)) (h8 : n ≤ 8) {S : Sto} {Q : D → Sto → Prop} {E : String → List (String × T) → Sto → Prop} (hj : S[j]? = some (poolC p))
    (h : ∀ (p' : Pool) (ns : List Cs), p'.Ok → ns.length = n → ns.Nodup → (∀ s ∈ ns, NameOk s) → Q (.t (.lst (ns.map .str))) (S.set j (poolC p'))) : wp (isoCall (run tb (k + 2)) "_law_names" [.ref j, .t (.int m)] .lend S) Q E := by
  subst hm
  refine iso_C [.int n] hj (wp.mono (names_ok (k := k) hd hn hp h8) (fun d S1 q => ?_) fun _ _ _ q => q.elim)
  obtain ⟨rfl, p', ns, rfl, q1, q2, q3, q4⟩ := q
  exact ⟨rfl, _, _, rfl, .lst (ns.map .str), by first | exact toT_ref (by decide) rfl | rfl | simp, h p' ns q1 q2 q3 q4⟩
def sgns (cs : Cs) : List T := cs.map fun c => T.str [c]
theorem sgns_len (cs : Cs) : (sgns cs).length = cs.length := by unfold sgns; simp
theorem marks_ok (hd : tb "_law_draw" = some ir_draw) (hn : tb "_law_marks" = some ir_marks) {p : Pool} (hp : p.Ok) {n : Nat} (h8 : n ≤ 8) :
    wp (run tb (k + 2) "_law_marks" [.ref 0, .t (.int n)] [poolC p]) (fun d S => d = .ref 1 ∧ ∃ (p' : Pool) (cs : Cs), S = [poolC p', .lst (sgns cs)] ∧ p'.Ok ∧ cs.length = n ∧ cs.Nodup ∧ ∀ c ∈ cs, c ∈ abc) noE := by
  unfold ir_marks at hn
  refine wp_fn _ hn rfl rfl ?_
  clear hn
  refine ss_asg fun K hK => ?_
  array_get_dec
  rw [hK]
  refine ⟨_, rfl, ?_⟩
  clear hK K
  refine ss_asg fun K hK => ?_
  array_get_dec
  rw [hK]
  refine ⟨_, rfl, ?_⟩
  clear hK K
  refine ss_for fun K hK => ?_
  array_get_dec
  rw [if_pos (isMid_of (by omega) (by omega)), hK]
  clear hK K
  refine wp_for (fun i env S => ∃ (a4 a5 : Option D) (p : Pool) (cs w : Cs), env = [some (.ref 0), some (.t (.int n)), some (.t (.str w)), some (.ref 1), a4, a5] ∧ S = [poolC p, .lst (sgns cs)] ∧ p.Ok ∧ cs.length = i ∧ cs.Nodup ∧ (∀ c ∈ cs, c ∈ abc) ∧ w.length + cs.length = 26 ∧ w.Nodup ∧ (∀ c ∈ w, c ∈ abc) ∧ ∀ c ∈ cs, c ∉ w)
    ⟨none, none, p, [], abc, rfl, rfl, hp, rfl, .nil, by simp, rfl, abc_nd, fun _ h => h, by simp⟩ ?_ ?_
  · rintro i x env S hx ⟨a4, a5, p, cs, w, rfl, rfl, hp, hl, nd, hok, hw, wnd, wok, dis⟩
    obtain ⟨hi, rfl⟩ := rng_get hx
    refine ⟨_, rfl, ?_⟩
    refine ss_take (w := w) rfl (lim_pos (by omega)) fun K hK => ?_
    array_get_dec
    refine draw_call hd rfl hp (by omega) (by omega) fun v p hv => ?_
    obtain ⟨m, rfl⟩ : ∃ m : Nat, v = m := ⟨v.toNat, by have := hv.lo; omega⟩
    have hm : m < w.length := by have := hv.hi; omega
    rw [hK]
    refine ⟨m, w[m], rfl, atI_nat (List.getElem?_eq_getElem hm), ?_⟩
    clear hK K
    have cw : w[m] ∈ w := List.getElem_mem hm
    generalize w[m] = c at cw
    refine ss_expr fun K hK => ?_
    array_get_dec
    rw [if_pos (Nat.lt_of_lt_of_le (by rw [sgns_len]; omega : (sgns cs).length < 9) (lim_pos (by omega))), hK]
    clear hK K
    refine ss_nil ?_
    have el : (w.filter fun z => z != c) = w.erase c := (wnd.erase_eq_filter c).symm
    refine ⟨_, _, p, cs ++ [c], _, rfl, ?_, hv.ok, by simp [hl], ?_, fun z hz => ?_, ?_, ?_, fun z hz => ?_, fun z hz h => ?_⟩
    · unfold sgns
      simp
    · rw [List.nodup_append]
      refine ⟨nd, by simp, fun a ha b hb e => ?_⟩
      rw [List.mem_singleton.mp hb] at e
      exact dis a ha (e ▸ cw)
    · rcases List.mem_append.mp hz with h | h
      · exact hok z h
      · rw [List.mem_singleton.mp h]; exact wok c cw
    · rw [el, List.length_erase_of_mem cw, List.length_append, List.length_singleton]
      have := List.length_pos_of_mem cw
      omega
    · rw [el]
      exact wnd.erase c
    · exact wok z (List.mem_filter.mp hz).1
    · rw [List.mem_filter] at h
      rcases List.mem_append.mp hz with h2 | h2
      · exact dis z h2 h.1
      · rw [List.mem_singleton.mp h2] at h
        simp at h
  · rintro env S ⟨a4, a5, p, cs, w, rfl, rfl, hp, hl, nd, hok, _⟩
    rw [andSs_nx]
    refine ss_ret fun K hK => ?_
    array_get_dec
    rw [hK, retQ_ret]
    refine ⟨rfl, p, cs, rfl, hp, ?_, nd, hok⟩
    rw [hl]
    unfold rngD
    simp
theorem marks_call (hd : tb "_law_draw" = some ir_draw) (hn : tb "_law_marks" = some ir_marks) {p : Pool} (hp : p.Ok) {n j : Nat} {m : Int} (hm : m = (n : Int)) (h8 : n ≤ 8) {S : Sto} {Q : D → Sto → Prop} {E : String → List (String × T) → Sto → Prop} (hj : S[j]? = some (poolC p))
    (h : ∀ (p' : Pool) (cs : Cs), p'.Ok → cs.length = n → cs.Nodup → (∀ c ∈ cs, c ∈ abc) → Q (.t (.lst (sgns cs))) (S.set j (poolC p'))) : wp (isoCall (run tb (k + 2)) "_law_marks" [.ref j, .t (.int m)] .lend S) Q E := by
  subst hm
  refine iso_C [.int n] hj (wp.mono (marks_ok (k := k) hd hn hp h8) (fun d S1 q => ?_) fun _ _ _ q => q.elim)
  obtain ⟨rfl, p', cs, rfl, q1, q2, q3, q4⟩ := q
  exact ⟨rfl, _, _, rfl, .lst (sgns cs), by first | exact toT_ref (by decide) rfl | rfl | simp, h p' cs q1 q2 q3 q4⟩
def stT (s : Cs × Char) : T := .tup [.str s.1, .str [s.2]]
/-- the words of the deeds -/
def isDeed (w : Cs) : Prop := w = dRead ∨ w = dWrite ∨ w = dAsk
theorem atI_sgns {cs : Cs} {n : Nat} (h : n < cs.length) : ∃ c ∈ cs, atI ((sgns cs).map D.t) (n : Int) = some (.t (.str [c])) := by
  refine ⟨cs[n], List.getElem_mem h, atI_nat ?_⟩
  unfold sgns
  simp [h]
theorem toNat_of {v : Int} (h : 0 ≤ v) : ∃ n : Nat, v = n := ⟨v.toNat, by omega⟩
theorem steps_ok (hd : tb "_law_draw" = some ir_draw) (hn : tb "_law_steps" = some ir_steps) {p : Pool} (hp : p.Ok) {cs : Cs} (c1 : 1 ≤ cs.length) (c4 : cs.length ≤ 4) :
    wp (run tb (k + 2) "_law_steps" [.ref 0, .t (.lst (sgns cs))] [poolC p]) (fun d S => d = .ref 1 ∧ ∃ (p' : Pool) (ss : List (Cs × Char)), S = [poolC p', .lst (ss.map stT)] ∧ p'.Ok ∧ (∀ s ∈ ss, isDeed s.1 ∧ s.2 ∈ cs) ∧ (∀ c ∈ cs, c ∈ ss.map (·.2)) ∧ ss.length ≤ 8) noE := by
  unfold ir_steps at hn
  refine wp_fn _ hn rfl rfl ?_
  clear hn
  refine ss_asg fun K hK => ?_
  array_get_dec
  rw [hK]
  refine ⟨_, rfl, ?_⟩
  clear hK K
  refine ss_asg fun K hK => ?_
  array_get_dec
  refine draw_call hd rfl hp (by decide) (by decide) fun v p hv => ?_
  array_get_dec
  have v0 := hv.lo
  have v1 := hv.hi
  rw [if_pos (isMid_of (by omega) (by omega))]
  refine wp_lcL (fun i ds S => ∃ (ms : Cs) (p : Pool), ds = (sgns ms).map D.t ∧ S = [poolC p, .lst []] ∧ p.Ok ∧ ms.length = i ∧ ∀ c ∈ ms, c ∈ cs) [] ⟨[], p, rfl, rfl, hv.ok, rfl, by simp⟩ ?_ ?_
  · rintro j y ds S hy ⟨ms, p, rfl, rfl, hp, hlc, hc⟩
    array_get_dec
    rw [sgns_len]
    refine draw_call hd rfl hp (by omega) (by omega) fun v p hv => ?_
    obtain ⟨n, rfl⟩ := toNat_of hv.lo
    have hn : n < cs.length := by have := hv.hi; omega
    obtain ⟨c, hcc, hat⟩ := atI_sgns hn
    array_get_dec
    rw [hat]
    array_get_dec
    refine ⟨ms ++ [c], p, by unfold sgns; simp, rfl, hv.ok, by simp [hlc], fun z hz => ?_⟩
    rcases List.mem_append.mp hz with h | h
    · exact hc z h
    · rw [List.mem_singleton.mp h]; exact hcc
  · rintro ds S ⟨ms, p, h1, rfl, hp, hlc, hc⟩
    rw [List.nil_append] at h1
    subst h1
    have hlc : ms.length ≤ 4 := by
      rw [hlc]
      unfold rngD
      simp
      omega
    rw [if_pos (by rw [List.length_map, sgns_len]; exact lim_pos (by omega)), allT_map]
    array_get_dec
    rw [hK]
    refine ⟨_, rfl, ?_⟩
    clear hK K hv
    refine ss_for fun K hK => ?_
    array_get_dec
    rw [if_pos (by rw [sgns_len, sgns_len]; exact lim_pos (by omega))]
    array_get_dec
    rw [hK]
    clear hK K
    have ea : sgns cs ++ sgns ms = sgns (cs ++ ms) := by unfold sgns; simp
    rw [ea]
    refine wp_for (fun i env S => ∃ (a4 a5 : Option D) (p : Pool) (ss : List (Cs × Char)), env = [some (.ref 0), some (.t (.lst (sgns cs))), some (.ref 1), some (.t (.lst (sgns ms))), a4, a5, none] ∧ S = [poolC p, .lst (ss.map stT)] ∧ p.Ok ∧ (∀ s ∈ ss, isDeed s.1 ∧ s.2 ∈ cs) ∧ (∀ (j : Nat) c, j < i → (cs ++ ms)[j]? = some c → c ∈ ss.map (·.2)) ∧ ss.length = i)
      ⟨none, none, p, [], rfl, rfl, hp, by simp, fun j c h => by omega, rfl⟩ ?_ ?_
    · rintro i x env S hx ⟨a4, a5, p, ss, rfl, rfl, hp, hs, hu, hl⟩
      obtain ⟨c, hcx, rfl⟩ : ∃ c, (cs ++ ms)[i]? = some c ∧ x = .t (.str [c]) := by
        unfold sgns at hx
        rw [List.getElem?_map, List.getElem?_map] at hx
        cases e : (cs ++ ms)[i]? with
        | none => rw [e] at hx; simp at hx
        | some c => rw [e] at hx; simp at hx; exact ⟨c, rfl, hx.symm⟩
      have hil : i < 8 := by
        have := (List.getElem?_eq_some_iff.mp hcx).1
        rw [List.length_append] at this
        omega
      have hcm : c ∈ cs := by
        rcases List.mem_append.mp (List.mem_of_getElem? hcx) with h | h
        · exact h
        · exact hc c h
      refine ⟨_, rfl, ?_⟩
      refine ss_asg fun K hK => ?_
      array_get_dec
      refine draw_call hd rfl hp (by decide) (by decide) fun v p hv => ?_
      obtain ⟨n, rfl⟩ := toNat_of hv.lo
      have hn : n < 6 := by have := hv.hi; omega
      obtain ⟨w, hw, hat⟩ : ∃ w, isDeed w ∧ atI [D.t (.str dRead), .t (.str dRead), .t (.str dRead), .t (.str dWrite), .t (.str dWrite), .t (.str dAsk)] (n : Int) = some (.t (.str w)) := by
        have : n = 0 ∨ n = 1 ∨ n = 2 ∨ n = 3 ∨ n = 4 ∨ n = 5 := by omega
        rcases this with rfl | rfl | rfl | rfl | rfl | rfl
        · exact ⟨dRead, .inl rfl, rfl⟩
        · exact ⟨dRead, .inl rfl, rfl⟩
        · exact ⟨dRead, .inl rfl, rfl⟩
        · exact ⟨dWrite, .inr (.inl rfl), rfl⟩
        · exact ⟨dWrite, .inr (.inl rfl), rfl⟩
        · exact ⟨dAsk, .inr (.inr rfl), rfl⟩
      array_get_dec
      rw [hat]
      array_get_dec
      rw [hK]
      refine ⟨_, rfl, ?_⟩
      clear hK K hat
      refine ss_expr fun K hK => ?_
      array_get_dec
      refine draw_call hd rfl hv.ok (by omega) (by omega) fun v p hv => ?_
      obtain ⟨m, rfl⟩ := toNat_of hv.lo
      have hm : m ≤ 8 := by have := hv.hi; omega
      have ll : (ss.map stT).length < lim := Nat.lt_of_lt_of_le (by rw [List.length_map]; omega : (ss.map stT).length < 9) (lim_pos (by omega))
      have key := ins_ref (S := [poolC p, .lst (ss.map stT)]) (n := 1) (x := .tup [.str w, .str [c]]) (k := m) rfl ll (by omega)
      rw [show [poolC _, Cell.lst (List.map stT ss)].set 0 (poolC p) = [poolC p, .lst (ss.map stT)] from rfl, key]
      array_get_dec
      rw [hK]
      clear hK K key
      refine ss_nil ?_
      refine ⟨_, _, p, ss.take m ++ [(w, c)] ++ ss.drop m, rfl, ?_, hv.ok, fun s hs' => ?_, fun j z hj hz => ?_, ?_⟩
      · simp [stT]
      · simp only [List.mem_append, List.mem_singleton] at hs'
        rcases hs' with (h | rfl) | h
        · exact hs s (List.mem_of_mem_take h)
        · exact ⟨hw, hcm⟩
        · exact hs s (List.mem_of_mem_drop h)
      · by_cases e : j < i
        · have h0 := hu j z e hz
          rw [← List.take_append_drop m ss] at h0
          simp only [List.map_append, List.mem_append] at h0 ⊢
          rcases h0 with h | h
          · exact .inl (.inl h)
          · exact .inr h
        · have e2 : j = i := by omega
          subst e2
          rw [hcx] at hz
          cases hz
          simp
      · simp only [List.length_append, List.length_take, List.length_drop, List.length_singleton]
        omega
    · rintro env S ⟨a4, a5, p, ss, rfl, rfl, hp, hs, hu, hl⟩
      rw [andSs_nx]
      refine ss_ret fun K hK => ?_
      array_get_dec
      rw [hK, retQ_ret]
      rw [List.length_map, sgns_len, List.length_append] at hl
      refine ⟨rfl, p, ss, rfl, hp, hs, fun c hcc => ?_, by omega⟩
      obtain ⟨j, hj⟩ := List.getElem?_of_mem hcc
      refine hu j c ?_ ?_
      · rw [List.length_map, sgns_len, List.length_append]
        have := (List.getElem?_eq_some_iff.mp hj).1
        omega
      · rw [List.getElem?_append_left (List.getElem?_eq_some_iff.mp hj).1]
        exact hj
theorem steps_call (hd : tb "_law_draw" = some ir_draw) (hn : tb "_law_steps" = some ir_steps) {p : Pool} (hp : p.Ok) {j : Nat} {cs : Cs} (c1 : 1 ≤ cs.length) (c4 : cs.length ≤ 4) {S : Sto} {Q : D → Sto → Prop} {E : String → List (String × T) → Sto → Prop} (hj : S[j]? = some (poolC p))
    (h : ∀ (p' : Pool) (ss : List (Cs × Char)), p'.Ok → (∀ s ∈ ss, isDeed s.1 ∧ s.2 ∈ cs) → (∀ c ∈ cs, c ∈ ss.map (·.2)) → ss.length ≤ 8 → Q (.t (.lst (ss.map stT))) (S.set j (poolC p'))) : wp (isoCall (run tb (k + 2)) "_law_steps" [.ref j, .t (.lst (sgns cs))] .lend S) Q E := by
  refine iso_C [.lst (sgns cs)] hj (wp.mono (steps_ok (k := k) hd hn hp c1 c4) (fun d S1 q => ?_) fun _ _ _ q => q.elim)
  obtain ⟨rfl, p', ss, rfl, q1, q2, q3, q4⟩ := q
  exact ⟨rfl, _, _, rfl, .lst (ss.map stT), by first | exact toT_ref (by decide) rfl | rfl | simp, h p' ss q1 q2 q3 q4⟩
def leT (l : Char × Cs) : T := .tup [.str [l.1], .str l.2]
structure Deal where
  name : Cs
  lets : List (Char × Cs)
  steps : List (Cs × Char)
def deT (d : Deal) : T := .tup [.str d.name, .lst (d.lets.map leT), .lst (d.steps.map stT)]
def kiT (x : Cs × Bool) : T := .tup [.str x.1, .bl x.2]
structure Book where
  kinds : List (Cs × Bool)
  deals : List Deal
def boT (b : Book) : T := .tup [.lst (b.kinds.map kiT), .lst (b.deals.map deT)]
structure Deal.Ok (ks : List Cs) (d : Deal) : Prop where
  name : NameOk d.name
  lnd : (d.lets.map (·.1)).Nodup
  llo : 1 ≤ d.lets.length
  lhi : d.lets.length ≤ 4
  low : ∀ l ∈ d.lets, l.1 ∈ abc
  kind : ∀ l ∈ d.lets, l.2 ∈ ks
  deed : ∀ s ∈ d.steps, isDeed s.1
  slet : ∀ s ∈ d.steps, s.2 ∈ d.lets.map (·.1)
  used : ∀ l ∈ d.lets, l.1 ∈ d.steps.map (·.2)
  slen : d.steps.length ≤ 8
structure Book.Ok (b : Book) : Prop where
  knd : (b.kinds.map (·.1)).Nodup
  kok : ∀ x ∈ b.kinds, NameOk x.1
  klo : 1 ≤ b.kinds.length
  khi : b.kinds.length ≤ 8
  dnd : (b.deals.map (·.name)).Nodup
  deal : ∀ d ∈ b.deals, d.Ok (b.kinds.map (·.1))
  dlo : 1 ≤ b.deals.length
  dhi : b.deals.length ≤ 8
theorem nodup_map_inj {α β : Type} {f : α → β} : ∀ {l : List α}, (l.map f).Nodup → ∀ {a b : α}, a ∈ l → b ∈ l → f a = f b → a = b
  | [], _, _, _, h, _, _ => absurd h List.not_mem_nil
  | x :: r, nd, a, b, ha, hb, e => by
    rw [List.map_cons, List.nodup_cons] at nd
    cases ha with
    | head =>
      cases hb with
      | head => rfl
      | tail _ h => exact absurd (List.mem_map.mpr ⟨b, h, e.symm⟩) nd.1
    | tail _ g =>
      cases hb with
      | head => exact absurd (List.mem_map.mpr ⟨a, g, e⟩) nd.1
      | tail _ h => exact nodup_map_inj nd.2 g h e
theorem strs_get {ss : List Cs} {n : Nat} (h : n < ss.length) : ∃ s ∈ ss, atI ((ss.map T.str).map D.t) (n : Int) = some (.t (.str s)) := by
  refine ⟨ss[n], List.getElem_mem h, atI_nat ?_⟩
  simp [h]
theorem map_at {α : Type} {f : α → T} {xs : List α} {i : Nat} {x : D} (h : ((xs.map f).map D.t)[i]? = some x) : ∃ y, xs[i]? = some y ∧ x = .t (f y) := by
  rw [List.getElem?_map, List.getElem?_map] at h
  cases e : xs[i]? with
  | none => rw [e] at h; simp at h
  | some c => rw [e] at h; simp at h; exact ⟨c, rfl, h.symm⟩
theorem take_next {α : Type} {xs : List α} {i : Nat} {x : α} (h : xs[i]? = some x) : xs.take (i + 1) = xs.take i ++ [x] := by
  have hi := (List.getElem?_eq_some_iff.mp h).1
  rw [List.take_succ, h]
  rfl
theorem book_ok (hd : tb "_law_draw" = some ir_draw) (hn : tb "_law_names" = some ir_names) (hm : tb "_law_marks" = some ir_marks) (hs : tb "_law_steps" = some ir_steps) (hb : tb "_law_book" = some ir_book) {p : Pool} (hp : p.Ok) {x y : Nat} (x1 : 1 ≤ x) (x8 : x ≤ 7) (y1 : 1 ≤ y) (y8 : y ≤ 8) :
    wp (run tb (k + 3) "_law_book" [.ref 0, .t (.int x), .t (.int y)] [poolC p]) (fun d S => S.length = 2 ∧ ∃ (p' : Pool) (b : Book), S = [poolC p', .lst (b.deals.map deT)] ∧ d = .tp [.t (.lst (b.kinds.map kiT)), .ref 1] ∧ p'.Ok ∧ b.Ok ∧ b.kinds.length ≤ x ∧ b.deals.length ≤ y) noE := by
  unfold ir_book at hb
  refine wp_fn _ hb rfl rfl ?_
  clear hb
  refine ss_asg fun K hK => ?_
  array_get_dec
  refine draw_call hd rfl hp (by omega) (by omega) fun v p hv => ?_
  obtain ⟨n, rfl⟩ := toNat_of hv.lo
  have n1 := hv.hi
  array_get_dec
  refine names_call (n := n + 1) hd hn hv.ok (by omega) (by omega) rfl fun p ns hp hl nd hok => ?_
  array_get_dec
  rw [hK]
  refine ⟨_, rfl, ?_⟩
  clear hK K hv
  refine ss_asg fun K hK => ?_
  array_get_dec
  refine wp_lcL (fun i ds S => ∃ (ks : List (Cs × Bool)) (p : Pool), ds = (ks.map kiT).map D.t ∧ S = [poolC p] ∧ p.Ok ∧ ks.map (·.1) = ns.take i) [] ⟨[], p, rfl, rfl, hp, rfl⟩ ?_ ?_
  · rintro i z ds S hz ⟨ks, p, rfl, rfl, hp, hks⟩
    obtain ⟨s, hs1, rfl⟩ := map_at hz
    array_get_dec
    refine draw_call hd rfl hp (by decide) (by decide) fun v p hv => ?_
    array_get_dec
    refine ⟨ks ++ [(s, decide (0 < v))], p, by simp [kiT], rfl, hv.ok, ?_⟩
    rw [take_next hs1, List.map_append, hks]
    rfl
  · rintro ds S ⟨ks, p, h1, rfl, hp, hks⟩
    rw [List.nil_append] at h1
    subst h1
    rw [List.length_map, List.length_map, List.take_length] at hks
    have hkl : ks.length = n + 1 := by rw [← hl, ← hks, List.length_map]
    rw [if_pos (by rw [List.length_map, List.length_map]; exact lim_pos (by omega)), allT_map]
    array_get_dec
    rw [hK]
    refine ⟨_, rfl, ?_⟩
    clear hK K
    refine ss_asg fun K hK => ?_
    array_get_dec
    rw [hK]
    refine ⟨_, rfl, ?_⟩
    clear hK K
    refine ss_for fun K hK => ?_
    array_get_dec
    refine draw_call hd rfl hp (by omega) (by omega) fun v p hv => ?_
    obtain ⟨m, rfl⟩ := toNat_of hv.lo
    have m1 := hv.hi
    array_get_dec
    refine names_call (n := m + 1) hd hn hv.ok (by omega) (by omega) rfl fun p ms hp hml mnd mok => ?_
    array_get_dec
    rw [hK]
    clear hK K hv
    refine wp_for (fun i env S => ∃ (a4 a7 a8 : Option D) (p : Pool) (ds : List Deal), env = [some (.ref 0), some (.t (.int x)), some (.t (.int y)), some (.t (.lst (ns.map .str))), a4, some (.t (.lst (ks.map kiT))), some (.ref 1), a7, a8, none] ∧ S = [poolC p, .lst (ds.map deT)] ∧ p.Ok ∧ ds.map (·.name) = ms.take i ∧ ∀ d ∈ ds, d.Ok ns)
      ⟨none, none, none, p, [], rfl, rfl, hp, rfl, by simp⟩ ?_ ?_
    · rintro i z env S hz ⟨a4, a7, a8, p, ds, rfl, rfl, hp, hds, hdo⟩
      obtain ⟨s, hs1, rfl⟩ := map_at hz
      have hi : i < 8 := by
        have := (List.getElem?_eq_some_iff.mp hs1).1
        omega
      refine ⟨_, rfl, ?_⟩
      refine ss_asg fun K hK => ?_
      array_get_dec
      refine draw_call hd rfl hp (by decide) (by decide) fun v p hv => ?_
      obtain ⟨q, rfl⟩ := toNat_of hv.lo
      have q1 := hv.hi
      array_get_dec
      refine marks_call (n := q + 1) hd hm hv.ok (by omega) (by omega) rfl fun p cs hp hcl cnd cok => ?_
      array_get_dec
      rw [hK]
      refine ⟨_, rfl, ?_⟩
      clear hK K hv
      refine ss_asg fun K hK => ?_
      array_get_dec
      refine wp_lcL (fun i es S => ∃ (ls : List (Char × Cs)) (p : Pool), es = (ls.map leT).map D.t ∧ S = [poolC p, .lst (ds.map deT)] ∧ p.Ok ∧ ls.map (·.1) = cs.take i ∧ ∀ l ∈ ls, l.2 ∈ ns) [] ⟨[], p, rfl, rfl, hp, rfl, by simp⟩ ?_ ?_
      · rintro j z es S hz ⟨ls, p, rfl, rfl, hp, hls, hk⟩
        obtain ⟨c, hc1, rfl⟩ : ∃ c, cs[j]? = some c ∧ z = .t (.str [c]) := map_at (f := fun c => T.str [c]) hz
        array_get_dec
        refine draw_call hd rfl hp (by omega) (by omega) fun v p hv => ?_
        obtain ⟨a, rfl⟩ := toNat_of hv.lo
        have ha : a < ns.length := by have := hv.hi; omega
        obtain ⟨t, ht, hat⟩ := strs_get ha
        array_get_dec
        rw [hat]
        array_get_dec
        refine ⟨ls ++ [(c, t)], p, by simp [leT], rfl, hv.ok, ?_, fun l hl2 => ?_⟩
        · rw [take_next hc1, List.map_append, hls]
          rfl
        · rcases List.mem_append.mp hl2 with h | h
          · exact hk l h
          · rw [List.mem_singleton.mp h]; exact ht
      · rintro es S ⟨ls, p, h1, rfl, hp, hls, hk⟩
        rw [List.nil_append] at h1
        subst h1
        rw [List.length_map, sgns_len, List.take_length] at hls
        have hll : ls.length = q + 1 := by rw [← hcl, ← hls, List.length_map]
        rw [if_pos (by rw [List.length_map, List.length_map]; exact lim_pos (by omega)), allT_map]
        array_get_dec
        rw [hK]
        refine ⟨_, rfl, ?_⟩
        clear hK K
        refine ss_expr fun K hK => ?_
        array_get_dec
        refine steps_call hd hs hp (by omega) (by omega) rfl fun p sts hp st1 st2 st3 => ?_
        array_get_dec
        have dl : ds.length = i := by
          have := congrArg List.length hds
          rw [List.length_map, List.length_take] at this
          have h2 := (List.getElem?_eq_some_iff.mp hs1).1
          omega
        rw [if_pos (Nat.lt_of_lt_of_le (by omega : ds.length < 9) (lim_pos (by omega))), hK]
        clear hK K
        refine ss_nil ?_
        refine ⟨_, _, _, p, ds ++ [⟨s, ls, sts⟩], rfl, by simp [deT], hp, ?_, fun d hd2 => ?_⟩
        · rw [take_next hs1, List.map_append, hds]
          rfl
        · rcases List.mem_append.mp hd2 with h | h
          · exact hdo d h
          · rw [List.mem_singleton.mp h]
            exact ⟨mok s (List.mem_of_getElem? hs1), by rw [hls]; exact cnd, by show 1 ≤ ls.length; omega, by show ls.length ≤ 4; omega, fun l hl2 => cok _ (by rw [← hls]; exact List.mem_map_of_mem hl2), hk, fun s hs2 => (st1 s hs2).1, fun s hs2 => by rw [hls]; exact (st1 s hs2).2, fun l hl2 => st2 _ (by rw [← hls]; exact List.mem_map_of_mem hl2), st3⟩
    · rintro env S ⟨a4, a7, a8, p, ds, rfl, rfl, hp, hds, hdo⟩
      rw [andSs_nx]
      refine ss_ret fun K hK => ?_
      array_get_dec
      rw [hK, retQ_ret]
      rw [List.length_map, List.length_map, List.take_length] at hds
      have dl : ds.length = m + 1 := by rw [← hml, ← hds, List.length_map]
      refine ⟨rfl, p, ⟨ks, ds⟩, rfl, rfl, hp, ⟨by rw [hks]; exact nd, fun z hz => hok _ (by rw [← hks]; exact List.mem_map_of_mem hz), by show 1 ≤ ks.length; omega, by show ks.length ≤ 8; omega, by rw [hds]; exact mnd, by rw [hks]; exact hdo, by show 1 ≤ ds.length; omega, by show ds.length ≤ 8; omega⟩, by show ks.length ≤ x; omega, by show ds.length ≤ y; omega⟩
theorem book_call (hd : tb "_law_draw" = some ir_draw) (hn : tb "_law_names" = some ir_names) (hm : tb "_law_marks" = some ir_marks) (hs : tb "_law_steps" = some ir_steps) (hb : tb "_law_book" = some ir_book) {p : Pool} (hp : p.Ok) {x y : Nat} {xi yi : Int} (ex : xi = (x : Int)) (ey : yi = (y : Int)) (x1 : 1 ≤ x) (x8 : x ≤ 7) (y1 : 1 ≤ y) (y8 : y ≤ 8)
    {j : Nat} {S : Sto} {Q : D → Sto → Prop} {E : String → List (String × T) → Sto → Prop} (hj : S[j]? = some (poolC p)) (h : ∀ (p' : Pool) (b : Book), p'.Ok → b.Ok → b.kinds.length ≤ x → b.deals.length ≤ y → Q (.t (boT b)) (S.set j (poolC p'))) :
    wp (isoCall (run tb (k + 3)) "_law_book" [.ref j, .t (.int xi), .t (.int yi)] .lend S) Q E := by
  subst ex ey
  refine iso_C [.int x, .int y] hj (wp.mono (book_ok (k := k) hd hn hm hs hb hp x1 x8 y1 y8) (fun d S1 q => ?_) fun _ _ _ q => q.elim)
  obtain ⟨_, p', b, rfl, rfl, q1, q2, q3, q4⟩ := q
  exact ⟨rfl, _, _, rfl, boT b, by simp [toT, toTs, toTf, boT], h p' b q1 q2 q3 q4⟩
end
end Kp
/-! The places of a dealing, as the laws tell them. -/
namespace Kp
theorem isDct_bo (b : Book) : isDct (.t (boT b)) = false := rfl
theorem isDct_de (d : Deal) : isDct (.t (deT d)) = false := rfl
theorem isDct_le (l : Char × Cs) : isDct (.t (leT l)) = false := rfl
theorem isDct_st (l : Cs × Char) : isDct (.t (stT l)) = false := rfl
theorem isDct_ki (l : Cs × Bool) : isDct (.t (kiT l)) = false := rfl
theorem idx_bo0 (b : Book) (S : Sto) : idxV (.t (boT b)) (.t (.int 0)) S = some (.t (.lst (b.kinds.map kiT))) := rfl
theorem idx_bo1 (b : Book) (S : Sto) : idxV (.t (boT b)) (.t (.int 1)) S = some (.t (.lst (b.deals.map deT))) := rfl
theorem idx_de0 (d : Deal) (S : Sto) : idxV (.t (deT d)) (.t (.int 0)) S = some (.t (.str d.name)) := rfl
theorem idx_de1 (d : Deal) (S : Sto) : idxV (.t (deT d)) (.t (.int 1)) S = some (.t (.lst (d.lets.map leT))) := rfl
theorem idx_de2 (d : Deal) (S : Sto) : idxV (.t (deT d)) (.t (.int 2)) S = some (.t (.lst (d.steps.map stT))) := rfl
theorem tup_bo (b : Book) : tupOf (.t (boT b)) = some [.t (.lst (b.kinds.map kiT)), .t (.lst (b.deals.map deT))] := rfl
theorem tup_de (d : Deal) : tupOf (.t (deT d)) = some [.t (.str d.name), .t (.lst (d.lets.map leT)), .t (.lst (d.steps.map stT))] := rfl
theorem tup_le (l : Char × Cs) : tupOf (.t (leT l)) = some [.t (.str [l.1]), .t (.str l.2)] := rfl
theorem tup_st (l : Cs × Char) : tupOf (.t (stT l)) = some [.t (.str l.1), .t (.str [l.2])] := rfl
theorem tup_ki (l : Cs × Bool) : tupOf (.t (kiT l)) = some [.t (.str l.1), .t (.bl l.2)] := rfl
theorem bi_kinds (b : Book) (hb : b.Ok) (S : Sto) : biV .dict [.t (.lst (b.kinds.map kiT))] S = some (.t (.dct (b.kinds.map (·.1)) (b.kinds.map fun x => T.bl x.2))) := bi_dict (fun x : Cs × Bool => x.1) (fun x : Cs × Bool => T.bl x.2) b.kinds hb.knd
local macro_rules | `(tactic| array_get_dec) => `(tactic| try simp only [evE, evEs, evT, evO, evC, evI, wp_bind, wp_ok, wp_stuck, wp_exc, wp_ite, R.bind_ok, R.bind_exc, R.bind_stuck, opt_some, opt_none, setTg, setTgs, fin, List.map_cons, List.map_nil, List.length_cons, List.length_nil, List.replicate, List.cons_append, List.nil_append, List.set_cons_zero, List.set_cons_succ, List.getElem?_cons_zero, List.getElem?_cons_succ, allT_nil, allT_cons, allT_map, wipeE, List.length_map, mkLst, mkTup, or_bl, and_bl, or_tt, and_tt, sign_eq, isDct_bo, isDct_de, isDct_le, isDct_st, isDct_ki, idx_bo0, idx_bo1, idx_de0, idx_de1, idx_de2, tup_bo, tup_de, tup_le, tup_st, tup_ki, mtK, eq_self, pl_str, pl_int, pl_bl, pl_non, Bool.and_self, Bool.and_true, Bool.true_and, eqT_str, eqT_int, eqT_bl, notO_sm, if_true, if_false, Bool.false_eq_true, Bool.not_true, Bool.not_false, Nat.zero_add, Nat.add_zero, Nat.sub_self, Nat.reduceSub, Nat.reduceAdd, reduceIte, itmV, isDct_non, isDct_bl, isDct_int, isDct_str, isDct_tup, isDct_lst, isDct_dct, isDct_scr, isDct_ref, isDct_tp, dgt_dct, asInt_non, asInt_bl, asInt_int, asInt_str, asInt_tup, asInt_lst, asInt_dct, asInt_scr, asInt_ref, asInt_tp, asStr_non, asStr_bl, asStr_int, asStr_str, asStr_tup, asStr_lst, asStr_dct, asStr_scr, asStr_ref, asStr_tp, asScr_non, asScr_bl, asScr_int, asScr_str, asScr_tup, asScr_lst, asScr_dct, asScr_scr, asScr_ref, asScr_tp, asBl_non, asBl_bl, asBl_int, asBl_str, asBl_tup, asBl_lst, asBl_dct, asBl_scr, asBl_ref, asBl_tp, isNon_non, asL_non, lstOf_non, tupOf_non, itemsOf_non, seqOf_non, kndT_non, isNon_bl, asL_bl, lstOf_bl, tupOf_bl, itemsOf_bl, seqOf_bl, kndT_bl, isNon_int, asL_int, lstOf_int, tupOf_int, itemsOf_int, seqOf_int, kndT_int, isNon_str, asL_str, lstOf_str, tupOf_str, itemsOf_str, seqOf_str, kndT_str, isNon_tup, asL_tup, lstOf_tup, tupOf_tup, itemsOf_tup, seqOf_tup, kndT_tup, isNon_lst, asL_lst, lstOf_lst, tupOf_lst, itemsOf_lst, seqOf_lst, kndT_lst, isNon_dct, asL_dct, lstOf_dct, tupOf_dct, itemsOf_dct, seqOf_dct, kndT_dct, isNon_scr, asL_scr, lstOf_scr, tupOf_scr, itemsOf_scr, seqOf_scr, kndT_scr, isNon_ref, isNon_tp, tupOf_ref, tupOf_tp, lstOf_tp, asL_tp, seqOf_tp, itemsOf_tp, itemsOf_ref, asRef_ref, asRef_t, asTree_t, kndOf_t, kndOf_tp, isTy_t, truth_bl, truth_int, truth_non, truth_lst, truth_tup, truth_str, add_int, add_str, add_lst, sub_int, lt_int, le_int, gt_int, ge_int, lt_str, le_str, eq_t, ne_t, isN_t, notN_t, idx_lst, idx_tup, idx_tp, slc_lst, slc_str, len_str, len_scr, len_lst, len_tup, bi_len, bi_max2, bi_min2, bi_int_int, bi_int_bl, lstOf_ref, asL_ref, kndOf_ref, idx_refU, len_refU, app_refU, set_refU, ixN_lit, atI_lit, List.set_nil, Nat.reduceLT, Nat.reduceLeDiff])
def ir_places : Fn := ⟨2, 15,
    (.cons (.asg (.nm 2) (.bi .dict (.cons (.idx (.var 0) (.k (.int 0))) .nil)))
    (.cons (.asg (.tp [(.nm 3), (.nm 4), (.nm 5)]) (.var 1))
    (.cons (.asg (.nm 6) (.newL .nil))
    (.cons (.for (.tp [(.nm 7), (.nm 8)]) (.any (.var 4)) (.cons (.asg (.nm 9) (.lc (.var 11) [11, 12] (.tp [(.nm 11), (.nm 12)]) (.any (.var 4)) (.yes (.or (.cmp .eq (.var 11) (.var 7)) (.and (.cmp .eq (.var 12) (.var 8)) (.nott (.idx (.var 2) (.var 8))))))))
    (.cons (.ife (.cmp .eq (.idx (.var 9) (.k (.int 0))) (.var 7)) (.cons (.asg (.nm 10) (.lc (.var 13) [13, 14] (.tp [(.nm 13), (.nm 14)]) (.any (.var 5)) (.yes (.cmp .inn (.var 14) (.var 9)))))
    (.cons (.expr (.mth .append (.var 6) (.cons (.tup (.cons (.var 7) (.cons (.var 8) (.cons (.or (.cmp .inn (.k (.str dRead)) (.var 10)) (.cmp .inn (.k (.str dAsk)) (.var 10))) (.cons (.or (.cmp .inn (.k (.str dWrite)) (.var 10)) (.cmp .inn (.k (.str dAsk)) (.var 10))) .nil))))) .nil)))
    .nil)) .nil)
    .nil)))
    (.cons (.ret (.var 6))
    .nil)))))⟩
/-- a place -/
structure Place where
  c : Char
  k : Cs
  r : Bool
  w : Bool
def plT (p : Place) : T := .tup [.str [p.c], .str p.k, .bl p.r, .bl p.w]
/-- whether a kind has keys without end -/
def Book.many (b : Book) (k : Cs) : Bool := match b.kinds.find? fun x => x.1 == k with
  | some x => x.2
  | none => false
/-- the letters of a letter's place -/
def Book.same (b : Book) (d : Deal) (l : Char × Cs) : Cs := (d.lets.filter fun m => m.1 == l.1 || (m.2 == l.2 && !b.many l.2)).map (·.1)
def Book.deeds (b : Book) (d : Deal) (l : Char × Cs) : List Cs := (d.steps.filter fun s => (b.same d l).any fun y => y == s.2).map (·.1)
def Book.place (b : Book) (d : Deal) (l : Char × Cs) : Place := ⟨l.1, l.2, ((b.deeds d l).any fun y => y == dRead) || ((b.deeds d l).any fun y => y == dAsk), ((b.deeds d l).any fun y => y == dWrite) || ((b.deeds d l).any fun y => y == dAsk)⟩
def Book.first (b : Book) (d : Deal) (l : Char × Cs) : Bool := (b.same d l).head? == some l.1
def Book.places (b : Book) (d : Deal) : List Place := (d.lets.filter (b.first d)).map (b.place d)
theorem many_get {b : Book} {k : Cs} (h : k ∈ b.kinds.map (·.1)) : getD (b.kinds.map (·.1)) (b.kinds.map fun x => T.bl x.2) k = some (.bl (b.many k)) := by
  rw [getD_map (fun x : Cs × Bool => x.1)]
  unfold Book.many
  obtain ⟨x, hx, rfl⟩ := List.mem_map.mp h
  cases e : b.kinds.find? fun y => y.1 == x.1 with
  | none =>
    have := List.find?_eq_none.mp e x hx
    simp at this
  | some y => rfl
section
variable {tb : Tb} {k : Nat}
theorem places_ok (hp : tb "_law_places" = some ir_places) {b : Book} (hb : b.Ok) {d : Deal} (hd : d ∈ b.deals) (S : Sto) :
    wp (run tb (k + 1) "_law_places" [.t (boT b), .t (deT d)] []) (fun e S => e = .ref 0 ∧ S = [.lst ((b.places d).map plT)]) noE := by
  have od := hb.deal d hd
  unfold ir_places at hp
  refine wp_fn _ hp rfl rfl ?_
  clear hp
  refine ss_asg fun K hK => ?_
  array_get_dec
  rw [bi_kinds b hb]
  array_get_dec
  rw [hK]
  refine ⟨_, rfl, ?_⟩
  clear hK K
  refine ss_asg fun K hK => ?_
  array_get_dec
  rw [hK]
  refine ⟨_, rfl, ?_⟩
  clear hK K
  refine ss_asg fun K hK => ?_
  array_get_dec
  rw [hK]
  refine ⟨_, rfl, ?_⟩
  clear hK K
  refine ss_for fun K hK => ?_
  array_get_dec
  rw [hK]
  clear hK K
  refine wp_for (fun i env S => ∃ (a7 a8 a9 a10 : Option D), env = [some (.t (boT b)), some (.t (deT d)), some (.t (.dct (b.kinds.map (·.1)) (b.kinds.map fun x => T.bl x.2))), some (.t (.str d.name)), some (.t (.lst (d.lets.map leT))), some (.t (.lst (d.steps.map stT))), some (.ref 0), a7, a8, a9, a10, none, none, none, none] ∧ S = [.lst ((((d.lets.take i).filter (b.first d)).map (b.place d)).map plT)]) ⟨none, none, none, none, rfl, rfl⟩ ?_ ?_
  · rintro i z env S hz ⟨a7, a8, a9, a10, rfl, rfl⟩
    obtain ⟨l, hl, rfl⟩ := map_at hz
    have hlm : l ∈ d.lets := List.mem_of_getElem? hl
    refine ⟨_, rfl, ?_⟩
    refine ss_asg fun K hK => ?_
    array_get_dec
    refine wp.of (lc_of (fun m => m.1 == l.1 || (m.2 == l.2 && !b.many l.2)) (fun m => .str [m.1]) fun m hm => ?_) ?_
    · array_get_dec
      rw [many_get (od.kind l hlm)]
      array_get_dec
    · rw [if_pos (by rw [List.length_map, List.length_map]; exact lim_pos (Nat.le_trans (List.length_filter_le _ _) (by have := od.lhi; omega))), allT_map]
      array_get_dec
      rw [hK]
      refine ⟨_, rfl, ?_⟩
      clear hK K
      have es : (((d.lets.filter fun m => m.1 == l.1 || (m.2 == l.2 && !b.many l.2)).map fun m => T.str [m.1])) = (b.same d l).map fun c => T.str [c] := by
        unfold Book.same
        rw [List.map_map]
        rfl
      rw [es]
      have hin : l.1 ∈ b.same d l := List.mem_map_of_mem (List.mem_filter.mpr ⟨hlm, by simp⟩)
      have hf : b.first d l = ((b.same d l).head? == some l.1) := rfl
      obtain ⟨c0, cr, hc⟩ : ∃ c0 cr, b.same d l = c0 :: cr := by
        cases e : b.same d l with
        | nil => rw [e] at hin; simp at hin
        | cons a r => exact ⟨a, r, rfl⟩
      have hf2 : b.first d l = (c0 == l.1) := by
        rw [hf, hc]
        rfl
      refine ss_if0 fun K hK => ?_
      rw [hc]
      array_get_dec
      rw [← hf2, hK]
      clear hK K
      cases hfl : b.first d l with
      | false =>
        rw [if_neg Bool.false_ne_true]
        refine ss_nil ⟨_, _, _, _, rfl, ?_⟩
        rw [take_next hl, List.filter_append, List.filter_cons, hfl]
        simp
      | true =>
        rw [if_pos rfl]
        clear hc hf2
        refine ss_asg fun K hK => ?_
        array_get_dec
        refine wp.of (lc_of (fun s => (b.same d l).any fun y => y == s.2) (fun s => .str s.1) fun s hs => ?_) ?_
        · array_get_dec
          rw [in_lst (pl_str _) (plainN_map 7 _ _ fun _ => rfl), inT_signs]
          array_get_dec
        · rw [if_pos (by rw [List.length_map, List.length_map]; exact lim_pos (Nat.le_trans (List.length_filter_le _ _) (by have := od.slen; omega))), allT_map]
          array_get_dec
          rw [hK]
          refine ⟨_, rfl, ?_⟩
          clear hK K
          have ed : ((d.steps.filter fun s => (b.same d l).any fun y => y == s.2).map fun s => T.str s.1) = (b.deeds d l).map T.str := by
            unfold Book.deeds
            rw [List.map_map]
            rfl
          rw [ed]
          refine ss_expr fun K hK => ?_
          have ii : ∀ (w : Cs) (S : Sto), cmpV .inn (.t (.str w)) (.t (.lst ((b.deeds d l).map .str))) S = some ((b.deeds d l).any fun y => y == w) := fun w S => by
            rw [in_lst (pl_str _) (plain_strs _), inT_strs]
          simp only [evE, evEs, List.getElem?_cons_zero, List.getElem?_cons_succ, List.set_cons_zero, List.set_cons_succ, R.bind_ok, opt_some, ii, truth_bl]
          array_get_dec
          have hlen : (List.filter (b.first d) (List.take i d.lets)).length < 9 := Nat.lt_of_le_of_lt (List.length_filter_le _ _) (by rw [List.length_take]; have := od.lhi; omega)
          rw [if_pos (Nat.lt_of_lt_of_le hlen (lim_pos (by omega))), hK]
          clear hK K
          refine ss_nil ?_
          rw [andSs_nx]
          refine ss_nil ⟨_, _, _, _, rfl, ?_⟩
          rw [take_next hl, List.filter_append, List.filter_cons, hfl]
          simp [plT, Book.place]
  · rintro env S ⟨a7, a8, a9, a10, rfl, rfl⟩
    rw [andSs_nx]
    refine ss_ret fun K hK => ?_
    array_get_dec
    rw [hK, retQ_ret]
    refine ⟨rfl, ?_⟩
    rw [List.take_length]
    rfl
theorem places_iso (hp : tb "_law_places" = some ir_places) {b : Book} (hb : b.Ok) {d : Deal} (hd : d ∈ b.deals) (S : Sto) : isoCall (run tb (k + 1)) "_law_places" [.t (boT b), .t (deT d)] .frz S = .ok (.t (.lst ((b.places d).map plT))) S := by
  obtain ⟨e, S1, h1, rfl, rfl⟩ := (places_ok (k := k) hp hb hd []).get
  exact iso_eqC (xs := [boT b, deT d]) h1 rfl (by first | exact toT_ref (by decide) rfl | rfl | simp)
end
end Kp
namespace Kp
theorem pool_keep {tb : Tb} {k : Nat} (ht : tb "_law_pool" = some ir_pool) {ns : List Int} {i : Nat} (hi : i < 1000) {S : Sto} {Q : D → Sto → Prop} {E : String → List (String × T) → Sto → Prop} (h : ∀ p : Pool, p.Ok → Q (.ref S.length) (S ++ [poolC p])) :
    wp (isoCall (run tb (k + 1)) "_law_pool" [.t (.scr ns), .t (.int i)] .keep S) Q E := by
  obtain ⟨p, e, hp⟩ := pool_ok (k := k) ht ns i hi
  refine iso_A [.scr ns, .int i] (wp.of e ⟨rfl, .ref S.length, by unfold ado; simp, ?_⟩)
  exact h p hp
theorem idx_pl0 (p : Place) (S : Sto) : idxV (.t (plT p)) (.t (.int 0)) S = some (.t (.str [p.c])) := rfl
theorem idx_pl1 (p : Place) (S : Sto) : idxV (.t (plT p)) (.t (.int 1)) S = some (.t (.str p.k)) := rfl
theorem idx_pl2 (p : Place) (S : Sto) : idxV (.t (plT p)) (.t (.int 2)) S = some (.t (.bl p.r)) := rfl
theorem idx_pl3 (p : Place) (S : Sto) : idxV (.t (plT p)) (.t (.int 3)) S = some (.t (.bl p.w)) := rfl
theorem isDct_pl (p : Place) : isDct (.t (plT p)) = false := rfl
theorem places_len (b : Book) (d : Deal) : (b.places d).length ≤ d.lets.length := by
  unfold Book.places
  rw [List.length_map]
  exact List.length_filter_le _ _
theorem rng_max (ns : List Int) {m : Int} (q : Nat) (hq : m = (q : Int)) (hm : 1 ≤ q) : ∃ n : Nat, (if (if m < (ns.length : Int) then m else (ns.length : Int)) > 1 then (if m < (ns.length : Int) then m else (ns.length : Int)) else 1) = (n : Int) ∧ n ≤ q := by
  subst hq
  by_cases h : (q : Int) < (ns.length : Int)
  · rw [if_pos h]
    by_cases h2 : (q : Int) > 1
    · rw [if_pos h2]
      exact ⟨q, rfl, Nat.le_refl _⟩
    · rw [if_neg h2]
      exact ⟨1, rfl, hm⟩
  · rw [if_neg h]
    by_cases h2 : (ns.length : Int) > 1
    · rw [if_pos h2]
      exact ⟨ns.length, rfl, by omega⟩
    · rw [if_neg h2]
      exact ⟨1, rfl, hm⟩
theorem rng_max2 (ns : List Int) {m : Int} (q : Nat) (hq : m = (q : Int)) (hm : 1 ≤ q) : ∃ n : Nat, (if (if (ns.length : Int) < m then (ns.length : Int) else m) > 1 then (if (ns.length : Int) < m then (ns.length : Int) else m) else 1) = (n : Int) ∧ n ≤ q := by
  subst hq
  by_cases h : (ns.length : Int) < (q : Int)
  · rw [if_pos h]
    by_cases h2 : (ns.length : Int) > 1
    · rw [if_pos h2]
      exact ⟨ns.length, rfl, by omega⟩
    · rw [if_neg h2]
      exact ⟨1, rfl, hm⟩
  · rw [if_neg h]
    by_cases h2 : (q : Int) > 1
    · rw [if_pos h2]
      exact ⟨q, rfl, Nat.le_refl _⟩
    · rw [if_neg h2]
      exact ⟨1, rfl, hm⟩
end Kp
/-! The program's own defs over a drawn book. -/
namespace Kp
local macro_rules | `(tactic| array_get_dec) => `(tactic| try simp only [evE, evEs, evT, evO, evC, evI, wp_bind, wp_ok, wp_stuck, wp_exc, wp_ite, R.bind_ok, R.bind_exc, R.bind_stuck, opt_some, opt_none, setTg, setTgs, fin, List.map_cons, List.map_nil, List.length_cons, List.length_nil, List.replicate, List.cons_append, List.nil_append, List.set_cons_zero, List.set_cons_succ, List.getElem?_cons_zero, List.getElem?_cons_succ, allT_nil, allT_cons, allT_map, wipeE, List.length_map, mkLst, mkTup, or_bl, and_bl, or_tt, and_tt, sign_eq, idx_pl0, idx_pl1, idx_pl2, idx_pl3, isDct_pl, isDct_bo, isDct_de, isDct_le, isDct_st, isDct_ki, idx_bo0, idx_bo1, idx_de0, idx_de1, idx_de2, tup_bo, tup_de, tup_le, tup_st, tup_ki, mtK, eq_self, pl_str, pl_int, pl_bl, pl_non, Bool.and_self, Bool.and_true, Bool.true_and, eqT_str, eqT_int, eqT_bl, notO_sm, if_true, if_false, Bool.false_eq_true, Bool.not_true, Bool.not_false, Nat.zero_add, Nat.add_zero, Nat.sub_self, Nat.reduceSub, Nat.reduceAdd, reduceIte, itmV, isDct_non, isDct_bl, isDct_int, isDct_str, isDct_tup, isDct_lst, isDct_dct, isDct_scr, isDct_ref, isDct_tp, dgt_dct, asInt_non, asInt_bl, asInt_int, asInt_str, asInt_tup, asInt_lst, asInt_dct, asInt_scr, asInt_ref, asInt_tp, asStr_non, asStr_bl, asStr_int, asStr_str, asStr_tup, asStr_lst, asStr_dct, asStr_scr, asStr_ref, asStr_tp, asScr_non, asScr_bl, asScr_int, asScr_str, asScr_tup, asScr_lst, asScr_dct, asScr_scr, asScr_ref, asScr_tp, asBl_non, asBl_bl, asBl_int, asBl_str, asBl_tup, asBl_lst, asBl_dct, asBl_scr, asBl_ref, asBl_tp, isNon_non, asL_non, lstOf_non, tupOf_non, itemsOf_non, seqOf_non, kndT_non, isNon_bl, asL_bl, lstOf_bl, tupOf_bl, itemsOf_bl, seqOf_bl, kndT_bl, isNon_int, asL_int, lstOf_int, tupOf_int, itemsOf_int, seqOf_int, kndT_int, isNon_str, asL_str, lstOf_str, tupOf_str, itemsOf_str, seqOf_str, kndT_str, isNon_tup, asL_tup, lstOf_tup, tupOf_tup, itemsOf_tup, seqOf_tup, kndT_tup, isNon_lst, asL_lst, lstOf_lst, tupOf_lst, itemsOf_lst, seqOf_lst, kndT_lst, isNon_dct, asL_dct, lstOf_dct, tupOf_dct, itemsOf_dct, seqOf_dct, kndT_dct, isNon_scr, asL_scr, lstOf_scr, tupOf_scr, itemsOf_scr, seqOf_scr, kndT_scr, isNon_ref, isNon_tp, tupOf_ref, tupOf_tp, lstOf_tp, asL_tp, seqOf_tp, itemsOf_tp, itemsOf_ref, asRef_ref, asRef_t, asTree_t, kndOf_t, kndOf_tp, isTy_t, truth_bl, truth_int, truth_non, truth_lst, truth_tup, truth_str, add_int, add_str, add_lst, sub_int, lt_int, le_int, gt_int, ge_int, lt_str, le_str, eq_t, ne_t, isN_t, notN_t, idx_lst, idx_tup, idx_tp, slc_lst, slc_str, len_str, len_scr, len_lst, len_tup, bi_len, bi_max2, bi_min2, bi_int_int, bi_int_bl, lstOf_ref, asL_ref, kndOf_ref, idx_refU, len_refU, app_refU, set_refU, ixN_lit, atI_lit, List.set_nil, Nat.reduceLT, Nat.reduceLeDiff])
def ir_is_text : Fn := ⟨1, 1,
    (.cons (.ret (.isi (.var 0) .str))
    .nil)⟩
def ir_copy_of_dealing : Fn := ⟨1, 4,
    (.cons (.asg (.tp [(.nm 1), (.nm 2), (.nm 3)]) (.var 0))
    (.cons (.ret (.tup (.cons (.var 1) (.cons (.bi .list (.cons (.var 2) .nil)) (.cons (.bi .list (.cons (.var 3) .nil)) .nil)))))
    .nil))⟩
def ir_dealing_by : Fn := ⟨2, 3,
    (.cons (.ife (.call "is_text" (.cons (.var 1) .nil) .frz) (.cons (.for (.nm 2) (.any (.idx (.var 0) (.k (.int 1)))) (.cons (.ife (.cmp .eq (.idx (.var 2) (.k (.int 0))) (.var 1)) (.cons (.ret (.call "copy_of_dealing" (.cons (.var 2) .nil) .frz))
    .nil) .nil)
    .nil))
    .nil) .nil)
    (.cons (.raise "NoDealing")
    .nil))⟩
def ir_has_many : Fn := ⟨2, 4,
    (.cons (.ret (.bi .any (.cons (.lc (.var 3) [2, 3] (.tp [(.nm 2), (.nm 3)]) (.any (.idx (.var 0) (.k (.int 0)))) (.yes (.cmp .eq (.var 2) (.var 1)))) .nil)))
    .nil)⟩
def ir_letters_of_place : Fn := ⟨4, 6,
    (.cons (.ife (.call "has_many" (.cons (.var 0) (.cons (.var 3) .nil)) .frz) (.cons (.ret (.lst (.cons (.var 2) .nil)))
    .nil) .nil)
    (.cons (.ret (.lc (.var 4) [4, 5] (.tp [(.nm 4), (.nm 5)]) (.any (.var 1)) (.yes (.cmp .eq (.var 5) (.var 3)))))
    .nil))⟩
def ir_places_of : Fn := ⟨2, 13,
    (.cons (.asg (.tp [(.nm 2), (.nm 3), (.nm 4)]) (.call "dealing_by" (.cons (.var 0) (.cons (.var 1) .nil)) .frz))
    (.cons (.asg (.nm 5) (.newL .nil))
    (.cons (.for (.tp [(.nm 6), (.nm 7)]) (.any (.var 3)) (.cons (.asg (.nm 8) (.call "letters_of_place" (.cons (.var 0) (.cons (.var 3) (.cons (.var 6) (.cons (.var 7) .nil)))) .frz))
    (.cons (.ife (.cmp .eq (.idx (.var 8) (.k (.int 0))) (.var 6)) (.cons (.asg (.nm 9) (.bi .any (.cons (.lc (.and (.cmp .ne (.var 11) (.k (.str dWrite))) (.cmp .inn (.var 12) (.var 8))) [11, 12] (.tp [(.nm 11), (.nm 12)]) (.any (.var 4)) .no) .nil)))
    (.cons (.asg (.nm 10) (.bi .any (.cons (.lc (.and (.cmp .ne (.var 11) (.k (.str dRead))) (.cmp .inn (.var 12) (.var 8))) [11, 12] (.tp [(.nm 11), (.nm 12)]) (.any (.var 4)) .no) .nil)))
    (.cons (.expr (.mth .append (.var 5) (.cons (.tup (.cons (.var 6) (.cons (.var 7) (.cons (.var 9) (.cons (.var 10) .nil))))) .nil)))
    .nil))) .nil)
    .nil)))
    (.cons (.ret (.var 5))
    .nil))))⟩
def ir_bare_places : Fn := ⟨2, 3,
    (.cons (.ret (.alloc (.lc (.var 2) [2] (.nm 2) (.any (.call "places_of" (.cons (.var 0) (.cons (.var 1) .nil)) .frz)) (.yes (.and (.idx (.var 2) (.k (.int 2))) (.nott (.idx (.var 2) (.k (.int 3)))))))))
    .nil)⟩
def ir_copied : Fn := ⟨1, 4,
    (.cons (.ret (.tup (.cons (.bi .list (.cons (.idx (.var 0) (.k (.int 0))) .nil)) (.cons (.lc (.tup (.cons (.var 1) (.cons (.bi .list (.cons (.var 2) .nil)) (.cons (.bi .list (.cons (.var 3) .nil)) .nil)))) [1, 2, 3] (.tp [(.nm 1), (.nm 2), (.nm 3)]) (.any (.idx (.var 0) (.k (.int 1)))) .no) .nil))))
    .nil)⟩
theorem plN_le (n : Nat) (l : Char × Cs) : plainN (n + 1) (leT l) = true := by
  unfold leT
  simp [plainN]
theorem plN_st (n : Nat) (l : Cs × Char) : plainN (n + 1) (stT l) = true := by
  unfold stT
  simp [plainN]
theorem plN_ki (n : Nat) (l : Cs × Bool) : plainN (n + 1) (kiT l) = true := by
  unfold kiT
  simp [plainN]
theorem plN_pl (n : Nat) (p : Place) : plainN (n + 1) (plT p) = true := by
  unfold plT
  simp [plainN]
theorem plN_de (n : Nat) (d : Deal) : plainN (n + 3) (deT d) = true := by
  unfold deT
  unfold plainN
  simp only [List.all_cons, List.all_nil, Bool.and_true, Bool.and_eq_true]
  exact ⟨rfl, plainN_map _ _ _ (plN_le _), plainN_map _ _ _ (plN_st _)⟩
theorem plain_bo (b : Book) : plain (boT b) = true := by
  unfold boT plain plainN
  simp only [List.all_cons, List.all_nil, Bool.and_true, Bool.and_eq_true]
  exact ⟨plainN_map _ _ _ (plN_ki _), plainN_map _ _ _ (plN_de _)⟩
theorem plain_pls (ps : List Place) : plain (.lst (ps.map plT)) = true := plainN_map 7 _ _ (plN_pl _)
theorem find_first {b : Book} (hb : b.Ok) {x : Cs × Bool} (hx : x ∈ b.kinds) : b.many x.1 = x.2 := by
  unfold Book.many
  cases e : b.kinds.find? fun y => y.1 == x.1 with
  | none =>
    have := List.find?_eq_none.mp e x hx
    simp at this
  | some y =>
    have h1 := List.mem_of_find?_eq_some e
    have h2 : y.1 = x.1 := by
      have := List.find?_some e
      simpa using this
    have h3 := hb.knd
    have : y = x := nodup_map_inj h3 h1 hx h2
    rw [this]
section
variable {tb : Tb} {k : Nat}
theorem is_text_iso (ht : tb "is_text" = some ir_is_text) (x : T) (S : Sto) : isoCall (run tb (k + 1)) "is_text" [.t x] .frz S = .ok (.t (.bl (isKnd (kndT x) .str))) S := by
  unfold ir_is_text at ht
  refine iso1 (eq_of (wp_fn _ ht rfl rfl ?_))
  refine ss_ret fun K hK => ?_
  array_get_dec
  rw [hK, retQ_ret]
  exact ⟨rfl, rfl⟩
theorem copy_iso (ht : tb "copy_of_dealing" = some ir_copy_of_dealing) (d : Deal) (S : Sto) : isoCall (run tb (k + 1)) "copy_of_dealing" [.t (deT d)] .frz S = .ok (.t (deT d)) S := by
  unfold ir_copy_of_dealing at ht
  refine iso1 (eq_of (wp_fn _ ht rfl rfl ?_))
  refine ss_asg fun K hK => ?_
  array_get_dec
  rw [hK]
  refine ⟨_, rfl, ?_⟩
  clear hK K
  refine ss_ret fun K hK => ?_
  array_get_dec
  simp only [bi_list]
  array_get_dec
  rw [hK, retQ_ret]
  exact ⟨rfl, rfl⟩
theorem dealing_iso (h1 : tb "is_text" = some ir_is_text) (h2 : tb "copy_of_dealing" = some ir_copy_of_dealing) (h3 : tb "dealing_by" = some ir_dealing_by) {b : Book} (hb : b.Ok) {d : Deal} (hd : d ∈ b.deals) (S : Sto) :
    isoCall (run tb (k + 2)) "dealing_by" [.t (boT b), .t (.str d.name)] .frz S = .ok (.t (deT d)) S := by
  unfold ir_dealing_by at h3
  refine iso2 (eq_of (wp_fn _ h3 rfl rfl ?_))
  clear h3
  refine ss_if0 fun K hK => ?_
  array_get_dec
  rw [is_text_iso h1]
  array_get_dec
  have e : isKnd Knd.str Ty.str = true := rfl
  rw [e, hK, if_pos rfl]
  clear hK K
  refine ss_for fun K hK => ?_
  array_get_dec
  rw [hK]
  clear hK K
  refine wp_for (fun i env S => ∃ (a2 : Option D), env = [some (.t (boT b)), some (.t (.str d.name)), a2] ∧ S = [] ∧ ∀ (j : Nat) x, j < i → b.deals[j]? = some x → x.name ≠ d.name) ⟨none, rfl, rfl, fun j x h => by omega⟩ ?_ ?_
  · rintro i z env S hz ⟨a2, rfl, rfl, hi⟩
    obtain ⟨x, hx, rfl⟩ := map_at hz
    refine ⟨_, rfl, ?_⟩
    refine ss_if0 fun K hK => ?_
    array_get_dec
    rw [hK]
    clear hK K
    by_cases hn : x.name = d.name
    · rw [if_pos (beq_iff_eq.mpr hn)]
      have hxd : x = d := nodup_map_inj hb.dnd (List.mem_of_getElem? hx) hd hn
      subst hxd
      refine ss_ret fun K hK => ?_
      array_get_dec
      rw [copy_iso h2, wp_ok, hK, andSs_ret]
      show andSs _ _ _ _ _ _
      rw [andSs_ret, andSs_ret]
      exact ⟨rfl, rfl⟩
    · rw [if_neg (by simpa using hn)]
      refine ss_nil ⟨_, rfl, rfl, fun j y hj hy => ?_⟩
      by_cases e : j < i
      · exact hi j y e hy
      · have : j = i := by omega
        subst this
        rw [hx] at hy
        cases hy
        exact hn
  · rintro env S ⟨a2, rfl, rfl, hi⟩
    exfalso
    obtain ⟨j, hj⟩ := List.getElem?_of_mem hd
    rw [List.length_map, List.length_map] at hi
    exact hi j d (List.getElem?_eq_some_iff.mp hj).1 hj rfl
theorem has_many_iso (h : tb "has_many" = some ir_has_many) {b : Book} (hb : b.Ok) {c : Cs} (hc : c ∈ b.kinds.map (·.1)) (S : Sto) : isoCall (run tb (k + 1)) "has_many" [.t (boT b), .t (.str c)] .frz S = .ok (.t (.bl (b.many c))) S := by
  unfold ir_has_many at h
  refine iso2 (eq_of (wp_fn _ h rfl rfl ?_))
  clear h
  refine ss_ret fun K hK => ?_
  array_get_dec
  refine wp.of (lc_of (fun x => x.1 == c) (fun x => .bl x.2) fun x hx => ?_) ?_
  · array_get_dec
  · rw [if_pos (by rw [List.length_map, List.length_map]; exact lim_pos (Nat.le_trans (List.length_filter_le _ _) (by have := hb.khi; omega))), allT_map]
    array_get_dec
    rw [bi_anyM]
    array_get_dec
    rw [hK, retQ_ret]
    refine ⟨?_, rfl⟩
    obtain ⟨x, hx, rfl⟩ := List.mem_map.mp hc
    rw [find_first hb hx]
    have e : ((b.kinds.filter fun y => y.1 == x.1).any fun y => y.2) = x.2 := by
      rw [Bool.eq_iff_iff, List.any_eq_true]
      constructor
      · rintro ⟨y, hy, hy2⟩
        obtain ⟨y1, y2⟩ := List.mem_filter.mp hy
        have : y = x := nodup_map_inj hb.knd y1 hx (by simpa using y2)
        rw [← this]
        exact hy2
      · exact fun h => ⟨x, List.mem_filter.mpr ⟨hx, by simp⟩, h⟩
    rw [e]
theorem same_many {b : Book} {d : Deal} (od : d.Ok (b.kinds.map (·.1))) {l : Char × Cs} (hl : l ∈ d.lets) (h : b.many l.2 = true) : b.same d l = [l.1] := by
  unfold Book.same
  rw [h]
  have key : ∀ ls : List (Char × Cs), (ls.map (·.1)).Nodup → l ∈ ls → (ls.filter fun m => m.1 == l.1).map (·.1) = [l.1] := by
    intro ls
    induction ls with
    | nil => intro _ h; exact absurd h List.not_mem_nil
    | cons x r ih =>
      intro nd h
      rw [List.map_cons, List.nodup_cons] at nd
      rw [List.filter_cons]
      cases h with
      | head =>
        have e : (r.filter fun m => m.1 == l.1) = [] := by
          rw [List.filter_eq_nil_iff]
          intro m hm e
          exact nd.1 (List.mem_map.mpr ⟨m, hm, by simpa using e⟩)
        simp [e]
      | tail _ g =>
        have ne : (x.1 == l.1) = false := by
          rw [beq_eq_false_iff_ne]
          intro e
          exact nd.1 (List.mem_map.mpr ⟨l, g, e.symm⟩)
        rw [ne, if_neg Bool.false_ne_true]
        exact ih nd.2 g
  simpa using key d.lets od.lnd hl
theorem same_few {b : Book} {d : Deal} (od : d.Ok (b.kinds.map (·.1))) {l : Char × Cs} (hl : l ∈ d.lets) (h : b.many l.2 = false) : b.same d l = (d.lets.filter fun m => m.2 == l.2).map (·.1) := by
  unfold Book.same
  rw [h]
  congr 1
  apply List.filter_congr
  intro m hm
  rw [Bool.eq_iff_iff]
  simp only [Bool.not_false, Bool.and_true, Bool.or_eq_true, beq_iff_eq]
  constructor
  · rintro (e | e)
    · rw [nodup_map_inj od.lnd hm hl e]
    · exact e
  · exact fun e => .inr e
theorem letters_iso (h1 : tb "has_many" = some ir_has_many) (h2 : tb "letters_of_place" = some ir_letters_of_place) {b : Book} (hb : b.Ok) {d : Deal} (hd : d ∈ b.deals) {l : Char × Cs} (hl : l ∈ d.lets) (S : Sto) :
    isoCall (run tb (k + 2)) "letters_of_place" [.t (boT b), .t (.lst (d.lets.map leT)), .t (.str [l.1]), .t (.str l.2)] .frz S = .ok (.t (.lst ((b.same d l).map fun c => T.str [c]))) S := by
  have od := hb.deal d hd
  unfold ir_letters_of_place at h2
  refine iso_eq (xs := [boT b, .lst (d.lets.map leT), .str [l.1], .str l.2]) (S1 := []) (eq_of (wp_fn _ h2 rfl rfl ?_)) rfl
  clear h2
  refine ss_if0 fun K hK => ?_
  array_get_dec
  rw [has_many_iso h1 hb (od.kind l hl)]
  array_get_dec
  rw [hK]
  clear hK K
  cases hm : b.many l.2 with
  | true =>
    rw [if_pos rfl]
    refine ss_ret fun K hK => ?_
    array_get_dec
    rw [hK, andSs_ret, retQ_ret, same_many od hl hm]
    exact ⟨rfl, rfl⟩
  | false =>
    rw [if_neg Bool.false_ne_true]
    refine ss_ret fun K hK => ?_
    array_get_dec
    refine wp.of (lc_of (fun m => m.2 == l.2) (fun m => .str [m.1]) fun m hm => ?_) ?_
    · array_get_dec
    · rw [if_pos (by rw [List.length_map, List.length_map]; exact lim_pos (Nat.le_trans (List.length_filter_le _ _) (by have := od.lhi; omega))), allT_map]
      array_get_dec
      rw [hK, retQ_ret, same_few od hl hm, List.map_map]
      exact ⟨rfl, rfl⟩
theorem reads_eq {b : Book} {d : Deal} (od : d.Ok (b.kinds.map (·.1))) (l : Char × Cs) : (d.steps.any fun s => (!(s.1 == dWrite)) && (b.same d l).any fun y => y == s.2) = (b.place d l).r := by
  unfold Book.place Book.deeds
  rw [Bool.eq_iff_iff, Bool.or_eq_true, List.any_eq_true, List.any_eq_true, List.any_eq_true]
  simp only [List.mem_map, List.mem_filter, beq_iff_eq]
  constructor
  · rintro ⟨s, hs, h⟩
    rw [Bool.and_eq_true, Bool.not_eq_true', beq_eq_false_iff_ne] at h
    rcases od.deed s hs with e | e | e
    · exact .inl ⟨s.1, ⟨s, ⟨hs, h.2⟩, rfl⟩, e⟩
    · exact absurd e h.1
    · exact .inr ⟨s.1, ⟨s, ⟨hs, h.2⟩, rfl⟩, e⟩
  · have ne1 : dRead ≠ dWrite := by decide
    have ne2 : dAsk ≠ dWrite := by decide
    rintro (⟨w, ⟨s, ⟨hs, h⟩, rfl⟩, e⟩ | ⟨w, ⟨s, ⟨hs, h⟩, rfl⟩, e⟩)
    · exact ⟨s, hs, by rw [Bool.and_eq_true, Bool.not_eq_true', beq_eq_false_iff_ne, e]; exact ⟨ne1, h⟩⟩
    · exact ⟨s, hs, by rw [Bool.and_eq_true, Bool.not_eq_true', beq_eq_false_iff_ne, e]; exact ⟨ne2, h⟩⟩
theorem writes_eq {b : Book} {d : Deal} (od : d.Ok (b.kinds.map (·.1))) (l : Char × Cs) : (d.steps.any fun s => (!(s.1 == dRead)) && (b.same d l).any fun y => y == s.2) = (b.place d l).w := by
  unfold Book.place Book.deeds
  rw [Bool.eq_iff_iff, Bool.or_eq_true, List.any_eq_true, List.any_eq_true, List.any_eq_true]
  simp only [List.mem_map, List.mem_filter, beq_iff_eq]
  constructor
  · rintro ⟨s, hs, h⟩
    rw [Bool.and_eq_true, Bool.not_eq_true', beq_eq_false_iff_ne] at h
    rcases od.deed s hs with e | e | e
    · exact absurd e h.1
    · exact .inl ⟨s.1, ⟨s, ⟨hs, h.2⟩, rfl⟩, e⟩
    · exact .inr ⟨s.1, ⟨s, ⟨hs, h.2⟩, rfl⟩, e⟩
  · have ne1 : dWrite ≠ dRead := by decide
    have ne2 : dAsk ≠ dRead := by decide
    rintro (⟨w, ⟨s, ⟨hs, h⟩, rfl⟩, e⟩ | ⟨w, ⟨s, ⟨hs, h⟩, rfl⟩, e⟩)
    · exact ⟨s, hs, by rw [Bool.and_eq_true, Bool.not_eq_true', beq_eq_false_iff_ne, e]; exact ⟨ne1, h⟩⟩
    · exact ⟨s, hs, by rw [Bool.and_eq_true, Bool.not_eq_true', beq_eq_false_iff_ne, e]; exact ⟨ne2, h⟩⟩
/-- the program's defs that places_of asks -/
structure PTb (tb : Tb) : Prop where
  text : tb "is_text" = some ir_is_text
  copy : tb "copy_of_dealing" = some ir_copy_of_dealing
  deal : tb "dealing_by" = some ir_dealing_by
  many : tb "has_many" = some ir_has_many
  lets : tb "letters_of_place" = some ir_letters_of_place
  places : tb "places_of" = some ir_places_of
theorem places_of_ok (P : PTb tb) {b : Book} (hb : b.Ok) {d : Deal} (hd : d ∈ b.deals) : run tb (k + 3) "places_of" [.t (boT b), .t (.str d.name)] [] = .ok (.ref 0) [.lst ((b.places d).map plT)] := by
  have od := hb.deal d hd
  have h := P.places
  unfold ir_places_of at h
  refine eq_of (wp_fn _ h rfl rfl ?_)
  clear h
  refine ss_asg fun K hK => ?_
  array_get_dec
  rw [dealing_iso P.text P.copy P.deal hb hd, wp_ok, hK]
  refine ⟨_, rfl, ?_⟩
  clear hK K
  refine ss_asg fun K hK => ?_
  array_get_dec
  rw [hK]
  refine ⟨_, rfl, ?_⟩
  clear hK K
  refine ss_for fun K hK => ?_
  array_get_dec
  rw [hK]
  clear hK K
  refine wp_for (fun i env S => ∃ (a6 a7 a8 a9 a10 : Option D), env = [some (.t (boT b)), some (.t (.str d.name)), some (.t (.str d.name)), some (.t (.lst (d.lets.map leT))), some (.t (.lst (d.steps.map stT))), some (.ref 0), a6, a7, a8, a9, a10, none, none] ∧ S = [.lst ((((d.lets.take i).filter (b.first d)).map (b.place d)).map plT)]) ⟨none, none, none, none, none, rfl, rfl⟩ ?_ ?_
  · rintro i z env S hz ⟨a6, a7, a8, a9, a10, rfl, rfl⟩
    obtain ⟨l, hl, rfl⟩ := map_at hz
    have hlm : l ∈ d.lets := List.mem_of_getElem? hl
    refine ⟨_, rfl, ?_⟩
    refine ss_asg fun K hK => ?_
    array_get_dec
    rw [letters_iso P.many P.lets hb hd hlm, wp_ok, hK]
    refine ⟨_, rfl, ?_⟩
    clear hK K
    have hin : l.1 ∈ b.same d l := List.mem_map_of_mem (List.mem_filter.mpr ⟨hlm, by simp⟩)
    have hf : b.first d l = ((b.same d l).head? == some l.1) := rfl
    obtain ⟨c0, cr, hc⟩ : ∃ c0 cr, b.same d l = c0 :: cr := by
      cases e : b.same d l with
      | nil => rw [e] at hin; simp at hin
      | cons a r => exact ⟨a, r, rfl⟩
    have hf2 : b.first d l = (c0 == l.1) := by
      rw [hf, hc]
      rfl
    refine ss_if0 fun K hK => ?_
    rw [hc]
    array_get_dec
    rw [← hf2, hK]
    clear hK K
    cases hfl : b.first d l with
    | false =>
      rw [if_neg Bool.false_ne_true]
      refine ss_nil ⟨_, _, _, _, _, rfl, ?_⟩
      rw [take_next hl, List.filter_append, List.filter_cons, hfl]
      simp
    | true =>
      rw [if_pos rfl]
      clear hc hf2
      refine ss_asg fun K hK => ?_
      array_get_dec
      refine wp.of (lc_ofM (fun s => .bl ((!(s.1 == dWrite)) && (b.same d l).any fun y => y == s.2)) fun s hs => ?_) ?_
      · array_get_dec
        rw [in_lst (pl_str _) (plainN_map 7 _ _ fun _ => rfl), inT_signs]
        array_get_dec
      · rw [if_pos (by rw [List.length_map, List.length_map]; exact lim_pos (by have := od.slen; omega)), allT_map]
        array_get_dec
        rw [bi_anyM, reads_eq od]
        array_get_dec
        rw [hK]
        refine ⟨_, rfl, ?_⟩
        clear hK K
        refine ss_asg fun K hK => ?_
        array_get_dec
        refine wp.of (lc_ofM (fun s => .bl ((!(s.1 == dRead)) && (b.same d l).any fun y => y == s.2)) fun s hs => ?_) ?_
        · array_get_dec
          rw [in_lst (pl_str _) (plainN_map 7 _ _ fun _ => rfl), inT_signs]
          array_get_dec
        · rw [if_pos (by rw [List.length_map, List.length_map]; exact lim_pos (by have := od.slen; omega)), allT_map]
          array_get_dec
          rw [bi_anyM, writes_eq od]
          array_get_dec
          rw [hK]
          refine ⟨_, rfl, ?_⟩
          clear hK K
          refine ss_expr fun K hK => ?_
          array_get_dec
          have hlen : (List.filter (b.first d) (List.take i d.lets)).length < 9 := Nat.lt_of_le_of_lt (List.length_filter_le _ _) (by rw [List.length_take]; have := od.lhi; omega)
          rw [if_pos (Nat.lt_of_lt_of_le hlen (lim_pos (by omega))), hK]
          clear hK K
          refine ss_nil ?_
          rw [andSs_nx]
          refine ss_nil ⟨_, _, _, _, _, rfl, ?_⟩
          rw [take_next hl, List.filter_append, List.filter_cons, hfl]
          simp [plT, Book.place]
  · rintro env S ⟨a6, a7, a8, a9, a10, rfl, rfl⟩
    rw [andSs_nx]
    refine ss_ret fun K hK => ?_
    array_get_dec
    rw [hK, retQ_ret]
    refine ⟨rfl, ?_⟩
    rw [List.take_length]
    rfl
theorem places_of_iso (P : PTb tb) {b : Book} (hb : b.Ok) {d : Deal} (hd : d ∈ b.deals) (S : Sto) : isoCall (run tb (k + 3)) "places_of" [.t (boT b), .t (.str d.name)] .frz S = .ok (.t (.lst ((b.places d).map plT))) S :=
  iso_eqC (xs := [boT b, .str d.name]) (places_of_ok P hb hd) rfl (by first | exact toT_ref (by decide) rfl | rfl | simp)
/-- a told list, kept as a cell -/
theorem iso_keepL {Φ : Or} {f : String} {xs ys : List T} (h : Φ f (xs.map .t) [] = .ok (.ref 0) [.lst ys]) (S : Sto) : isoCall Φ f (xs.map .t) .keep S = .ok (.ref S.length) (S ++ [.lst ys]) := by
  show isoLend Φ f (xs.map .t) true S = _
  unfold isoLend
  rw [isoArgs_T]
  simp only [List.nodup_nil, if_true, lentC, h, List.length_nil]
  have e : [Cell.lst ys].all flatC = true := rfl
  rw [e]
  simp only [if_true]
  unfold ado
  simp [backC]
theorem places_of_keep (P : PTb tb) {b : Book} (hb : b.Ok) {d : Deal} (hd : d ∈ b.deals) (S : Sto) : isoCall (run tb (k + 3)) "places_of" [.t (boT b), .t (.str d.name)] .keep S = .ok (.ref S.length) (S ++ [.lst ((b.places d).map plT)]) :=
  iso_keepL (xs := [boT b, .str d.name]) (places_of_ok P hb hd) S
def Book.bare (b : Book) (d : Deal) : List Place := (b.places d).filter fun p => p.r && !p.w
theorem bare_ok (P : PTb tb) (h : tb "bare_places" = some ir_bare_places) {b : Book} (hb : b.Ok) {d : Deal} (hd : d ∈ b.deals) : run tb (k + 4) "bare_places" [.t (boT b), .t (.str d.name)] [] = .ok (.ref 0) [.lst ((b.bare d).map plT)] := by
  unfold ir_bare_places at h
  refine eq_of (wp_fn _ h rfl rfl ?_)
  clear h
  refine ss_ret fun K hK => ?_
  array_get_dec
  rw [places_of_iso P hb hd]
  array_get_dec
  refine wp.of (lc_of (fun p => p.r && !p.w) plT fun p hp => ?_) ?_
  · array_get_dec
  · rw [if_pos (by rw [List.length_map, List.length_map]; exact lim_pos (Nat.le_trans (List.length_filter_le _ _) (by have := (hb.deal d hd).lhi; have := places_len b d; omega))), allT_map]
    array_get_dec
    rw [hK, retQ_ret]
    exact ⟨rfl, rfl⟩
theorem bare_iso (P : PTb tb) (h : tb "bare_places" = some ir_bare_places) {b : Book} (hb : b.Ok) {d : Deal} (hd : d ∈ b.deals) (S : Sto) : isoCall (run tb (k + 4)) "bare_places" [.t (boT b), .t (.str d.name)] .frz S = .ok (.t (.lst ((b.bare d).map plT))) S :=
  iso_eqC (xs := [boT b, .str d.name]) (bare_ok P h hb hd) rfl (by first | exact toT_ref (by decide) rfl | rfl | simp)
theorem bare_keep (P : PTb tb) (h : tb "bare_places" = some ir_bare_places) {b : Book} (hb : b.Ok) {d : Deal} (hd : d ∈ b.deals) (S : Sto) : isoCall (run tb (k + 4)) "bare_places" [.t (boT b), .t (.str d.name)] .keep S = .ok (.ref S.length) (S ++ [.lst ((b.bare d).map plT)]) :=
  iso_keepL (xs := [boT b, .str d.name]) (bare_ok P h hb hd) S
theorem copied_iso (h : tb "_law_copied" = some ir_copied) {b : Book} (hb : b.Ok) (S : Sto) : isoCall (run tb (k + 1)) "_law_copied" [.t (boT b)] .frz S = .ok (.t (boT b)) S := by
  unfold ir_copied at h
  refine iso1 (eq_of (wp_fn _ h rfl rfl ?_))
  clear h
  refine ss_ret fun K hK => ?_
  array_get_dec
  rw [bi_list]
  array_get_dec
  refine wp.of (lc_ofM deT fun d hd => ?_) ?_
  · array_get_dec
    simp only [bi_list]
    array_get_dec
    rfl
  · rw [if_pos (by rw [List.length_map, List.length_map]; exact lim_pos (by have := hb.dhi; omega)), allT_map]
    array_get_dec
    rw [hK, retQ_ret]
    exact ⟨rfl, rfl⟩
end
end Kp
/-! What stands beside what. -/
namespace Kp
local macro_rules | `(tactic| array_get_dec) => `(tactic| try simp only [evE, evEs, evT, evO, evC, evI, wp_bind, wp_ok, wp_stuck, wp_exc, wp_ite, R.bind_ok, R.bind_exc, R.bind_stuck, opt_some, opt_none, setTg, setTgs, fin, List.map_cons, List.map_nil, List.length_cons, List.length_nil, List.replicate, List.cons_append, List.nil_append, List.set_cons_zero, List.set_cons_succ, List.getElem?_cons_zero, List.getElem?_cons_succ, allT_nil, allT_cons, allT_map, wipeE, List.length_map, mkLst, mkTup, or_bl, and_bl, or_tt, and_tt, sign_eq, idx_pl0, idx_pl1, idx_pl2, idx_pl3, isDct_pl, isDct_bo, isDct_de, isDct_le, isDct_st, isDct_ki, idx_bo0, idx_bo1, idx_de0, idx_de1, idx_de2, tup_bo, tup_de, tup_le, tup_st, tup_ki, mtK, eq_self, pl_str, pl_int, pl_bl, pl_non, Bool.and_self, Bool.and_true, Bool.true_and, eqT_str, eqT_int, eqT_bl, notO_sm, if_true, if_false, Bool.false_eq_true, Bool.not_true, Bool.not_false, Nat.zero_add, Nat.add_zero, Nat.sub_self, Nat.reduceSub, Nat.reduceAdd, reduceIte, itmV, isDct_non, isDct_bl, isDct_int, isDct_str, isDct_tup, isDct_lst, isDct_dct, isDct_scr, isDct_ref, isDct_tp, dgt_dct, asInt_non, asInt_bl, asInt_int, asInt_str, asInt_tup, asInt_lst, asInt_dct, asInt_scr, asInt_ref, asInt_tp, asStr_non, asStr_bl, asStr_int, asStr_str, asStr_tup, asStr_lst, asStr_dct, asStr_scr, asStr_ref, asStr_tp, asScr_non, asScr_bl, asScr_int, asScr_str, asScr_tup, asScr_lst, asScr_dct, asScr_scr, asScr_ref, asScr_tp, asBl_non, asBl_bl, asBl_int, asBl_str, asBl_tup, asBl_lst, asBl_dct, asBl_scr, asBl_ref, asBl_tp, isNon_non, asL_non, lstOf_non, tupOf_non, itemsOf_non, seqOf_non, kndT_non, isNon_bl, asL_bl, lstOf_bl, tupOf_bl, itemsOf_bl, seqOf_bl, kndT_bl, isNon_int, asL_int, lstOf_int, tupOf_int, itemsOf_int, seqOf_int, kndT_int, isNon_str, asL_str, lstOf_str, tupOf_str, itemsOf_str, seqOf_str, kndT_str, isNon_tup, asL_tup, lstOf_tup, tupOf_tup, itemsOf_tup, seqOf_tup, kndT_tup, isNon_lst, asL_lst, lstOf_lst, tupOf_lst, itemsOf_lst, seqOf_lst, kndT_lst, isNon_dct, asL_dct, lstOf_dct, tupOf_dct, itemsOf_dct, seqOf_dct, kndT_dct, isNon_scr, asL_scr, lstOf_scr, tupOf_scr, itemsOf_scr, seqOf_scr, kndT_scr, isNon_ref, isNon_tp, tupOf_ref, tupOf_tp, lstOf_tp, asL_tp, seqOf_tp, itemsOf_tp, itemsOf_ref, asRef_ref, asRef_t, asTree_t, kndOf_t, kndOf_tp, isTy_t, truth_bl, truth_int, truth_non, truth_lst, truth_tup, truth_str, add_int, add_str, add_lst, sub_int, lt_int, le_int, gt_int, ge_int, lt_str, le_str, eq_t, ne_t, isN_t, notN_t, idx_lst, idx_tup, idx_tp, slc_lst, slc_str, len_str, len_scr, len_lst, len_tup, bi_len, bi_max2, bi_min2, bi_int_int, bi_int_bl, lstOf_ref, asL_ref, kndOf_ref, idx_refU, len_refU, app_refU, set_refU, ixN_lit, atI_lit, List.set_nil, Nat.reduceLT, Nat.reduceLeDiff])
def ir_dealing_names_of : Fn := ⟨1, 3,
    (.cons (.ret (.lc (.var 1) [1, 2] (.tp [(.nm 1), (.nm 2), (.nm 2)]) (.any (.idx (.var 0) (.k (.int 1)))) .no))
    .nil)⟩
def ir__lone_kinds_written : Fn := ⟨2, 6,
    (.cons (.asg (.nm 2) (.call "places_of" (.cons (.var 0) (.cons (.var 1) .nil)) .frz))
    (.cons (.ret (.lc (.var 4) [3, 4, 5] (.tp [(.nm 3), (.nm 4), (.nm 3), (.nm 5)]) (.any (.var 2)) (.yes (.and (.var 5) (.nott (.call "has_many" (.cons (.var 0) (.cons (.var 4) .nil)) .frz))))))
    .nil))⟩
def ir_beside : Fn := ⟨2, 7,
    (.cons (.asg (.nm 2) (.call "_lone_kinds_written" (.cons (.var 0) (.cons (.var 1) .nil)) .frz))
    (.cons (.asg (.nm 3) (.newL .nil))
    (.cons (.for (.tp [(.nm 4), (.nm 5)]) (.enum (.call "dealing_names_of" (.cons (.var 0) .nil) .frz)) (.cons (.ife (.nott (.bi .any (.cons (.lc (.cmp .inn (.var 6) (.var 2)) [6] (.nm 6) (.any (.call "_lone_kinds_written" (.cons (.var 0) (.cons (.var 5) .nil)) .frz)) .no) .nil))) (.cons (.expr (.mth .append (.var 3) (.cons (.var 4) .nil)))
    .nil) .nil)
    .nil))
    (.cons (.ret (.var 3))
    .nil))))⟩
def ir_alone : Fn := ⟨2, 6,
    (.cons (.asg (.nm 2) (.bi .dict (.cons (.idx (.var 0) (.k (.int 0))) .nil)))
    (.cons (.asg (.nm 3) (.bi .dict (.cons (.idx (.var 1) (.k (.int 1))) .nil)))
    (.cons (.ret (.lc (.idx (.var 3) (.var 5)) [4, 5] (.tp [(.nm 4), (.nm 5)]) (.any (.idx (.var 1) (.k (.int 2)))) (.yes (.and (.cmp .ne (.var 4) (.k (.str dRead))) (.nott (.idx (.var 2) (.idx (.var 3) (.var 5))))))))
    .nil)))⟩
theorem enum_get : ∀ {xs : List T} {k i : Nat} {x : D}, (enumL k xs)[i]? = some x → ∃ y, xs[i]? = some y ∧ x = .t (.tup [.int ((k + i : Nat) : Int), y])
  | [], k, i, x, h => by simp [enumL] at h
  | y :: r, k, 0, x, h => by
    simp [enumL] at h
    exact ⟨y, rfl, by rw [← h]; rfl⟩
  | y :: r, k, i + 1, x, h => by
    simp only [enumL, List.getElem?_cons_succ] at h
    obtain ⟨z, h1, h2⟩ := enum_get h
    exact ⟨z, by simpa using h1, by rw [h2]; congr 4; omega⟩
theorem enum_len : ∀ (xs : List T) (k : Nat), (enumL k xs).length = xs.length
  | [], _ => rfl
  | _ :: r, k => by simp [enumL, enum_len r]
theorem range_next (p : Nat → Bool) (i : Nat) : (List.range (i + 1)).filter p = (List.range i).filter p ++ (if p i = true then [i] else []) := by
  rw [List.range_succ, List.filter_append, List.filter_cons]
  cases p i <;> rfl
def numT (i : Nat) : T := .int (i : Nat)
/-- the kinds with one key that a dealing writes, by its places -/
def Book.lone (b : Book) (d : Deal) : List Cs := ((b.places d).filter fun p => p.w && !b.many p.k).map (·.k)
/-- .. by its steps -/
def kindL (d : Deal) (c : Char) : Cs := match d.lets.find? fun l => l.1 == c with
  | some l => l.2
  | none => []
def Book.alone (b : Book) (d : Deal) : List Cs := (d.steps.filter fun s => (!(s.1 == dRead)) && !b.many (kindL d s.2)).map fun s => kindL d s.2
theorem kindL_of {d : Deal} {ks : List Cs} (od : d.Ok ks) {l : Char × Cs} (hl : l ∈ d.lets) : kindL d l.1 = l.2 := by
  unfold kindL
  cases e : d.lets.find? fun y => y.1 == l.1 with
  | none =>
    have := List.find?_eq_none.mp e l hl
    simp at this
  | some y =>
    have h1 := List.mem_of_find?_eq_some e
    have h2 : y.1 = l.1 := by simpa using List.find?_some e
    rw [nodup_map_inj od.lnd h1 hl h2]
theorem place_kind {b : Book} {d : Deal} (l : Char × Cs) : (b.place d l).k = l.2 := rfl
theorem lone_iff {b : Book} {d : Deal} (od : d.Ok (b.kinds.map (·.1))) (k : Cs) : k ∈ b.lone d ↔ k ∈ b.alone d := by
  unfold Book.lone Book.alone Book.places
  simp only [List.mem_map, List.mem_filter]
  constructor
  · rintro ⟨p, ⟨⟨l, ⟨hl, hf⟩, rfl⟩, hp⟩, rfl⟩
    rw [place_kind, Bool.and_eq_true, Bool.not_eq_true', ← writes_eq od l, List.any_eq_true] at hp
    obtain ⟨⟨s, hs, hsw⟩, hm⟩ := hp
    rw [Bool.and_eq_true, List.any_eq_true] at hsw
    obtain ⟨h1, c, hc, h2⟩ := hsw
    rw [same_few od hl hm] at hc
    obtain ⟨m, hm1, rfl⟩ := List.mem_map.mp hc
    obtain ⟨hm2, hm3⟩ := List.mem_filter.mp hm1
    have e : kindL d s.2 = l.2 := by
      rw [← beq_iff_eq.mp h2, kindL_of od hm2]
      exact beq_iff_eq.mp hm3
    refine ⟨s, ⟨hs, ?_⟩, e⟩
    rw [e, h1, hm]
    rfl
  · rintro ⟨s, ⟨hs, h⟩, rfl⟩
    rw [Bool.and_eq_true, Bool.not_eq_true' (b.many _)] at h
    obtain ⟨m, hm, hms⟩ := List.mem_map.mp (od.slet s hs)
    have e : kindL d s.2 = m.2 := by rw [← hms]; exact kindL_of od hm
    rw [e] at h ⊢
    obtain ⟨l, hl⟩ : ∃ l, d.lets.find? (fun x => x.2 == m.2) = some l := by
      cases q : d.lets.find? (fun x => x.2 == m.2) with
      | none =>
        have := List.find?_eq_none.mp q m hm
        simp at this
      | some l => exact ⟨l, rfl⟩
    have hl1 := List.mem_of_find?_eq_some hl
    have hl2 : l.2 = m.2 := by simpa using List.find?_some hl
    have hsame : b.same d l = (d.lets.filter fun x => x.2 == m.2).map (·.1) := by
      rw [same_few od hl1 (by rw [hl2]; exact h.2), hl2]
    refine ⟨b.place d l, ⟨⟨l, ⟨hl1, ?_⟩, rfl⟩, ?_⟩, hl2⟩
    · unfold Book.first
      rw [hsame, List.head?_map, List.head?_filter, hl]
      simp
    · rw [place_kind, hl2, h.2, Bool.not_false, Bool.and_true, ← writes_eq od l, List.any_eq_true]
      refine ⟨s, hs, ?_⟩
      rw [h.1, Bool.true_and, List.any_eq_true]
      refine ⟨m.1, ?_, by rw [hms]; simp⟩
      rw [hsame]
      exact List.mem_map_of_mem (List.mem_filter.mpr ⟨hm, by simp⟩)
section
variable {tb : Tb} {k : Nat}
structure BTb (tb : Tb) : Prop extends PTb tb where
  names : tb "dealing_names_of" = some ir_dealing_names_of
  lone : tb "_lone_kinds_written" = some ir__lone_kinds_written
  beside : tb "beside" = some ir_beside
theorem names_of_iso (h : tb "dealing_names_of" = some ir_dealing_names_of) {b : Book} (hb : b.Ok) (S : Sto) : isoCall (run tb (k + 1)) "dealing_names_of" [.t (boT b)] .frz S = .ok (.t (.lst (b.deals.map fun d => .str d.name))) S := by
  unfold ir_dealing_names_of at h
  refine iso1 (eq_of (wp_fn _ h rfl rfl ?_))
  clear h
  refine ss_ret fun K hK => ?_
  array_get_dec
  refine wp.of (lc_ofM (fun d => .str d.name) fun d hd => ?_) ?_
  · array_get_dec
  · rw [if_pos (by rw [List.length_map, List.length_map]; exact lim_pos (by have := hb.dhi; omega)), allT_map]
    array_get_dec
    rw [hK, retQ_ret]
    exact ⟨rfl, rfl⟩
theorem lone_iso (B : BTb tb) {b : Book} (hb : b.Ok) {d : Deal} (hd : d ∈ b.deals) (S : Sto) : isoCall (run tb (k + 4)) "_lone_kinds_written" [.t (boT b), .t (.str d.name)] .frz S = .ok (.t (.lst ((b.lone d).map .str))) S := by
  have h := B.lone
  unfold ir__lone_kinds_written at h
  refine iso2 (eq_of (wp_fn _ h rfl rfl ?_))
  clear h
  refine ss_asg fun K hK => ?_
  array_get_dec
  rw [places_of_iso B.toPTb hb hd, wp_ok, hK]
  refine ⟨_, rfl, ?_⟩
  clear hK K
  refine ss_ret fun K hK => ?_
  array_get_dec
  refine wp.of (lc_of (fun p => p.w && !b.many p.k) (fun p => .str p.k) fun p hp => ?_) ?_
  · have hk : p.k ∈ b.kinds.map (·.1) := by
      obtain ⟨l, hl, rfl⟩ := List.mem_map.mp hp
      exact (hb.deal d hd).kind l (List.mem_filter.mp hl).1
    have tp : tupOf (.t (plT p)) = some [.t (.str [p.c]), .t (.str p.k), .t (.bl p.r), .t (.bl p.w)] := rfl
    array_get_dec
    simp only [tp]
    array_get_dec
    rw [has_many_iso B.many hb hk]
    array_get_dec
  · rw [if_pos (by rw [List.length_map, List.length_map]; exact lim_pos (Nat.le_trans (List.length_filter_le _ _) (by have := (hb.deal d hd).lhi; have := places_len b d; omega))), allT_map]
    array_get_dec
    rw [hK, retQ_ret]
    unfold Book.lone
    rw [List.map_map]
    exact ⟨rfl, rfl⟩
/-- whether two dealings stand beside one another -/
def Book.stands (b : Book) (d o : Deal) : Bool := !((b.lone o).any fun k => (b.lone d).any fun y => y == k)
def Book.standsAt (b : Book) (d : Deal) (i : Nat) : Bool := match b.deals[i]? with
  | some o => b.stands d o
  | none => false
def Book.besides (b : Book) (d : Deal) : List Nat := (List.range b.deals.length).filter (b.standsAt d)
theorem beside_ok (B : BTb tb) {b : Book} (hb : b.Ok) {d : Deal} (hd : d ∈ b.deals) : run tb (k + 5) "beside" [.t (boT b), .t (.str d.name)] [] = .ok (.ref 0) [.lst ((b.besides d).map numT)] := by
  have h := B.beside
  unfold ir_beside at h
  refine eq_of (wp_fn _ h rfl rfl ?_)
  clear h
  refine ss_asg fun K hK => ?_
  array_get_dec
  rw [lone_iso B hb hd, wp_ok, hK]
  refine ⟨_, rfl, ?_⟩
  clear hK K
  refine ss_asg fun K hK => ?_
  array_get_dec
  rw [hK]
  refine ⟨_, rfl, ?_⟩
  clear hK K
  refine ss_for fun K hK => ?_
  array_get_dec
  rw [names_of_iso B.names hb, wp_ok]
  array_get_dec
  rw [hK]
  clear hK K
  refine wp_for (fun i env S => ∃ (a4 a5 : Option D), env = [some (.t (boT b)), some (.t (.str d.name)), some (.t (.lst ((b.lone d).map .str))), some (.ref 0), a4, a5, none] ∧ S = [.lst (((List.range i).filter (b.standsAt d)).map numT)]) ⟨none, none, rfl, rfl⟩ ?_ ?_
  · rintro i z env S hz ⟨a4, a5, rfl, rfl⟩
    obtain ⟨y, hy, rfl⟩ := enum_get hz
    rw [List.getElem?_map] at hy
    obtain ⟨o, ho, rfl⟩ : ∃ o, b.deals[i]? = some o ∧ y = .str o.name := by
      cases e : b.deals[i]? with
      | none => rw [e] at hy; simp at hy
      | some o => rw [e] at hy; simp at hy; exact ⟨o, rfl, hy.symm⟩
    have hom : o ∈ b.deals := List.mem_of_getElem? ho
    have hi8 : i < 8 := by
      have := (List.getElem?_eq_some_iff.mp ho).1
      have := hb.dhi
      omega
    refine ⟨_, rfl, ?_⟩
    refine ss_if0 fun K hK => ?_
    array_get_dec
    rw [lone_iso B hb hom, wp_ok]
    array_get_dec
    refine wp.of (lc_ofM (fun c => .bl ((b.lone d).any fun y => y == c)) fun c hc => ?_) ?_
    · array_get_dec
      rw [in_lst (pl_str _) (plain_strs _), inT_strs]
      array_get_dec
    · have ll : (b.lone o).length ≤ 4 := by
        unfold Book.lone
        rw [List.length_map]
        exact Nat.le_trans (List.length_filter_le _ _) (Nat.le_trans (places_len b o) (hb.deal o hom).lhi)
      rw [if_pos (by rw [List.length_map, List.length_map]; exact lim_pos (by omega)), allT_map]
      array_get_dec
      rw [bi_anyM]
      array_get_dec
      rw [hK]
      clear hK K
      have est : (!((b.lone o).any fun c => (b.lone d).any fun y => y == c)) = b.standsAt d i := by
        unfold Book.standsAt
        rw [ho]
        rfl
      rw [est]
      have hlen : ((List.range i).filter (b.standsAt d)).length < 9 := Nat.lt_of_le_of_lt (List.length_filter_le _ _) (by rw [List.length_range]; omega)
      cases hs : b.standsAt d i with
      | false =>
        rw [if_neg Bool.false_ne_true]
        refine ss_nil ⟨_, _, rfl, ?_⟩
        rw [range_next, hs]
        simp
      | true =>
        rw [if_pos rfl]
        refine ss_expr fun K hK => ?_
        array_get_dec
        rw [if_pos (Nat.lt_of_lt_of_le hlen (lim_pos (by omega))), hK]
        clear hK K
        refine ss_nil ?_
        rw [andSs_nx]
        refine ss_nil ⟨_, _, rfl, ?_⟩
        rw [range_next, hs]
        simp [numT]
  · rintro env S ⟨a4, a5, rfl, rfl⟩
    rw [andSs_nx]
    refine ss_ret fun K hK => ?_
    array_get_dec
    rw [hK, retQ_ret]
    refine ⟨rfl, ?_⟩
    rw [enum_len, List.length_map]
    rfl
theorem beside_iso (B : BTb tb) {b : Book} (hb : b.Ok) {d : Deal} (hd : d ∈ b.deals) (S : Sto) : isoCall (run tb (k + 5)) "beside" [.t (boT b), .t (.str d.name)] .frz S = .ok (.t (.lst ((b.besides d).map numT))) S :=
  iso_eqC (xs := [boT b, .str d.name]) (beside_ok B hb hd) rfl (by first | exact toT_ref (by decide) rfl | rfl | simp)
theorem beside_keep (B : BTb tb) {b : Book} (hb : b.Ok) {d : Deal} (hd : d ∈ b.deals) (S : Sto) : isoCall (run tb (k + 5)) "beside" [.t (boT b), .t (.str d.name)] .keep S = .ok (.ref S.length) (S ++ [.lst ((b.besides d).map numT)]) :=
  iso_keepL (xs := [boT b, .str d.name]) (beside_ok B hb hd) S
theorem dict_lets {d : Deal} {ks : List Cs} (od : d.Ok ks) (S : Sto) : biV .dict [.t (.lst (d.lets.map leT))] S = some (.t (.dct (d.lets.map fun l => [l.1]) (d.lets.map fun l => T.str l.2))) := by
  refine bi_dict (fun l : Char × Cs => [l.1]) (fun l : Char × Cs => T.str l.2) d.lets ?_
  have e : (d.lets.map fun l => [l.1]) = (d.lets.map (·.1)).map fun c => [c] := by rw [List.map_map]; rfl
  rw [e]
  exact nodup_mapI (fun a b h => by simpa using h) od.lnd
theorem get_kind {d : Deal} {c : Char} (h : c ∈ d.lets.map (·.1)) : getD (d.lets.map fun l => [l.1]) (d.lets.map fun l => T.str l.2) [c] = some (.str (kindL d c)) := by
  rw [getD_map (fun l : Char × Cs => [l.1])]
  unfold kindL
  have e : (fun x : Char × Cs => ([x.1] : Cs) == [c]) = fun x => x.1 == c := by
    funext x
    exact sign_eq _ _
  rw [e]
  obtain ⟨l, hl, rfl⟩ := List.mem_map.mp h
  cases q : d.lets.find? fun y => y.1 == l.1 with
  | none =>
    have := List.find?_eq_none.mp q l hl
    simp at this
  | some y => rfl
theorem kindL_mem {d : Deal} {ks : List Cs} (od : d.Ok ks) {c : Char} (h : c ∈ d.lets.map (·.1)) : kindL d c ∈ ks := by
  obtain ⟨l, hl, rfl⟩ := List.mem_map.mp h
  rw [kindL_of od hl]
  exact od.kind l hl
theorem alone_iso (h : tb "_law_alone_written" = some ir_alone) {b : Book} (hb : b.Ok) {d : Deal} (hd : d ∈ b.deals) (S : Sto) : isoCall (run tb (k + 1)) "_law_alone_written" [.t (boT b), .t (deT d)] .frz S = .ok (.t (.lst ((b.alone d).map .str))) S := by
  have od := hb.deal d hd
  unfold ir_alone at h
  refine iso2 (eq_of (wp_fn _ h rfl rfl ?_))
  clear h
  refine ss_asg fun K hK => ?_
  array_get_dec
  rw [bi_kinds b hb]
  array_get_dec
  rw [hK]
  refine ⟨_, rfl, ?_⟩
  clear hK K
  refine ss_asg fun K hK => ?_
  array_get_dec
  rw [dict_lets od]
  array_get_dec
  rw [hK]
  refine ⟨_, rfl, ?_⟩
  clear hK K
  refine ss_ret fun K hK => ?_
  array_get_dec
  refine wp.of (lc_of (fun s => (!(s.1 == dRead)) && !b.many (kindL d s.2)) (fun s => .str (kindL d s.2)) fun s hs => ?_) ?_
  · array_get_dec
    simp only [get_kind (od.slet s hs)]
    array_get_dec
    rw [many_get (kindL_mem od (od.slet s hs))]
    array_get_dec
  · rw [if_pos (by rw [List.length_map, List.length_map]; exact lim_pos (Nat.le_trans (List.length_filter_le _ _) (by have := od.slen; omega))), allT_map]
    array_get_dec
    rw [hK, retQ_ret]
    unfold Book.alone
    rw [List.map_map]
    exact ⟨rfl, rfl⟩
theorem stands_alone {b : Book} (hb : b.Ok) {d o : Deal} (hd : d ∈ b.deals) (ho : o ∈ b.deals) : ((b.alone o).filter fun k => (b.alone d).any fun y => y == k).isEmpty = b.stands d o := by
  unfold Book.stands
  rw [Bool.eq_iff_iff, List.isEmpty_iff, List.filter_eq_nil_iff, Bool.not_eq_true', ← Bool.not_eq_true, List.any_eq_true]
  constructor
  · rintro h ⟨x, hx, h2⟩
    obtain ⟨y, hy, e⟩ := List.any_eq_true.mp h2
    refine h x ((lone_iff (hb.deal o ho) x).mp hx) (List.any_eq_true.mpr ⟨y, (lone_iff (hb.deal d hd) y).mp hy, e⟩)
  · intro h x hx h2
    obtain ⟨y, hy, e⟩ := List.any_eq_true.mp h2
    exact h ⟨x, (lone_iff (hb.deal o ho) x).mpr hx, List.any_eq_true.mpr ⟨y, (lone_iff (hb.deal d hd) y).mpr hy, e⟩⟩
end
end Kp
/-! What is shown of plain values of ordinary signs is told. -/
namespace Kp
open PySem
/-- signs below 128 -/
def Asc (s : Str) : Prop := ∀ c ∈ s.cps.toList, c < 128
theorem Asc.app {a b : Str} (h : Asc a) (q : Asc b) : Asc (a ++ b) := by
  intro c hc
  have e : (a ++ b).cps.toList = a.cps.toList ++ b.cps.toList := by
    show (a.cps ++ b.cps).toList = _
    simp
  rw [e, List.mem_append] at hc
  rcases hc with hc | hc
  · exact h c hc
  · exact q c hc
theorem asc_nat {c : Nat} (h : c < 128) : (Char.ofNat c).toNat = c := by
  have tab : ∀ n < 128, (Char.ofNat n).toNat = n := by decide +kernel
  exact tab c h
theorem csOf_asc {s : Str} (h : Asc s) : ∃ cs, csOf s = some cs := by
  refine ⟨s.cps.toList.map Char.ofNat, ?_⟩
  unfold csOf
  have e : stC (s.cps.toList.map Char.ofNat) = s := by
    unfold stC
    rw [List.map_map]
    have : s.cps.toList.map (Char.toNat ∘ Char.ofNat) = s.cps.toList := by
      conv => rhs; rw [← List.map_id s.cps.toList]
      exact List.map_congr_left fun c hc => asc_nat (h c hc)
    rw [this]
  simp only [e, if_true]
theorem asc_lit {s : Str} (h : s.cps.toList.all (fun c => decide (c < 128)) = true) : Asc s := fun c hc => of_decide_eq_true (List.all_eq_true.mp h c hc)
theorem ofString_toList (s : String) : (Str.ofString s).cps.toList = s.toList.map Char.toNat := by
  rw [Str.ofString_eq_toList]
theorem asc_ofString {s : String} (h : ∀ c ∈ s.toList, c.toNat < 128) : Asc (Str.ofString s) := by
  intro c hc
  rw [ofString_toList] at hc
  obtain ⟨x, hx, rfl⟩ := List.mem_map.mp hc
  exact h x hx
theorem asc_digit {c : Char} (h : c.isDigit = true) : c.toNat < 128 := by
  unfold Char.isDigit at h
  simp only [Bool.and_eq_true, decide_eq_true_eq] at h
  have h2 := h.2
  have e : c.toNat = c.val.toNat := rfl
  rw [e]
  have : c.val.toNat ≤ (57 : UInt32).toNat := h2
  have e2 : (57 : UInt32).toNat = 57 := rfl
  omega
theorem asc_natRepr (n : Nat) : ∀ c ∈ (Nat.repr n).toList, c.toNat < 128 := by
  intro c hc
  unfold Nat.repr at hc
  rw [String.toList_ofList] at hc
  exact asc_digit (Nat.isDigit_of_mem_toDigits (by decide) (by decide) hc)
theorem asc_int (i : Int) : Asc (Str.ofString (toString i)) := by
  refine asc_ofString fun c hc => ?_
  have hc : c ∈ (Int.repr i).toList := hc
  unfold Int.repr at hc
  split at hc
  · exact asc_natRepr _ c hc
  · rw [String.toList_append, List.mem_append] at hc
    rcases hc with hc | hc
    · have e : ("-" : String).toList = ['-'] := rfl
      rw [e, List.mem_singleton] at hc
      subst hc
      decide
    · exact asc_natRepr _ c hc
theorem reprChar_asc : ∀ c < 128, ∀ q ∈ [34, 39], (Builtin.Str.reprChar q c).all (fun d => decide (d < 128)) = true := by decide +kernel
theorem repr_foldl (q : Nat) : ∀ (l : List Nat) (acc : Array Nat), (l.foldl (fun out c => out ++ (Builtin.Str.reprChar q c).toArray) acc).toList = acc.toList ++ l.flatMap (Builtin.Str.reprChar q)
  | [], acc => by simp
  | c :: r, acc => by
    rw [List.foldl_cons, repr_foldl q r]
    simp
theorem asc_repr {s : Str} (h : Asc s) : Asc (reprText s) := by
  have hq : reprQuote s ∈ [34, 39] := by
    unfold reprQuote
    split <;> simp
  have hq2 : reprQuote s < 128 := by
    have : reprQuote s = 34 ∨ reprQuote s = 39 := by simpa using hq
    omega
  intro c hc
  unfold reprText at hc
  rw [Array.toList_push, ← Array.foldl_toList, repr_foldl] at hc
  simp only [List.mem_append, List.mem_singleton, List.mem_flatMap] at hc
  rcases hc with (hc | ⟨d, hd, hc⟩) | hc
  · have : c = reprQuote s := by simpa using hc
    rw [this]; exact hq2
  · have := reprChar_asc d (h d hd) _ hq
    exact of_decide_eq_true (List.all_eq_true.mp this c hc)
  · rw [hc]; exact hq2
mutual
/-- ordinary values -/
def safeT : T → Bool
  | .non => true
  | .bl _ => true
  | .int i => decide (i.natAbs < 10 ^ 70)
  | .str s => s.all fun c => decide (c.toNat < 128)
  | .tup xs => safeTs xs
  | .lst xs => safeTs xs
  | _ => false
def safeTs : List T → Bool
  | [] => true
  | x :: xs => safeT x && safeTs xs
end
mutual
/-- how long what is shown is at most -/
def szT : T → Nat
  | .non => 4
  | .bl _ => 5
  | .int _ => 71
  | .str s => 10 * s.length + 2
  | .tup xs => szTs xs + 3
  | .lst xs => szTs xs + 3
  | _ => 0
def szTs : List T → Nat
  | [] => 0
  | x :: xs => szT x + 2 + szTs xs
end
theorem safeTs_iff : ∀ {xs : List T}, safeTs xs = true ↔ ∀ x ∈ xs, safeT x = true
  | [] => by simp [safeTs]
  | x :: xs => by simp [safeTs, safeTs_iff]
theorem szTs_le {n : Nat} : ∀ {xs : List T}, (∀ x ∈ xs, szT x ≤ n) → szTs xs ≤ xs.length * (n + 2)
  | [], _ => by simp [szTs]
  | x :: xs, h => by
    have h1 := h x List.mem_cons_self
    have h2 := szTs_le (n := n) fun y hy => h y (List.mem_cons_of_mem _ hy)
    simp only [szTs, List.length_cons, Nat.add_mul, Nat.one_mul]
    omega
theorem textFrom_le : ∀ (ts : List Str) (k : Nat) (acc : Str), (textFrom k acc ts).length ≤ acc.length + piled ts
  | [], k, acc => by simp [textFrom, piled]
  | t :: r, k, acc => by
    have ih := textFrom_le r (k + 1) (acc ++ (if k > 0 then ", " else "" : String) ++ t)
    rw [strLen_append, strLen_append] at ih
    have e : ((if k > 0 then ", " else "" : String) : Str).length ≤ 2 := by split <;> decide
    rw [piled_cons]
    show (textFrom (k + 1) _ r).length ≤ _
    omega
theorem asc_textFrom : ∀ (ts : List Str) (k : Nat) (acc : Str), Asc acc → (∀ t ∈ ts, Asc t) → Asc (textFrom k acc ts)
  | [], k, acc, h, _ => h
  | t :: r, k, acc, h, q => by
    refine asc_textFrom r (k + 1) _ ((h.app ?_).app (q t List.mem_cons_self)) fun u hu => q u (List.mem_cons_of_mem _ hu)
    split <;> exact asc_lit (by decide)
theorem asc_join : ∀ (ts : List Str), (∀ t ∈ ts, Asc t) → Asc (Str.join ", " ts)
  | [], _ => asc_lit (by decide)
  | [x], h => h x List.mem_cons_self
  | x :: y :: r, h => by
    show Asc (x ++ ", " ++ Str.join ", " (y :: r))
    exact ((h x List.mem_cons_self).app (asc_lit (by decide))).app (asc_join (y :: r) fun t ht => h t (List.mem_cons_of_mem _ ht))
mutual
theorem shown_ok : ∀ (x : T), safeT x = true → Asc (toPy x).shown ∧ (toPy x).showable = true ∧ (toPy x).shown.length ≤ szT x
  | .non, _ => ⟨asc_lit (by decide), rfl, by decide⟩
  | .bl b, _ => by cases b <;> exact ⟨asc_lit (by decide), rfl, by decide⟩
  | .int i, h => by
    have hb : i.natAbs < 10 ^ 70 := of_decide_eq_true h
    refine ⟨asc_int i, ?_, ?_⟩
    · show decide (i.natAbs.log2 < 1920) = true
      refine decide_eq_true ?_
      by_cases z : i.natAbs = 0
      · rw [z]; decide
      · rw [Nat.log2_lt z]
        exact Nat.lt_of_lt_of_le hb (by decide)
    · show (Str.ofString (toString i)).length ≤ 71
      rw [ofString_length]
      exact int_text_length_le10 (k := 70) (by decide) hb
  | .str s, h => by
    have hs : Asc (stC s) := by
      intro c hc
      rw [stC_cps] at hc
      obtain ⟨x, hx, rfl⟩ := List.mem_map.mp hc
      exact of_decide_eq_true (List.all_eq_true.mp h x hx)
    refine ⟨asc_repr hs, rfl, ?_⟩
    show (reprText (stC s)).length ≤ 10 * s.length + 2
    have := StrLaws.reprText_len (stC s) fun c hc => Nat.lt_trans (hs c hc) (by decide)
    rw [stC_len] at this
    exact this
  | .tup xs, h => by
    obtain ⟨h1, h2, h3⟩ := showns_ok xs h
    refine ⟨?_, h2, ?_⟩
    · show Asc (tupleText (PyData.shownAll (toPys xs)))
      unfold tupleText
      refine ((asc_lit (by decide)).app (asc_join _ h1)).app ?_
      split <;> exact asc_lit (by decide)
    · show (tupleText (PyData.shownAll (toPys xs))).length ≤ szTs xs + 3
      unfold tupleText
      rw [strLen_append, strLen_append]
      have e1 : ((("(" : String) : Str)).length = 1 := rfl
      have e3 : (((if (PyData.shownAll (toPys xs)).length == 1 then ",)" else ")" : String) : Str)).length ≤ 2 := by split <;> decide
      have e4 : (Str.join ", " (PyData.shownAll (toPys xs))).length ≤ piled (PyData.shownAll (toPys xs)) := by
        cases z : PyData.shownAll (toPys xs) with
        | nil => decide
        | cons t r =>
          have := join_length_add (t :: r) (by simp)
          omega
      omega
  | .lst xs, h => by
    obtain ⟨h1, h2, h3⟩ := showns_ok xs h
    refine ⟨?_, h2, ?_⟩
    · show Asc (listText (PyData.shownAll (toPys xs)))
      unfold listText
      exact (asc_textFrom _ _ _ (asc_lit (by decide)) h1).app (asc_lit (by decide))
    · show (listText (PyData.shownAll (toPys xs))).length ≤ szTs xs + 3
      unfold listText
      rw [strLen_append]
      have e1 := textFrom_le (PyData.shownAll (toPys xs)) 0 "["
      have e2 : ((("[" : String) : Str)).length = 1 := rfl
      have e3 : ((("]" : String) : Str)).length = 1 := rfl
      omega
  | .dct _ _, h => by simp [safeT] at h
  | .scr _, h => by simp [safeT] at h
theorem showns_ok : ∀ (xs : List T), safeTs xs = true → (∀ t ∈ PyData.shownAll (toPys xs), Asc t) ∧ PyData.showableAll (toPys xs) = true ∧ piled (PyData.shownAll (toPys xs)) ≤ szTs xs
  | [], _ => ⟨fun t ht => by simp [toPys, PyData.shownAll] at ht, rfl, by simp [toPys, PyData.shownAll, szTs, piled]⟩
  | x :: xs, h => by
    simp only [safeTs, Bool.and_eq_true] at h
    obtain ⟨a1, a2, a3⟩ := shown_ok x h.1
    obtain ⟨b1, b2, b3⟩ := showns_ok xs h.2
    refine ⟨fun t ht => ?_, ?_, ?_⟩
    · simp only [toPys, PyData.shownAll, List.mem_cons] at ht
      rcases ht with rfl | ht
      · exact a1
      · exact b1 t ht
    · simp only [toPys, PyData.showableAll, a2, b2, Bool.and_self]
    · simp only [toPys, PyData.shownAll, piled_cons, szTs]
      omega
end
/-- repr is told -/
theorem repr_tot {x : T} (hp : plain x = true) (hs : safeT x = true) (hz : szT x ≤ lim) : ∃ s, ∀ S, reprV S (.t x) = some s := by
  obtain ⟨h1, h2, h3⟩ := shown_ok x hs
  obtain ⟨cs, hc⟩ := csOf_asc h1
  refine ⟨cs, fun S => ?_⟩
  unfold reprV
  rw [toT_t]
  simp only [hp, h2, Bool.and_self, Bool.true_and, decide_eq_true (Nat.le_trans h3 hz), if_true, hc]
theorem bi_repr {x : T} {s : Cs} {S : Sto} (hb : ∀ b, x ≠ .bl b) (h : reprV S (.t x) = some s) : biV .repr [.t x] S = some (.t (.str s)) := by
  have e : asBl (.t x) = none := by cases x <;> first | rfl | exact absurd rfl (hb _)
  simp only [biV, e, h]
end Kp
/-! What is no name of a dealing is refused. -/
namespace Kp
local macro_rules | `(tactic| array_get_dec) => `(tactic| try simp only [evE, evEs, evT, evO, evC, evI, wp_bind, wp_ok, wp_stuck, wp_exc, wp_ite, R.bind_ok, R.bind_exc, R.bind_stuck, opt_some, opt_none, setTg, setTgs, fin, List.map_cons, List.map_nil, List.length_cons, List.length_nil, List.replicate, List.cons_append, List.nil_append, List.set_cons_zero, List.set_cons_succ, List.getElem?_cons_zero, List.getElem?_cons_succ, allT_nil, allT_cons, allT_map, wipeE, List.length_map, mkLst, mkTup, or_bl, and_bl, or_tt, and_tt, sign_eq, idx_pl0, idx_pl1, idx_pl2, idx_pl3, isDct_pl, isDct_bo, isDct_de, isDct_le, isDct_st, isDct_ki, idx_bo0, idx_bo1, idx_de0, idx_de1, idx_de2, tup_bo, tup_de, tup_le, tup_st, tup_ki, mtK, eq_self, pl_str, pl_int, pl_bl, pl_non, Bool.and_self, Bool.and_true, Bool.true_and, eqT_str, eqT_int, eqT_bl, notO_sm, if_true, if_false, Bool.false_eq_true, Bool.not_true, Bool.not_false, Nat.zero_add, Nat.add_zero, Nat.sub_self, Nat.reduceSub, Nat.reduceAdd, reduceIte, itmV, isDct_non, isDct_bl, isDct_int, isDct_str, isDct_tup, isDct_lst, isDct_dct, isDct_scr, isDct_ref, isDct_tp, dgt_dct, asInt_non, asInt_bl, asInt_int, asInt_str, asInt_tup, asInt_lst, asInt_dct, asInt_scr, asInt_ref, asInt_tp, asStr_non, asStr_bl, asStr_int, asStr_str, asStr_tup, asStr_lst, asStr_dct, asStr_scr, asStr_ref, asStr_tp, asScr_non, asScr_bl, asScr_int, asScr_str, asScr_tup, asScr_lst, asScr_dct, asScr_scr, asScr_ref, asScr_tp, asBl_non, asBl_bl, asBl_int, asBl_str, asBl_tup, asBl_lst, asBl_dct, asBl_scr, asBl_ref, asBl_tp, isNon_non, asL_non, lstOf_non, tupOf_non, itemsOf_non, seqOf_non, kndT_non, isNon_bl, asL_bl, lstOf_bl, tupOf_bl, itemsOf_bl, seqOf_bl, kndT_bl, isNon_int, asL_int, lstOf_int, tupOf_int, itemsOf_int, seqOf_int, kndT_int, isNon_str, asL_str, lstOf_str, tupOf_str, itemsOf_str, seqOf_str, kndT_str, isNon_tup, asL_tup, lstOf_tup, tupOf_tup, itemsOf_tup, seqOf_tup, kndT_tup, isNon_lst, asL_lst, lstOf_lst, tupOf_lst, itemsOf_lst, seqOf_lst, kndT_lst, isNon_dct, asL_dct, lstOf_dct, tupOf_dct, itemsOf_dct, seqOf_dct, kndT_dct, isNon_scr, asL_scr, lstOf_scr, tupOf_scr, itemsOf_scr, seqOf_scr, kndT_scr, isNon_ref, isNon_tp, tupOf_ref, tupOf_tp, lstOf_tp, asL_tp, seqOf_tp, itemsOf_tp, itemsOf_ref, asRef_ref, asRef_t, asTree_t, kndOf_t, kndOf_tp, isTy_t, truth_bl, truth_int, truth_non, truth_lst, truth_tup, truth_str, add_int, add_str, add_lst, sub_int, lt_int, le_int, gt_int, ge_int, lt_str, le_str, eq_t, ne_t, isN_t, notN_t, idx_lst, idx_tup, idx_tp, slc_lst, slc_str, len_str, len_scr, len_lst, len_tup, bi_len, bi_max2, bi_min2, bi_int_int, bi_int_bl, lstOf_ref, asL_ref, kndOf_ref, idx_refU, len_refU, app_refU, set_refU, ixN_lit, atI_lit, List.set_nil, Nat.reduceLT, Nat.reduceLeDiff])
/-- whether a thing is the name of a dealing -/
def nameIn (b : Book) : T → Bool
  | .str s => b.deals.any fun d => d.name == s
  | _ => false
theorem isLow_abc {s : Cs} (h : ∀ c ∈ s, c ∈ abc) : s.all isLow = true := by
  rw [List.all_eq_true]
  intro c hc
  have tab : ∀ c ∈ abc, isLow c = true := by
    rw [abc_eq]
    decide +kernel
  exact tab c (h c hc)
theorem nameIn_of {b : Book} {x : T} (h : nameIn b x = true) : ∃ d ∈ b.deals, x = .str d.name := by
  cases x with
  | str s =>
    have z : (b.deals.any fun d => d.name == s) = true := h
    obtain ⟨d, hd, e⟩ := List.any_eq_true.mp z
    exact ⟨d, hd, by rw [beq_iff_eq.mp e]⟩
  | _ => cases h
section
variable {tb : Tb} {k : Nat}
theorem dealing_exc (h1 : tb "is_text" = some ir_is_text) (h3 : tb "dealing_by" = some ir_dealing_by) {b : Book} {x : T} (hx : nameIn b x = false) : run tb (k + 2) "dealing_by" [.t (boT b), .t x] [] = .exc "NoDealing" [] [] := by
  unfold ir_dealing_by at h3
  refine exc_of (wp_fn _ h3 rfl rfl ?_)
  clear h3
  refine ss_if0 fun K hK => ?_
  array_get_dec
  rw [is_text_iso h1]
  array_get_dec
  rw [hK]
  clear hK K
  cases x with
  | str s =>
    have e : isKnd (kndT (T.str s)) Ty.str = true := rfl
    rw [if_pos e]
    refine ss_for fun K hK => ?_
    array_get_dec
    rw [hK]
    clear hK K
    refine wp_for (fun i env S => ∃ (a2 : Option D), env = [some (.t (boT b)), some (.t (.str s)), a2] ∧ S = []) ⟨none, rfl, rfl⟩ ?_ ?_
    · rintro i z env S hz ⟨a2, rfl, rfl⟩
      obtain ⟨d, hd, rfl⟩ := map_at hz
      refine ⟨_, rfl, ?_⟩
      refine ss_if0 fun K hK => ?_
      array_get_dec
      rw [hK]
      clear hK K
      have hn : (d.name == s) = false := by
        have z : (b.deals.any fun d => d.name == s) = false := hx
        rw [List.any_eq_false] at z
        simpa using z d (List.mem_of_getElem? hd)
      rw [hn, if_neg Bool.false_ne_true]
      exact ss_nil ⟨_, rfl, rfl⟩
    · rintro env S ⟨a2, rfl, rfl⟩
      rw [andSs_nx]
      refine ss_nil ?_
      rw [andSs_nx]
      exact ss_raise ⟨rfl, rfl, rfl⟩
  | _ =>
    split
    · rename_i h
      cases h
    · exact ss_raise ⟨rfl, rfl, rfl⟩
theorem exc2 {Φ : Or} {f c : String} {x y : T} (h : Φ f [.t x, .t y] [] = .exc c [] []) (S : Sto) : isoCall Φ f [.t x, .t y] .frz S = .exc c [] S := iso_exc (xs := [x, y]) h S
theorem exc3 {Φ : Or} {f c : String} {x y z : T} (h : Φ f [.t x, .t y, .t z] [] = .exc c [] []) (S : Sto) : isoCall Φ f [.t x, .t y, .t z] .frz S = .exc c [] S := iso_exc (xs := [x, y, z]) h S
theorem places_exc (P : PTb tb) {b : Book} {x : T} (hx : nameIn b x = false) : run tb (k + 3) "places_of" [.t (boT b), .t x] [] = .exc "NoDealing" [] [] := by
  have h := P.places
  unfold ir_places_of at h
  refine exc_of (wp_fn _ h rfl rfl ?_)
  clear h
  refine ss_asg fun K hK => ?_
  array_get_dec
  rw [exc2 (dealing_exc P.text P.deal hx), wp_exc]
  exact ⟨rfl, rfl, rfl⟩
theorem bare_exc (P : PTb tb) (h : tb "bare_places" = some ir_bare_places) {b : Book} {x : T} (hx : nameIn b x = false) : run tb (k + 4) "bare_places" [.t (boT b), .t x] [] = .exc "NoDealing" [] [] := by
  unfold ir_bare_places at h
  refine exc_of (wp_fn _ h rfl rfl ?_)
  clear h
  refine ss_ret fun K hK => ?_
  array_get_dec
  rw [exc2 (places_exc P hx), wp_exc]
  exact ⟨rfl, rfl, rfl⟩
theorem lone_exc (B : BTb tb) {b : Book} {x : T} (hx : nameIn b x = false) : run tb (k + 4) "_lone_kinds_written" [.t (boT b), .t x] [] = .exc "NoDealing" [] [] := by
  have h := B.lone
  unfold ir__lone_kinds_written at h
  refine exc_of (wp_fn _ h rfl rfl ?_)
  clear h
  refine ss_asg fun K hK => ?_
  array_get_dec
  rw [exc2 (places_exc B.toPTb hx), wp_exc]
  exact ⟨rfl, rfl, rfl⟩
theorem beside_exc (B : BTb tb) {b : Book} {x : T} (hx : nameIn b x = false) : run tb (k + 5) "beside" [.t (boT b), .t x] [] = .exc "NoDealing" [] [] := by
  have h := B.beside
  unfold ir_beside at h
  refine exc_of (wp_fn _ h rfl rfl ?_)
  clear h
  refine ss_asg fun K hK => ?_
  array_get_dec
  rw [exc2 (lone_exc B hx), wp_exc]
  exact ⟨rfl, rfl, rfl⟩
end
end Kp
namespace Kp.K07
open PySem L2 Kp
def top (i : Nat) : PySem.Stmt := PySem.Challenge.pw_snapsure_k07_no_texts.main.body.getD i (.Pass ⟨0, 0, 0, 0⟩)
def fns : List String := ["is_text", "is_tuple_of", "is_list_of", "is_name", "is_letter", "look_at_book", "_look_at_kinds", "_is_kind", "_look_at_head", "_look_at_letters", "_is_letter_row", "_look_at_steps", "_is_step", "_look_for_idle", "read", "_is_row", "_is_letter_word", "_may_stand", "_put", "_letter_of", "_law_pool", "_law_draw", "_law_names", "_law_book", "_law_marks", "_law_steps", "_law_shown", "_law_row"]
def lend : List String := ["_law_draw", "_law_names", "_law_marks", "_law_steps", "_law_book"]
def shr : List String := ["read", "_put", "_may_stand", "_law_row"]
def kws : List KwRow := []
def glb : List (String × T) := [("MOST_SIGNS", (.int 8)), ("MOST_KINDS", (.int 6)), ("MOST_DEALINGS", (.int 8)), ("MOST_LETTERS", (.int 4)), ("MOST_STEPS", (.int 8)), ("DEEDS", (.tup [(.str "read".toList), (.str "write".toList), (.str "ask".toList)])), ("MANY", (.str "many".toList)), ("ONE", (.str "one".toList))]
def excs : List String := ["SnapError", "BookError", "NoBook", "NoText"]
def subs : List (String × String × Bool) := [("NoBook", "SnapError", true), ("NoBook", "BookError", true), ("NoBook", "NoBook", true), ("NoBook", "NoText", false), ("NoText", "SnapError", true), ("NoText", "BookError", true), ("NoText", "NoBook", false), ("NoText", "NoText", true)]
def txt : Txt := ⟨fns, glb, kws, excs, subs⟩
def ir_is_text : Fn := ⟨1, 1,
    (.cons (.ret (.isi (.var 0) .str))
    .nil)⟩
def N_is_text : List Str := ["thing"]
def row_is_text : Row := ⟨"is_text", top 6, N_is_text, ["thing"], ⟨fns, glb, [], lend, kws, false, excs, subs, shr, false⟩, ir_is_text⟩
def ir_is_tuple_of : Fn := ⟨2, 2,
    (.cons (.ret (.and (.isi (.var 0) .tuple) (.cmp .eq (.bi .len (.cons (.var 0) .nil)) (.var 1))))
    .nil)⟩
def N_is_tuple_of : List Str := ["thing", "many"]
def row_is_tuple_of : Row := ⟨"is_tuple_of", top 7, N_is_tuple_of, ["thing", "many"], ⟨fns, glb, [], lend, kws, false, excs, subs, shr, false⟩, ir_is_tuple_of⟩
def ir_is_list_of : Fn := ⟨3, 3,
    (.cons (.ret (.and (.isi (.var 0) .list) (.chn .le .le (.var 1) (.bi .len (.cons (.var 0) .nil)) (.var 2))))
    .nil)⟩
def N_is_list_of : List Str := ["thing", "least", "most"]
def row_is_list_of : Row := ⟨"is_list_of", top 8, N_is_list_of, ["thing", "least", "most"], ⟨fns, glb, [], lend, kws, false, excs, subs, shr, false⟩, ir_is_list_of⟩
def ir_is_name : Fn := ⟨1, 2,
    (.cons (.ife (.or (.nott (.call "is_text" (.cons (.var 0) .nil) .frz)) (.nott (.chn .le .le (.k (.int 1)) (.bi .len (.cons (.var 0) .nil)) (.k (.int 8))))) (.cons (.ret (.k (.bl false)))
    .nil) .nil)
    (.cons (.ret (.bi .all (.cons (.lc (.chn .le .le (.k (.str "a".toList)) (.var 1) (.k (.str "z".toList))) [1] (.nm 1) (.any (.var 0)) .no) .nil)))
    .nil))⟩
def N_is_name : List Str := ["thing", "sign"]
def row_is_name : Row := ⟨"is_name", top 16, N_is_name, ["thing"], ⟨fns, glb, [], lend, kws, false, excs, subs, shr, false⟩, ir_is_name⟩
def ir_is_letter : Fn := ⟨1, 1,
    (.cons (.ret (.and (.call "is_name" (.cons (.var 0) .nil) .frz) (.cmp .eq (.bi .len (.cons (.var 0) .nil)) (.k (.int 1)))))
    .nil)⟩
def N_is_letter : List Str := ["thing"]
def row_is_letter : Row := ⟨"is_letter", top 17, N_is_letter, ["thing"], ⟨fns, glb, [], lend, kws, false, excs, subs, shr, false⟩, ir_is_letter⟩
def ir_look_at_book : Fn := ⟨1, 12,
    (.cons (.ife (.nott (.call "is_tuple_of" (.cons (.var 0) (.cons (.k (.int 2)) .nil)) .frz)) (.cons .never
    .nil) .nil)
    (.cons (.asg (.tp [(.nm 1), (.nm 2)]) (.var 0))
    (.cons (.expr (.call "_look_at_kinds" (.cons (.var 1) .nil) .frz))
    (.cons (.asg (.nm 4) (.lc (.var 3) [3, 10] (.tp [(.nm 3), (.nm 10)]) (.any (.var 1)) .no))
    (.cons (.ife (.nott (.call "is_list_of" (.cons (.var 2) (.cons (.k (.int 1)) (.cons (.k (.int 8)) .nil))) .frz)) (.cons .never
    .nil) .nil)
    (.cons (.asg (.nm 5) (.newL .nil))
    (.cons (.for (.tp [(.nm 6), (.nm 7)]) (.enum (.var 2)) (.cons (.expr (.call "_look_at_head" (.cons (.var 6) (.cons (.var 7) (.cons (.var 5) .nil))) .frz))
    (.cons (.asg (.tp [(.nm 3), (.nm 8), (.nm 9)]) (.var 7))
    (.cons (.expr (.mth .append (.var 5) (.cons (.var 3) .nil)))
    (.cons (.expr (.call "_look_at_letters" (.cons (.var 6) (.cons (.var 8) (.cons (.var 4) .nil))) .frz))
    (.cons (.expr (.call "_look_at_steps" (.cons (.var 6) (.cons (.var 9) (.cons (.lc (.var 11) [11, 10] (.tp [(.nm 11), (.nm 10)]) (.any (.var 8)) .no) .nil))) .frz))
    (.cons (.expr (.call "_look_for_idle" (.cons (.var 6) (.cons (.var 8) (.cons (.var 9) .nil))) .frz))
    .nil)))))))
    .nil)))))))⟩
def N_look_at_book : List Str := ["thing", "kinds", "dealings", "name", "kind_names", "names", "at", "dealing", "letters", "steps", "_", "letter"]
def row_look_at_book : Row := ⟨"look_at_book", top 18, N_look_at_book, ["thing"], ⟨fns, glb, ["names"], lend, kws, false, excs, subs, shr, false⟩, ir_look_at_book⟩
def ir__look_at_kinds : Fn := ⟨1, 4,
    (.cons (.ife (.nott (.call "is_list_of" (.cons (.var 0) (.cons (.k (.int 1)) (.cons (.k (.int 6)) .nil))) .frz)) (.cons .never
    .nil) .nil)
    (.cons (.asg (.nm 1) (.newL .nil))
    (.cons (.for (.tp [(.nm 2), (.nm 3)]) (.enum (.var 0)) (.cons (.ife (.or (.nott (.call "_is_kind" (.cons (.var 3) .nil) .frz)) (.cmp .inn (.idx (.var 3) (.k (.int 0))) (.var 1))) (.cons .never
    .nil) .nil)
    (.cons (.expr (.mth .append (.var 1) (.cons (.idx (.var 3) (.k (.int 0))) .nil)))
    .nil)))
    .nil)))⟩
def N__look_at_kinds : List Str := ["kinds", "names", "at", "kind"]
def row__look_at_kinds : Row := ⟨"_look_at_kinds", top 19, N__look_at_kinds, ["kinds"], ⟨fns, glb, ["names"], lend, kws, false, excs, subs, shr, false⟩, ir__look_at_kinds⟩
def ir__is_kind : Fn := ⟨1, 1,
    (.cons (.ret (.and (.call "is_tuple_of" (.cons (.var 0) (.cons (.k (.int 2)) .nil)) .frz) (.and (.call "is_name" (.cons (.idx (.var 0) (.k (.int 0))) .nil) .frz) (.isi (.idx (.var 0) (.k (.int 1))) .bool))))
    .nil)⟩
def N__is_kind : List Str := ["thing"]
def row__is_kind : Row := ⟨"_is_kind", top 20, N__is_kind, ["thing"], ⟨fns, glb, [], lend, kws, false, excs, subs, shr, false⟩, ir__is_kind⟩
def ir__look_at_head : Fn := ⟨3, 3,
    (.cons (.ife (.or (.nott (.call "is_tuple_of" (.cons (.var 1) (.cons (.k (.int 3)) .nil)) .frz)) (.or (.nott (.call "is_name" (.cons (.idx (.var 1) (.k (.int 0))) .nil) .frz)) (.cmp .inn (.idx (.var 1) (.k (.int 0))) (.var 2)))) (.cons .never
    .nil) .nil)
    .nil)⟩
def N__look_at_head : List Str := ["at", "dealing", "names"]
def row__look_at_head : Row := ⟨"_look_at_head", top 21, N__look_at_head, ["at", "dealing", "names"], ⟨fns, glb, [], lend, kws, false, excs, subs, shr, false⟩, ir__look_at_head⟩
def ir__look_at_letters : Fn := ⟨3, 6,
    (.cons (.ife (.nott (.call "is_list_of" (.cons (.var 1) (.cons (.k (.int 1)) (.cons (.k (.int 4)) .nil))) .frz)) (.cons .never
    .nil) .nil)
    (.cons (.asg (.nm 3) (.newL .nil))
    (.cons (.for (.tp [(.nm 4), (.nm 5)]) (.enum (.var 1)) (.cons (.ife (.or (.nott (.call "_is_letter_row" (.cons (.var 5) (.cons (.var 2) .nil)) .frz)) (.cmp .inn (.idx (.var 5) (.k (.int 0))) (.var 3))) (.cons .never
    .nil) .nil)
    (.cons (.expr (.mth .append (.var 3) (.cons (.idx (.var 5) (.k (.int 0))) .nil)))
    .nil)))
    .nil)))⟩
def N__look_at_letters : List Str := ["at", "letters", "kind_names", "seen", "place", "row"]
def row__look_at_letters : Row := ⟨"_look_at_letters", top 22, N__look_at_letters, ["at", "letters", "kind_names"], ⟨fns, glb, ["seen"], lend, kws, false, excs, subs, shr, false⟩, ir__look_at_letters⟩
def ir__is_letter_row : Fn := ⟨2, 2,
    (.cons (.ret (.and (.call "is_tuple_of" (.cons (.var 0) (.cons (.k (.int 2)) .nil)) .frz) (.and (.call "is_letter" (.cons (.idx (.var 0) (.k (.int 0))) .nil) .frz) (.and (.call "is_text" (.cons (.idx (.var 0) (.k (.int 1))) .nil) .frz) (.cmp .inn (.idx (.var 0) (.k (.int 1))) (.var 1))))))
    .nil)⟩
def N__is_letter_row : List Str := ["thing", "kind_names"]
def row__is_letter_row : Row := ⟨"_is_letter_row", top 23, N__is_letter_row, ["thing", "kind_names"], ⟨fns, glb, [], lend, kws, false, excs, subs, shr, false⟩, ir__is_letter_row⟩
def ir__look_at_steps : Fn := ⟨3, 5,
    (.cons (.ife (.nott (.call "is_list_of" (.cons (.var 1) (.cons (.k (.int 1)) (.cons (.k (.int 8)) .nil))) .frz)) (.cons .never
    .nil) .nil)
    (.cons (.for (.tp [(.nm 3), (.nm 4)]) (.enum (.var 1)) (.cons (.ife (.nott (.call "_is_step" (.cons (.var 4) (.cons (.var 2) .nil)) .frz)) (.cons .never
    .nil) .nil)
    .nil))
    .nil))⟩
def N__look_at_steps : List Str := ["at", "steps", "own_letters", "place", "step"]
def row__look_at_steps : Row := ⟨"_look_at_steps", top 24, N__look_at_steps, ["at", "steps", "own_letters"], ⟨fns, glb, [], lend, kws, false, excs, subs, shr, false⟩, ir__look_at_steps⟩
def ir__is_step : Fn := ⟨2, 4,
    (.cons (.ife (.nott (.call "is_tuple_of" (.cons (.var 0) (.cons (.k (.int 2)) .nil)) .frz)) (.cons (.ret (.k (.bl false)))
    .nil) .nil)
    (.cons (.asg (.tp [(.nm 2), (.nm 3)]) (.var 0))
    (.cons (.ret (.and (.call "is_text" (.cons (.var 2) .nil) .frz) (.and (.cmp .inn (.var 2) (.k (.tup [(.str "read".toList), (.str "write".toList), (.str "ask".toList)]))) (.and (.call "is_text" (.cons (.var 3) .nil) .frz) (.cmp .inn (.var 3) (.var 1))))))
    .nil)))⟩
def N__is_step : List Str := ["thing", "own_letters", "deed", "letter"]
def row__is_step : Row := ⟨"_is_step", top 25, N__is_step, ["thing", "own_letters"], ⟨fns, glb, [], lend, kws, false, excs, subs, shr, false⟩, ir__is_step⟩
def ir__look_for_idle : Fn := ⟨3, 7,
    (.cons (.asg (.nm 5) (.lc (.var 4) [3, 4] (.tp [(.nm 3), (.nm 4)]) (.any (.var 2)) .no))
    (.cons (.for (.tp [(.nm 6), (.tp [(.nm 4), (.nm 3)])]) (.enum (.var 1)) (.cons (.ife (.cmp .nin (.var 4) (.var 5)) (.cons .never
    .nil) .nil)
    .nil))
    .nil))⟩
def N__look_for_idle : List Str := ["at", "letters", "steps", "_", "letter", "used", "place"]
def row__look_for_idle : Row := ⟨"_look_for_idle", top 26, N__look_for_idle, ["at", "letters", "steps"], ⟨fns, glb, [], lend, kws, false, excs, subs, shr, false⟩, ir__look_for_idle⟩
def ir_read : Fn := ⟨1, 7,
    (.cons (.ife (.nott (.call "is_text" (.cons (.var 0) .nil) .frz)) (.cons (.raiseF "NoText" "row" (.k (.int 0)))
    .nil) .nil)
    (.cons (.asg (.nm 1) (.newL .nil))
    (.cons (.asg (.nm 2) (.newL .nil))
    (.cons (.for (.tp [(.nm 3), (.nm 4)]) (.enum (.mth .split (.var 0) (.cons (.k (.str ['\n'])) .nil))) (.cons (.asg (.nm 5) (.mth .split (.var 4) (.cons (.k (.str " ".toList)) .nil)))
    (.cons (.ife (.or (.nott (.call "_is_row" (.cons (.var 5) .nil) .frz)) (.nott (.call "_may_stand" (.cons (.idx (.var 5) (.k (.int 0))) (.cons (.var 2) .nil)) .shr))) (.cons (.raiseF "NoText" "row" (.var 3))
    .nil) .nil)
    (.cons (.expr (.call "_put" (.cons (.var 5) (.cons (.var 1) (.cons (.var 2) .nil))) .shr))
    .nil))))
    (.cons (.asg (.nm 6) (.tup (.cons (.var 1) (.cons (.var 2) .nil))))
    (.cons (.expr (.call "look_at_book" (.cons (.var 6) .nil) .frz))
    (.cons (.ret (.var 6))
    .nil)))))))⟩
def N_read : List Str := ["text", "kinds", "dealings", "at", "row", "words", "book"]
def row_read : Row := ⟨"read", top 30, N_read, ["text"], ⟨fns, glb, ["kinds", "dealings"], lend, kws, false, excs, subs, shr, true⟩, ir_read⟩
def ir__is_row : Fn := ⟨1, 2,
    (.cons (.ife (.cmp .inn (.k (.str [])) (.var 0)) (.cons (.ret (.k (.bl false)))
    .nil) .nil)
    (.cons (.ife (.cmp .eq (.idx (.var 0) (.k (.int 0))) (.k (.str "kind".toList))) (.cons (.ret (.and (.cmp .eq (.bi .len (.cons (.var 0) .nil)) (.k (.int 3))) (.cmp .inn (.idx (.var 0) (.k (.int 2))) (.tup (.cons (.k (.str "many".toList)) (.cons (.k (.str "one".toList)) .nil))))))
    .nil) .nil)
    (.cons (.ife (.cmp .eq (.idx (.var 0) (.k (.int 0))) (.k (.str "deal".toList))) (.cons (.ret (.and (.cmp .ge (.bi .len (.cons (.var 0) .nil)) (.k (.int 3))) (.bi .all (.cons (.lc (.call "_is_letter_word" (.cons (.var 1) .nil) .frz) [1] (.nm 1) (.any (.slc (.var 0) (.yes (.k (.int 2))) .no)) .no) .nil))))
    .nil) .nil)
    (.cons (.ret (.and (.cmp .inn (.idx (.var 0) (.k (.int 0))) (.k (.tup [(.str "read".toList), (.str "write".toList), (.str "ask".toList)]))) (.cmp .eq (.bi .len (.cons (.var 0) .nil)) (.k (.int 2)))))
    .nil))))⟩
def N__is_row : List Str := ["words", "word"]
def row__is_row : Row := ⟨"_is_row", top 31, N__is_row, ["words"], ⟨fns, glb, [], lend, kws, false, excs, subs, shr, false⟩, ir__is_row⟩
def ir__is_letter_word : Fn := ⟨1, 1,
    (.cons (.ret (.and (.cmp .eq (.mth .count (.var 0) (.cons (.k (.str ":".toList)) .nil)) (.k (.int 1))) (.and (.nott (.mth .starts (.var 0) (.cons (.k (.str ":".toList)) .nil))) (.nott (.mth .ends (.var 0) (.cons (.k (.str ":".toList)) .nil))))))
    .nil)⟩
def N__is_letter_word : List Str := ["word"]
def row__is_letter_word : Row := ⟨"_is_letter_word", top 32, N__is_letter_word, ["word"], ⟨fns, glb, [], lend, kws, false, excs, subs, shr, false⟩, ir__is_letter_word⟩
def ir__may_stand : Fn := ⟨2, 2,
    (.cons (.ife (.cmp .eq (.var 0) (.k (.str "kind".toList))) (.cons (.ret (.cmp .eq (.bi .len (.cons (.var 1) .nil)) (.k (.int 0))))
    .nil) .nil)
    (.cons (.ret (.or (.cmp .eq (.var 0) (.k (.str "deal".toList))) (.cmp .gt (.bi .len (.cons (.var 1) .nil)) (.k (.int 0)))))
    .nil))⟩
def N__may_stand : List Str := ["first", "dealings"]
def row__may_stand : Row := ⟨"_may_stand", top 33, N__may_stand, ["first", "dealings"], ⟨fns, glb, [], lend, kws, false, excs, subs, shr, false⟩, ir__may_stand⟩
def ir__put : Fn := ⟨3, 4,
    (.cons (.ife (.cmp .eq (.idx (.var 0) (.k (.int 0))) (.k (.str "kind".toList))) (.cons (.expr (.mth .append (.var 1) (.cons (.tup (.cons (.idx (.var 0) (.k (.int 1))) (.cons (.cmp .eq (.idx (.var 0) (.k (.int 2))) (.k (.str "many".toList))) .nil))) .nil)))
    .nil) (.cons (.ife (.cmp .eq (.idx (.var 0) (.k (.int 0))) (.k (.str "deal".toList))) (.cons (.expr (.mth .append (.var 2) (.cons (.tup (.cons (.idx (.var 0) (.k (.int 1))) (.cons (.lcR (.call "_letter_of" (.cons (.var 3) .nil) .keep) [3] (.nm 3) (.any (.slc (.var 0) (.yes (.k (.int 2))) .no)) .no) (.cons (.newL .nil) .nil)))) .nil)))
    .nil) (.cons (.expr (.mth .append (.idx (.idx (.var 2) (.neg (.k (.int 1)))) (.k (.int 2))) (.cons (.tup (.cons (.idx (.var 0) (.k (.int 0))) (.cons (.idx (.var 0) (.k (.int 1))) .nil))) .nil)))
    .nil))
    .nil))
    .nil)⟩
def N__put : List Str := ["words", "kinds", "dealings", "word"]
def row__put : Row := ⟨"_put", top 34, N__put, ["words", "kinds", "dealings"], ⟨fns, glb, [], lend, kws, false, excs, subs, shr, true⟩, ir__put⟩
def ir__letter_of : Fn := ⟨1, 4,
    (.cons (.asg (.tp [(.nm 1), (.nm 2), (.nm 3)]) (.mth .part (.var 0) (.cons (.k (.str ":".toList)) .nil)))
    (.cons (.ret (.tup (.cons (.var 1) (.cons (.var 3) .nil))))
    .nil))⟩
def N__letter_of : List Str := ["word", "letter", "_", "kind"]
def row__letter_of : Row := ⟨"_letter_of", top 35, N__letter_of, ["word"], ⟨fns, glb, [], lend, kws, false, excs, subs, shr, false⟩, ir__letter_of⟩
def ir__law_pool : Fn := ⟨2, 5,
    (.cons (.asg (.nm 2) (.k (.int 0)))
    (.cons (.ife (.cmp .lt (.var 1) (.bi .len (.cons (.var 0) .nil))) (.cons (.asg (.nm 2) (.idx (.var 0) (.var 1)))
    .nil) .nil)
    (.cons (.asg (.nm 3) (.bi .max2 (.cons (.var 2) (.cons (.bin .sub (.neg (.k (.int 1))) (.var 2)) .nil))))
    (.cons (.asg (.nm 4) (.bin .mod (.bin .mul (.bin .add (.bin .add (.bin .add (.bin .mod (.var 3) (.k (.int 2147483629))) (.bin .mul (.bin .mul (.k (.int 7919)) (.var 1)) (.var 1))) (.bin .mul (.k (.int 31)) (.var 1))) (.k (.int 17))) (.k (.int 48271))) (.k (.int 2147483647))))
    (.cons (.ret (.newL (.cons (.bin .mul (.var 3) (.bi .int1 (.cons (.cmp .ge (.var 3) (.bin .pow (.k (.int 10)) (.k (.int 18)))) .nil))) (.cons (.var 4) .nil))))
    .nil)))))⟩
def N__law_pool : List Str := ["_law_script", "_law_k", "_law_cell", "_law_size", "_law_mixed"]
def row__law_pool : Row := ⟨"_law_pool", top 37, N__law_pool, ["_law_script", "_law_k"], ⟨fns, glb, [], lend, kws, true, excs, subs, shr, false⟩, ir__law_pool⟩
def ir__law_draw : Fn := ⟨2, 3,
    (.cons (.ife (.cmp .gt (.idx (.var 0) (.k (.int 0))) (.k (.int 0))) (.cons (.asg (.nm 2) (.bin .mod (.idx (.var 0) (.k (.int 0))) (.var 1)))
    (.cons (.setI (.var 0) (.k (.int 0)) (.bin .fdiv (.idx (.var 0) (.k (.int 0))) (.var 1)))
    (.cons (.ret (.var 2))
    .nil))) .nil)
    (.cons (.setI (.var 0) (.k (.int 1)) (.bin .mod (.bin .add (.bin .mul (.idx (.var 0) (.k (.int 1))) (.k (.int 69621))) (.k (.int 7))) (.k (.int 2147483647))))
    (.cons (.ret (.bin .mod (.bin .fdiv (.bin .mod (.bin .mul (.idx (.var 0) (.k (.int 1))) (.idx (.var 0) (.k (.int 1)))) (.k (.int 2147483629))) (.k (.int 32))) (.var 1)))
    .nil)))⟩
def N__law_draw : List Str := ["_law_pool_here", "_law_many", "_law_found"]
def row__law_draw : Row := ⟨"_law_draw", top 38, N__law_draw, ["_law_pool_here", "_law_many"], ⟨fns, glb, [], lend, kws, false, excs, subs, shr, false⟩, ir__law_draw⟩
def ir__law_names : Fn := ⟨2, 11,
    (.cons (.asg (.nm 2) (.k (.str "abcdefghijklmnopqrstuvwxyz".toList)))
    (.cons (.asg (.nm 3) (.newL .nil))
    (.cons (.for (.nm 4) (.rng1 (.var 1)) (.cons (.asg (.nm 5) (.bin .add (.k (.int 1)) (.bin .mul (.call "_law_draw" (.cons (.var 0) (.cons (.k (.int 2)) .nil)) .lend) (.call "_law_draw" (.cons (.var 0) (.cons (.k (.int 8)) .nil)) .lend))))
    (.cons (.asg (.nm 6) (.mth .join (.k (.str [])) (.cons (.lc (.idx (.var 2) (.call "_law_draw" (.cons (.var 0) (.cons (.k (.int 26)) .nil)) .lend)) [8] (.nm 8) (.rng1 (.var 5)) .no) .nil)))
    (.cons (.asg (.nm 7) (.bin .add (.lst (.cons (.var 6) .nil)) (.lc (.bin .add (.slc (.var 6) .no (.yes (.neg (.k (.int 1))))) (.var 9)) [9] (.nm 9) (.any (.var 2)) .no)))
    (.cons (.expr (.mth .append (.var 3) (.cons (.idx (.lc (.var 10) [10] (.nm 10) (.any (.var 7)) (.yes (.cmp .nin (.var 10) (.var 3)))) (.k (.int 0))) .nil)))
    .nil)))))
    (.cons (.ret (.var 3))
    .nil))))⟩
def N__law_names : List Str := ["_law_pool_here", "_law_many", "_law_letters", "_law_found", "_law_k", "_law_size", "_law_name", "_law_some", "_law_at", "_law_letter", "_law_one"]
def row__law_names : Row := ⟨"_law_names", top 39, N__law_names, ["_law_pool_here", "_law_many"], ⟨fns, glb, ["_law_found"], lend, kws, false, excs, subs, shr, false⟩, ir__law_names⟩
def ir__law_book : Fn := ⟨3, 10,
    (.cons (.asg (.nm 3) (.call "_law_names" (.cons (.var 0) (.cons (.bin .add (.k (.int 1)) (.call "_law_draw" (.cons (.var 0) (.cons (.var 1) .nil)) .lend)) .nil)) .lend))
    (.cons (.asg (.nm 5) (.lc (.tup (.cons (.var 4) (.cons (.cmp .gt (.call "_law_draw" (.cons (.var 0) (.cons (.k (.int 3)) .nil)) .lend) (.k (.int 0))) .nil))) [4] (.nm 4) (.any (.var 3)) .no))
    (.cons (.asg (.nm 6) (.newL .nil))
    (.cons (.for (.nm 4) (.any (.call "_law_names" (.cons (.var 0) (.cons (.bin .add (.k (.int 1)) (.call "_law_draw" (.cons (.var 0) (.cons (.var 2) .nil)) .lend)) .nil)) .lend)) (.cons (.asg (.nm 7) (.call "_law_marks" (.cons (.var 0) (.cons (.bin .add (.k (.int 1)) (.call "_law_draw" (.cons (.var 0) (.cons (.k (.int 4)) .nil)) .lend)) .nil)) .lend))
    (.cons (.asg (.nm 8) (.lc (.tup (.cons (.var 9) (.cons (.idx (.var 3) (.call "_law_draw" (.cons (.var 0) (.cons (.bi .len (.cons (.var 3) .nil)) .nil)) .lend)) .nil))) [9] (.nm 9) (.any (.var 7)) .no))
    (.cons (.expr (.mth .append (.var 6) (.cons (.tup (.cons (.var 4) (.cons (.var 8) (.cons (.call "_law_steps" (.cons (.var 0) (.cons (.var 7) .nil)) .lend) .nil)))) .nil)))
    .nil))))
    (.cons (.ret (.tup (.cons (.var 5) (.cons (.var 6) .nil))))
    .nil)))))⟩
def N__law_book : List Str := ["_law_pool_here", "_law_most_kinds", "_law_most_dealings", "_law_names_here", "_law_name", "_law_kinds", "_law_dealings", "_law_marks_here", "_law_letters", "_law_mark"]
def row__law_book : Row := ⟨"_law_book", top 40, N__law_book, ["_law_pool_here", "_law_most_kinds", "_law_most_dealings"], ⟨fns, glb, ["_law_dealings"], lend, kws, false, excs, subs, shr, false⟩, ir__law_book⟩
def ir__law_marks : Fn := ⟨2, 6,
    (.cons (.asg (.nm 2) (.k (.str "abcdefghijklmnopqrstuvwxyz".toList)))
    (.cons (.asg (.nm 3) (.newL .nil))
    (.cons (.for (.nm 4) (.rng1 (.var 1)) (.cons (.take 5 2 "_law_draw" (.var 0))
    (.cons (.expr (.mth .append (.var 3) (.cons (.var 5) .nil)))
    .nil)))
    (.cons (.ret (.var 3))
    .nil))))⟩
def N__law_marks : List Str := ["_law_pool_here", "_law_many", "_law_left", "_law_found", "_law_k", "_law_mark"]
def row__law_marks : Row := ⟨"_law_marks", top 41, N__law_marks, ["_law_pool_here", "_law_many"], ⟨fns, glb, ["_law_found"], lend, kws, false, excs, subs, shr, false⟩, ir__law_marks⟩
def ir__law_steps : Fn := ⟨2, 7,
    (.cons (.asg (.nm 2) (.newL .nil))
    (.cons (.asg (.nm 3) (.lc (.idx (.var 1) (.call "_law_draw" (.cons (.var 0) (.cons (.bi .len (.cons (.var 1) .nil)) .nil)) .lend)) [6] (.nm 6) (.rng1 (.call "_law_draw" (.cons (.var 0) (.cons (.k (.int 5)) .nil)) .lend)) .no))
    (.cons (.for (.nm 4) (.any (.bin .add (.var 1) (.var 3))) (.cons (.asg (.nm 5) (.idx (.lst (.cons (.k (.str "read".toList)) (.cons (.k (.str "read".toList)) (.cons (.k (.str "read".toList)) (.cons (.k (.str "write".toList)) (.cons (.k (.str "write".toList)) (.cons (.k (.str "ask".toList)) .nil))))))) (.call "_law_draw" (.cons (.var 0) (.cons (.k (.int 6)) .nil)) .lend)))
    (.cons (.expr (.mth .insert (.var 2) (.cons (.call "_law_draw" (.cons (.var 0) (.cons (.bin .add (.bi .len (.cons (.var 2) .nil)) (.k (.int 1))) .nil)) .lend) (.cons (.tup (.cons (.var 5) (.cons (.var 4) .nil))) .nil))))
    .nil)))
    (.cons (.ret (.var 2))
    .nil))))⟩
def N__law_steps : List Str := ["_law_pool_here", "_law_marks_here", "_law_found", "_law_more", "_law_mark", "_law_deed", "_law_k"]
def row__law_steps : Row := ⟨"_law_steps", top 42, N__law_steps, ["_law_pool_here", "_law_marks_here"], ⟨fns, glb, ["_law_found"], lend, kws, false, excs, subs, shr, false⟩, ir__law_steps⟩
def ir__law_shown : Fn := ⟨1, 10,
    (.cons (.asg (.nm 1) (.newL .nil))
    (.cons (.for (.tp [(.nm 2), (.nm 3)]) (.any (.idx (.var 0) (.k (.int 0)))) (.cons (.expr (.mth .append (.var 1) (.cons (.bin .add (.bin .add (.k (.str "kind ".toList)) (.var 2)) (.idx (.lst (.cons (.k (.str " one".toList)) (.cons (.k (.str " many".toList)) .nil))) (.bi .int1 (.cons (.var 3) .nil)))) .nil)))
    .nil))
    (.cons (.for (.tp [(.nm 4), (.nm 5), (.nm 6)]) (.any (.idx (.var 0) (.k (.int 1)))) (.cons (.asg (.nm 7) (.bin .add (.k (.str "deal ".toList)) (.var 4)))
    (.cons (.for (.tp [(.nm 8), (.nm 2)]) (.any (.var 5)) (.cons (.asg (.nm 7) (.bin .add (.bin .add (.bin .add (.bin .add (.var 7) (.k (.str " ".toList))) (.var 8)) (.k (.str ":".toList))) (.var 2)))
    .nil))
    (.cons (.expr (.mth .append (.var 1) (.cons (.var 7) .nil)))
    (.cons (.asg (.nm 1) (.alloc (.bin .add (.var 1) (.lc (.bin .add (.bin .add (.var 9) (.k (.str " ".toList))) (.var 8)) [9, 8] (.tp [(.nm 9), (.nm 8)]) (.any (.var 6)) .no))))
    .nil)))))
    (.cons (.ret (.var 1))
    .nil))))⟩
def N__law_shown : List Str := ["_law_book_here", "_law_rows", "_law_kind", "_law_many", "_law_name", "_law_letters", "_law_steps_here", "_law_row_here", "_law_letter", "_law_deed"]
def row__law_shown : Row := ⟨"_law_shown", top 43, N__law_shown, ["_law_book_here"], ⟨fns, glb, ["_law_rows"], lend, kws, false, excs, subs, shr, false⟩, ir__law_shown⟩
def ir__law_row : Fn := ⟨1, 3,
    (.cons (.asg (.nm 1) (.k .non))
    (.cons (.tryK 2 1 (.cons (.expr (.call "read" (.cons (.var 0) .nil) .shr))
    .nil) ["NoBook", "NoText"])
    (.cons (.ife (.or (.cmp .isN (.var 1) (.k .non)) (.or (.nott (.isx (.var 1) [("NoBook", false), ("NoText", true)])) (.or (.nott (.isx (.var 1) [("NoBook", true), ("NoText", true)])) (.isx (.var 1) [("NoBook", true), ("NoText", false)])))) (.cons (.ret (.k .non))
    .nil) .nil)
    (.cons (.ret (.fld (.var 1) "row" ["NoText"]))
    .nil))))⟩
def N__law_row : List Str := ["_law_thing", "_law_kept", "e"]
def row__law_row : Row := ⟨"_law_row", top 44, N__law_row, ["_law_thing"], ⟨fns, glb, [], lend, kws, false, excs, subs, shr, false⟩, ir__law_row⟩
def ir_law : Fn := ⟨1, 8,
    (.cons (.for (.nm 1) (.rng1 (.bi .max2 (.cons (.k (.int 1)) (.cons (.bi .min2 (.cons (.k (.int 30)) (.cons (.bi .len (.cons (.var 0) .nil)) .nil))) .nil)))) (.cons (.asg (.nm 2) (.call "_law_pool" (.cons (.var 0) (.cons (.var 1) .nil)) .keep))
    (.cons (.asg (.nm 3) (.call "_law_book" (.cons (.var 2) (.cons (.k (.int 6)) (.cons (.k (.int 8)) .nil))) .lend))
    (.cons (.asg (.nm 4) (.call "_law_shown" (.cons (.var 3) .nil) .frz))
    (.cons (.asg (.nm 5) (.mth .join (.k (.str ['\n'])) (.cons (.var 4) .nil)))
    (.cons (.for (.nm 6) (.any (.lst (.cons (.k .non) (.cons (.k (.int 0)) (.cons (.k (.bl true)) (.cons (.var 4) (.cons (.tup (.cons (.var 5) .nil)) (.cons .dict0 (.cons (.lst (.cons (.var 5) .nil)) (.cons (.k (.str [])) (.cons (.k (.str " ".toList)) (.cons (.k (.str ['\n'])) (.cons (.bin .add (.k (.str ['\n'])) (.var 5)) (.cons (.k (.str "kind".toList)) (.cons (.k (.str "read a".toList)) (.cons (.k (.str "deal a".toList)) .nil)))))))))))))))) (.cons (.ife (.cmp .ne (.call "_law_row" (.cons (.var 6) .nil) .shr) (.k (.int 0))) (.cons (.ret (.k (.bl false)))
    .nil) .nil)
    .nil))
    (.cons (.asg (.nm 7) (.call "_law_draw" (.cons (.var 2) (.cons (.bi .len (.cons (.var 4) .nil)) .nil)) .lend))
    (.cons (.ife (.or (.cmp .ne (.call "_law_row" (.cons (.bin .add (.var 5) (.k (.str ['\n']))) .nil) .shr) (.bi .len (.cons (.var 4) .nil))) (.cmp .ne (.call "_law_row" (.cons (.mth .join (.k (.str ['\n'])) (.cons (.bin .add (.bin .add (.slc (.var 4) .no (.yes (.bin .add (.var 7) (.k (.int 1))))) (.lst (.cons (.k (.str [])) .nil))) (.slc (.var 4) (.yes (.bin .add (.var 7) (.k (.int 1)))) .no)) .nil)) .nil) .shr) (.bin .add (.var 7) (.k (.int 1))))) (.cons (.ret (.k (.bl false)))
    .nil) .nil)
    (.cons (.ife (.cmp .ne (.call "read" (.cons (.var 5) .nil) .shr) (.var 3)) (.cons (.ret (.k (.bl false)))
    .nil) .nil)
    .nil)))))))))
    (.cons (.ret (.k (.bl true)))
    .nil))⟩
def N_law : List Str := ["_law_script", "_law_k", "_law_pool_here", "_law_book_here", "_law_rows", "_law_text", "_law_thing", "_law_at"]
def row_law : Row := ⟨"law", top 45, N_law, ["_law_script"], ⟨fns, glb, ["_law_pool_here"], lend, kws, false, excs, subs, shr, false⟩, ir_law⟩
def tb : Tb := fun f => if f = "is_text" then some ir_is_text else if f = "is_tuple_of" then some ir_is_tuple_of else if f = "is_list_of" then some ir_is_list_of else if f = "is_name" then some ir_is_name else if f = "is_letter" then some ir_is_letter else if f = "look_at_book" then some ir_look_at_book else if f = "_look_at_kinds" then some ir__look_at_kinds else if f = "_is_kind" then some ir__is_kind else if f = "_look_at_head" then some ir__look_at_head else if f = "_look_at_letters" then some ir__look_at_letters else if f = "_is_letter_row" then some ir__is_letter_row else if f = "_look_at_steps" then some ir__look_at_steps else if f = "_is_step" then some ir__is_step else if f = "_look_for_idle" then some ir__look_for_idle else if f = "read" then some ir_read else if f = "_is_row" then some ir__is_row else if f = "_is_letter_word" then some ir__is_letter_word else if f = "_may_stand" then some ir__may_stand else if f = "_put" then some ir__put else if f = "_letter_of" then some ir__letter_of else if f = "_law_pool" then some ir__law_pool else if f = "_law_draw" then some ir__law_draw else if f = "_law_names" then some ir__law_names else if f = "_law_book" then some ir__law_book else if f = "_law_marks" then some ir__law_marks else if f = "_law_steps" then some ir__law_steps else if f = "_law_shown" then some ir__law_shown else if f = "_law_row" then some ir__law_row else if f = "law" then some ir_law else none
def rows : List Row := [row_is_text, row_is_tuple_of, row_is_list_of, row_is_name, row_is_letter, row_look_at_book, row__look_at_kinds, row__is_kind, row__look_at_head, row__look_at_letters, row__is_letter_row, row__look_at_steps, row__is_step, row__look_for_idle, row_read, row__is_row, row__is_letter_word, row__may_stand, row__put, row__letter_of, row__law_pool, row__law_draw, row__law_names, row__law_book, row__law_marks, row__law_steps, row__law_shown, row__law_row]
theorem ok_is_text : row_is_text.Ok txt tb := ⟨rfl, rfl, rfl, rfl, rfl, fun _ h => absurd h List.not_mem_nil, ⟨rfl, rfl, rfl, by decide +kernel, rfl, by decide +kernel, by decide +kernel⟩, rfl, rfl, rfl, fun _ _ _ _ _ _ us hl => match us, hl with | [_], _ => rfl⟩
theorem ok_is_tuple_of : row_is_tuple_of.Ok txt tb := ⟨rfl, rfl, rfl, rfl, rfl, fun _ h => absurd h List.not_mem_nil, ⟨rfl, rfl, rfl, by decide +kernel, rfl, by decide +kernel, by decide +kernel⟩, rfl, rfl, rfl, fun _ _ _ _ _ _ us hl => match us, hl with | [_, _], _ => rfl⟩
theorem ok_is_list_of : row_is_list_of.Ok txt tb := ⟨rfl, rfl, rfl, rfl, rfl, fun _ h => absurd h List.not_mem_nil, ⟨rfl, rfl, rfl, by decide +kernel, rfl, by decide +kernel, by decide +kernel⟩, rfl, rfl, rfl, fun _ _ _ _ _ _ us hl => match us, hl with | [_, _, _], _ => rfl⟩
theorem ok_is_name : row_is_name.Ok txt tb := ⟨rfl, rfl, rfl, rfl, rfl, fun _ h => absurd h List.not_mem_nil, ⟨rfl, rfl, rfl, by decide +kernel, rfl, by decide +kernel, by decide +kernel⟩, rfl, rfl, rfl, fun _ _ _ _ _ _ us hl => match us, hl with | [_], _ => rfl⟩
theorem ok_is_letter : row_is_letter.Ok txt tb := ⟨rfl, rfl, rfl, rfl, rfl, fun _ h => absurd h List.not_mem_nil, ⟨rfl, rfl, rfl, by decide +kernel, rfl, by decide +kernel, by decide +kernel⟩, rfl, rfl, rfl, fun _ _ _ _ _ _ us hl => match us, hl with | [_], _ => rfl⟩
theorem ok_look_at_book : row_look_at_book.Ok txt tb := ⟨rfl, rfl, rfl, rfl, rfl, fun _ h => absurd h List.not_mem_nil, ⟨rfl, rfl, rfl, by decide +kernel, rfl, by decide +kernel, by decide +kernel⟩, rfl, rfl, rfl, fun _ _ _ _ _ _ us hl => match us, hl with | [_], _ => rfl⟩
theorem ok__look_at_kinds : row__look_at_kinds.Ok txt tb := ⟨rfl, rfl, rfl, rfl, rfl, fun _ h => absurd h List.not_mem_nil, ⟨rfl, rfl, rfl, by decide +kernel, rfl, by decide +kernel, by decide +kernel⟩, rfl, rfl, rfl, fun _ _ _ _ _ _ us hl => match us, hl with | [_], _ => rfl⟩
theorem ok__is_kind : row__is_kind.Ok txt tb := ⟨rfl, rfl, rfl, rfl, rfl, fun _ h => absurd h List.not_mem_nil, ⟨rfl, rfl, rfl, by decide +kernel, rfl, by decide +kernel, by decide +kernel⟩, rfl, rfl, rfl, fun _ _ _ _ _ _ us hl => match us, hl with | [_], _ => rfl⟩
theorem ok__look_at_head : row__look_at_head.Ok txt tb := ⟨rfl, rfl, rfl, rfl, rfl, fun _ h => absurd h List.not_mem_nil, ⟨rfl, rfl, rfl, by decide +kernel, rfl, by decide +kernel, by decide +kernel⟩, rfl, rfl, rfl, fun _ _ _ _ _ _ us hl => match us, hl with | [_, _, _], _ => rfl⟩
theorem ok__look_at_letters : row__look_at_letters.Ok txt tb := ⟨rfl, rfl, rfl, rfl, rfl, fun _ h => absurd h List.not_mem_nil, ⟨rfl, rfl, rfl, by decide +kernel, rfl, by decide +kernel, by decide +kernel⟩, rfl, rfl, rfl, fun _ _ _ _ _ _ us hl => match us, hl with | [_, _, _], _ => rfl⟩
theorem ok__is_letter_row : row__is_letter_row.Ok txt tb := ⟨rfl, rfl, rfl, rfl, rfl, fun _ h => absurd h List.not_mem_nil, ⟨rfl, rfl, rfl, by decide +kernel, rfl, by decide +kernel, by decide +kernel⟩, rfl, rfl, rfl, fun _ _ _ _ _ _ us hl => match us, hl with | [_, _], _ => rfl⟩
theorem ok__look_at_steps : row__look_at_steps.Ok txt tb := ⟨rfl, rfl, rfl, rfl, rfl, fun _ h => absurd h List.not_mem_nil, ⟨rfl, rfl, rfl, by decide +kernel, rfl, by decide +kernel, by decide +kernel⟩, rfl, rfl, rfl, fun _ _ _ _ _ _ us hl => match us, hl with | [_, _, _], _ => rfl⟩
theorem ok__is_step : row__is_step.Ok txt tb := ⟨rfl, rfl, rfl, rfl, rfl, fun _ h => absurd h List.not_mem_nil, ⟨rfl, rfl, rfl, by decide +kernel, rfl, by decide +kernel, by decide +kernel⟩, rfl, rfl, rfl, fun _ _ _ _ _ _ us hl => match us, hl with | [_, _], _ => rfl⟩
theorem ok__look_for_idle : row__look_for_idle.Ok txt tb := ⟨rfl, rfl, rfl, rfl, rfl, fun _ h => absurd h List.not_mem_nil, ⟨rfl, rfl, rfl, by decide +kernel, rfl, by decide +kernel, by decide +kernel⟩, rfl, rfl, rfl, fun _ _ _ _ _ _ us hl => match us, hl with | [_, _, _], _ => rfl⟩
theorem ok_read : row_read.Ok txt tb := ⟨rfl, rfl, rfl, rfl, rfl, fun _ h => absurd h List.not_mem_nil, ⟨rfl, rfl, rfl, by decide +kernel, rfl, by decide +kernel, by decide +kernel⟩, rfl, rfl, rfl, fun _ _ _ _ _ _ us hl => match us, hl with | [_], _ => rfl⟩
theorem ok__is_row : row__is_row.Ok txt tb := ⟨rfl, rfl, rfl, rfl, rfl, fun _ h => absurd h List.not_mem_nil, ⟨rfl, rfl, rfl, by decide +kernel, rfl, by decide +kernel, by decide +kernel⟩, rfl, rfl, rfl, fun _ _ _ _ _ _ us hl => match us, hl with | [_], _ => rfl⟩
theorem ok__is_letter_word : row__is_letter_word.Ok txt tb := ⟨rfl, rfl, rfl, rfl, rfl, fun _ h => absurd h List.not_mem_nil, ⟨rfl, rfl, rfl, by decide +kernel, rfl, by decide +kernel, by decide +kernel⟩, rfl, rfl, rfl, fun _ _ _ _ _ _ us hl => match us, hl with | [_], _ => rfl⟩
theorem ok__may_stand : row__may_stand.Ok txt tb := ⟨rfl, rfl, rfl, rfl, rfl, fun _ h => absurd h List.not_mem_nil, ⟨rfl, rfl, rfl, by decide +kernel, rfl, by decide +kernel, by decide +kernel⟩, rfl, rfl, rfl, fun _ _ _ _ _ _ us hl => match us, hl with | [_, _], _ => rfl⟩
theorem ok__put : row__put.Ok txt tb := ⟨rfl, rfl, rfl, rfl, rfl, fun _ h => absurd h List.not_mem_nil, ⟨rfl, rfl, rfl, by decide +kernel, rfl, by decide +kernel, by decide +kernel⟩, rfl, rfl, rfl, fun _ _ _ _ _ _ us hl => match us, hl with | [_, _, _], _ => rfl⟩
theorem ok__letter_of : row__letter_of.Ok txt tb := ⟨rfl, rfl, rfl, rfl, rfl, fun _ h => absurd h List.not_mem_nil, ⟨rfl, rfl, rfl, by decide +kernel, rfl, by decide +kernel, by decide +kernel⟩, rfl, rfl, rfl, fun _ _ _ _ _ _ us hl => match us, hl with | [_], _ => rfl⟩
theorem ok__law_pool : row__law_pool.Ok txt tb := ⟨rfl, rfl, rfl, rfl, rfl, fun _ h => absurd h List.not_mem_nil, ⟨rfl, rfl, rfl, by decide +kernel, rfl, by decide +kernel, by decide +kernel⟩, rfl, rfl, rfl, fun _ _ _ _ _ _ us hl => match us, hl with | [_, _], _ => rfl⟩
theorem ok__law_draw : row__law_draw.Ok txt tb := ⟨rfl, rfl, rfl, rfl, rfl, fun _ h => absurd h List.not_mem_nil, ⟨rfl, rfl, rfl, by decide +kernel, rfl, by decide +kernel, by decide +kernel⟩, rfl, rfl, rfl, fun _ _ _ _ _ _ us hl => match us, hl with | [_, _], _ => rfl⟩
theorem ok__law_names : row__law_names.Ok txt tb := ⟨rfl, rfl, rfl, rfl, rfl, fun _ h => absurd h List.not_mem_nil, ⟨rfl, rfl, rfl, by decide +kernel, rfl, by decide +kernel, by decide +kernel⟩, rfl, rfl, rfl, fun _ _ _ _ _ _ us hl => match us, hl with | [_, _], _ => rfl⟩
theorem ok__law_book : row__law_book.Ok txt tb := ⟨rfl, rfl, rfl, rfl, rfl, fun _ h => absurd h List.not_mem_nil, ⟨rfl, rfl, rfl, by decide +kernel, rfl, by decide +kernel, by decide +kernel⟩, rfl, rfl, rfl, fun _ _ _ _ _ _ us hl => match us, hl with | [_, _, _], _ => rfl⟩
theorem ok__law_marks : row__law_marks.Ok txt tb := ⟨rfl, rfl, rfl, rfl, rfl, fun _ h => absurd h List.not_mem_nil, ⟨rfl, rfl, rfl, by decide +kernel, rfl, by decide +kernel, by decide +kernel⟩, rfl, rfl, rfl, fun _ _ _ _ _ _ us hl => match us, hl with | [_, _], _ => rfl⟩
theorem ok__law_steps : row__law_steps.Ok txt tb := ⟨rfl, rfl, rfl, rfl, rfl, fun _ h => absurd h List.not_mem_nil, ⟨rfl, rfl, rfl, by decide +kernel, rfl, by decide +kernel, by decide +kernel⟩, rfl, rfl, rfl, fun _ _ _ _ _ _ us hl => match us, hl with | [_, _], _ => rfl⟩
theorem ok__law_shown : row__law_shown.Ok txt tb := ⟨rfl, rfl, rfl, rfl, rfl, fun _ h => absurd h List.not_mem_nil, ⟨rfl, rfl, rfl, by decide +kernel, rfl, by decide +kernel, by decide +kernel⟩, rfl, rfl, rfl, fun _ _ _ _ _ _ us hl => match us, hl with | [_], _ => rfl⟩
theorem ok__law_row : row__law_row.Ok txt tb := ⟨rfl, rfl, rfl, rfl, rfl, fun _ h => absurd h List.not_mem_nil, ⟨rfl, rfl, rfl, by decide +kernel, rfl, by decide +kernel, by decide +kernel⟩, rfl, rfl, rfl, fun _ _ _ _ _ _ us hl => match us, hl with | [_], _ => rfl⟩
theorem ok_law : row_law.Ok txt tb := ⟨rfl, rfl, rfl, rfl, rfl, fun _ h => absurd h List.not_mem_nil, ⟨rfl, rfl, rfl, by decide +kernel, rfl, by decide +kernel, by decide +kernel⟩, rfl, rfl, rfl, fun _ _ _ _ _ _ us hl => match us, hl with | [_], _ => rfl⟩
theorem oks : ∀ r ∈ rows, r.Ok txt tb := by
  intro r hr
  unfold rows at hr
  simp only [List.mem_cons, List.not_mem_nil, or_false] at hr
  rcases hr with rfl | rfl | rfl | rfl | rfl | rfl | rfl | rfl | rfl | rfl | rfl | rfl | rfl | rfl | rfl | rfl | rfl | rfl | rfl | rfl | rfl | rfl | rfl | rfl | rfl | rfl | rfl | rfl
  · exact ok_is_text
  · exact ok_is_tuple_of
  · exact ok_is_list_of
  · exact ok_is_name
  · exact ok_is_letter
  · exact ok_look_at_book
  · exact ok__look_at_kinds
  · exact ok__is_kind
  · exact ok__look_at_head
  · exact ok__look_at_letters
  · exact ok__is_letter_row
  · exact ok__look_at_steps
  · exact ok__is_step
  · exact ok__look_for_idle
  · exact ok_read
  · exact ok__is_row
  · exact ok__is_letter_word
  · exact ok__may_stand
  · exact ok__put
  · exact ok__letter_of
  · exact ok__law_pool
  · exact ok__law_draw
  · exact ok__law_names
  · exact ok__law_book
  · exact ok__law_marks
  · exact ok__law_steps
  · exact ok__law_shown
  · exact ok__law_row
theorem nms : ∀ f ∈ txt.fns, ∃ r ∈ rows, r.f = f := by
  intro f hf
  unfold txt fns at hf
  simp only [List.mem_cons, List.not_mem_nil, or_false] at hf
  unfold rows
  rcases hf with rfl | rfl | rfl | rfl | rfl | rfl | rfl | rfl | rfl | rfl | rfl | rfl | rfl | rfl | rfl | rfl | rfl | rfl | rfl | rfl | rfl | rfl | rfl | rfl | rfl | rfl | rfl | rfl
  · exact ⟨row_is_text, by simp, rfl⟩
  · exact ⟨row_is_tuple_of, by simp, rfl⟩
  · exact ⟨row_is_list_of, by simp, rfl⟩
  · exact ⟨row_is_name, by simp, rfl⟩
  · exact ⟨row_is_letter, by simp, rfl⟩
  · exact ⟨row_look_at_book, by simp, rfl⟩
  · exact ⟨row__look_at_kinds, by simp, rfl⟩
  · exact ⟨row__is_kind, by simp, rfl⟩
  · exact ⟨row__look_at_head, by simp, rfl⟩
  · exact ⟨row__look_at_letters, by simp, rfl⟩
  · exact ⟨row__is_letter_row, by simp, rfl⟩
  · exact ⟨row__look_at_steps, by simp, rfl⟩
  · exact ⟨row__is_step, by simp, rfl⟩
  · exact ⟨row__look_for_idle, by simp, rfl⟩
  · exact ⟨row_read, by simp, rfl⟩
  · exact ⟨row__is_row, by simp, rfl⟩
  · exact ⟨row__is_letter_word, by simp, rfl⟩
  · exact ⟨row__may_stand, by simp, rfl⟩
  · exact ⟨row__put, by simp, rfl⟩
  · exact ⟨row__letter_of, by simp, rfl⟩
  · exact ⟨row__law_pool, by simp, rfl⟩
  · exact ⟨row__law_draw, by simp, rfl⟩
  · exact ⟨row__law_names, by simp, rfl⟩
  · exact ⟨row__law_book, by simp, rfl⟩
  · exact ⟨row__law_marks, by simp, rfl⟩
  · exact ⟨row__law_steps, by simp, rfl⟩
  · exact ⟨row__law_shown, by simp, rfl⟩
  · exact ⟨row__law_row, by simp, rfl⟩

end Kp.K07
namespace Kp.K07
open Kp
local macro_rules | `(tactic| array_get_dec) => `(tactic| try simp only [evE, evEs, evT, evO, evC, evI, wp_bind, wp_ok, wp_stuck, wp_exc, wp_ite, R.bind_ok, R.bind_exc, R.bind_stuck, opt_some, opt_none, setTg, setTgs, fin, List.map_cons, List.map_nil, List.length_cons, List.length_nil, List.replicate, List.cons_append, List.nil_append, List.set_cons_zero, List.set_cons_succ, List.getElem?_cons_zero, List.getElem?_cons_succ, allT_nil, allT_cons, allT_map, wipeE, List.length_map, mkLst, mkTup, or_bl, and_bl, or_tt, and_tt, sign_eq, idx_pl0, idx_pl1, idx_pl2, idx_pl3, isDct_pl, isDct_bo, isDct_de, isDct_le, isDct_st, isDct_ki, idx_bo0, idx_bo1, idx_de0, idx_de1, idx_de2, tup_bo, tup_de, tup_le, tup_st, tup_ki, mtK, eq_self, pl_str, pl_int, pl_bl, pl_non, Bool.and_self, Bool.and_true, Bool.true_and, eqT_str, eqT_int, eqT_bl, notO_sm, if_true, if_false, Bool.false_eq_true, Bool.not_true, Bool.not_false, Nat.zero_add, Nat.add_zero, Nat.sub_self, Nat.reduceSub, Nat.reduceAdd, reduceIte, itmV, isDct_non, isDct_bl, isDct_int, isDct_str, isDct_tup, isDct_lst, isDct_dct, isDct_scr, isDct_ref, isDct_tp, dgt_dct, asInt_non, asInt_bl, asInt_int, asInt_str, asInt_tup, asInt_lst, asInt_dct, asInt_scr, asInt_ref, asInt_tp, asStr_non, asStr_bl, asStr_int, asStr_str, asStr_tup, asStr_lst, asStr_dct, asStr_scr, asStr_ref, asStr_tp, asScr_non, asScr_bl, asScr_int, asScr_str, asScr_tup, asScr_lst, asScr_dct, asScr_scr, asScr_ref, asScr_tp, asBl_non, asBl_bl, asBl_int, asBl_str, asBl_tup, asBl_lst, asBl_dct, asBl_scr, asBl_ref, asBl_tp, isNon_non, asL_non, lstOf_non, tupOf_non, itemsOf_non, seqOf_non, kndT_non, isNon_bl, asL_bl, lstOf_bl, tupOf_bl, itemsOf_bl, seqOf_bl, kndT_bl, isNon_int, asL_int, lstOf_int, tupOf_int, itemsOf_int, seqOf_int, kndT_int, isNon_str, asL_str, lstOf_str, tupOf_str, itemsOf_str, seqOf_str, kndT_str, isNon_tup, asL_tup, lstOf_tup, tupOf_tup, itemsOf_tup, seqOf_tup, kndT_tup, isNon_lst, asL_lst, lstOf_lst, tupOf_lst, itemsOf_lst, seqOf_lst, kndT_lst, isNon_dct, asL_dct, lstOf_dct, tupOf_dct, itemsOf_dct, seqOf_dct, kndT_dct, isNon_scr, asL_scr, lstOf_scr, tupOf_scr, itemsOf_scr, seqOf_scr, kndT_scr, isNon_ref, isNon_tp, tupOf_ref, tupOf_tp, lstOf_tp, asL_tp, seqOf_tp, itemsOf_tp, itemsOf_ref, asRef_ref, asRef_t, asTree_t, kndOf_t, kndOf_tp, isTy_t, truth_bl, truth_int, truth_non, truth_lst, truth_tup, truth_str, add_int, add_str, add_lst, sub_int, lt_int, le_int, gt_int, ge_int, lt_str, le_str, eq_t, ne_t, isN_t, notN_t, idx_lst, idx_tup, idx_tp, slc_lst, slc_str, len_str, len_scr, len_lst, len_tup, bi_len, bi_max2, bi_min2, bi_int_int, bi_int_bl, lstOf_ref, asL_ref, kndOf_ref, idx_refU, len_refU, app_refU, set_refU, ixN_lit, atI_lit, List.set_nil, ik1, ik2, ik3, ik4, ik5, ik6, ik7, il1, il2, il3, il4, il5, il6, il7, is1, is2', is3, is4, is5, is6, is7, ii1, ii2, ii3, ii4, ii5, ii6, ii7, ib1, ib2, ib3, ib4, ib5, ib6, ib7, Nat.reduceLT, Nat.reduceLeDiff])

/-! ### texts cut -/
theorem split_app (c : Char) : ∀ (p q : Cs), c ∉ p → splitC c (p ++ c :: q) = p :: splitC c q
  | [], q, _ => by
    show splitC c (c :: q) = _
    rw [splitC_cons, if_pos rfl]
  | x :: r, q, h => by
    have hx : x ≠ c := fun e => h (e ▸ List.mem_cons_self)
    have hr : c ∉ r := fun e => h (List.mem_cons_of_mem _ e)
    show splitC c (x :: (r ++ c :: q)) = _
    rw [splitC_cons, if_neg hx, split_app c r q hr]
theorem split_no (c : Char) : ∀ p : Cs, c ∉ p → splitC c p = [p]
  | [], _ => rfl
  | x :: r, h => by
    have hx : x ≠ c := fun e => h (e ▸ List.mem_cons_self)
    have hr : c ∉ r := fun e => h (List.mem_cons_of_mem _ e)
    rw [splitC_cons, if_neg hx, split_no c r hr]
theorem join_cc (s : Cs) (w v : Cs) (r : List Cs) : joinC s (w :: v :: r) = w ++ (s ++ joinC s (v :: r)) := by
  simp [joinC]
theorem split_join (c : Char) : ∀ ws : List Cs, ws ≠ [] → (∀ w ∈ ws, c ∉ w) → splitC c (joinC [c] ws) = ws
  | [], h, _ => absurd rfl h
  | [w], _, h => by
    have : joinC [c] [w] = w := by simp [joinC]
    rw [this]
    exact split_no c w (h w (by simp))
  | w :: v :: r, _, h => by
    rw [join_cc]
    show splitC c (w ++ c :: joinC [c] (v :: r)) = _
    rw [split_app _ _ _ (h w (by simp)), split_join c (v :: r) (by simp) fun x hx => h x (List.mem_cons_of_mem _ hx)]
theorem join_len (c : Char) (m : Nat) : ∀ ws : List Cs, (∀ w ∈ ws, w.length ≤ m) → (joinC [c] ws).length ≤ ws.length * (m + 1)
  | [], _ => by simp [joinC]
  | [w], h => by
    have : joinC [c] [w] = w := by simp [joinC]
    rw [this]
    have := h w (by simp)
    simp
    omega
  | w :: v :: r, h => by
    rw [join_cc]
    have h1 := h w (by simp)
    have h2 := join_len c m (v :: r) fun x hx => h x (List.mem_cons_of_mem _ hx)
    simp only [List.length_append, List.length_cons, List.length_nil, Nat.succ_mul] at h2 ⊢
    omega
theorem flat_len (m : Nat) : ∀ ws : List Cs, (∀ w ∈ ws, w.length ≤ m) → ws.flatten.length ≤ ws.length * m
  | [], _ => by simp
  | w :: r, h => by
    have h1 := h w (by simp)
    have h2 := flat_len m r fun x hx => h x (List.mem_cons_of_mem _ hx)
    simp only [List.flatten_cons, List.length_append, List.length_cons, Nat.succ_mul]
    omega
theorem join_mem {c x : Char} : ∀ {ws : List Cs}, x ∈ joinC [c] ws → x = c ∨ ∃ w ∈ ws, x ∈ w
  | [], h => by simp [joinC] at h
  | [w], h => .inr ⟨w, by simp, by simpa [joinC] using h⟩
  | w :: v :: r, h => by
    rw [join_cc] at h
    rcases List.mem_append.mp h with h | h
    · exact .inr ⟨w, by simp, h⟩
    · rcases List.mem_append.mp h with h | h
      · exact .inl (by simpa using h)
      · rcases join_mem h with e | ⟨y, h1, h2⟩
        · exact .inl e
        · exact .inr ⟨y, List.mem_cons_of_mem _ h1, h2⟩
/-! ### the words of a book's rows -/
def dKind : Cs := "kind".toList
def dDeal : Cs := "deal".toList
def dMany : Cs := "many".toList
def dOne : Cs := "one".toList
def manyC (b : Bool) : Cs := if b = true then dMany else dOne
def wKind (k : Cs × Bool) : List Cs := [dKind, k.1, manyC k.2]
def wLet (l : Char × Cs) : Cs := l.1 :: ':' :: l.2
def wDeal (d : Deal) : List Cs := dDeal :: d.name :: d.lets.map wLet
def wStep (s : Cs × Char) : List Cs := [s.1, [s.2]]
def wordsD (d : Deal) : List (List Cs) := wDeal d :: d.steps.map wStep
def wordsB (b : Book) : List (List Cs) := b.kinds.map wKind ++ b.deals.flatMap wordsD
def rowC (ws : List Cs) : Cs := joinC [' '] ws
def textB (b : Book) : Cs := joinC ['\n'] ((wordsB b).map rowC)
structure Clean (w : Cs) : Prop where
  ne : w ≠ []
  len : w.length ≤ 10
  low : ∀ c ∈ w, c ∈ abc ∨ c = ':'
theorem name_clean {s : Cs} (h : NameOk s) : Clean s := ⟨fun e => by have := h.lo; rw [e] at this; simp at this, by have := h.hi; omega, fun c hc => .inl (h.low c hc)⟩
theorem Clean.sp {w : Cs} (h : Clean w) : ' ' ∉ w := fun e => by
  rcases h.low _ e with h | h
  · exact absurd h (by decide)
  · exact absurd h (by decide)
theorem Clean.nl {w : Cs} (h : Clean w) : '\n' ∉ w := fun e => by
  rcases h.low _ e with h | h
  · exact absurd h (by decide)
  · exact absurd h (by decide)
theorem lit_clean {w : Cs} (h1 : w.all (fun c => decide (c ∈ abc)) = true) (h2 : 1 ≤ w.length) (h3 : w.length ≤ 10) : Clean w := ⟨fun e => by rw [e] at h2; simp at h2, h3, fun c hc => .inl (of_decide_eq_true (List.all_eq_true.mp h1 c hc))⟩
theorem deed_clean {w : Cs} (h : isDeed w) : Clean w := by
  rcases h with rfl | rfl | rfl <;> exact lit_clean (by decide) (by decide) (by decide)
structure Words (ws : List Cs) : Prop where
  ne : ws ≠ []
  len : ws.length ≤ 6
  cl : ∀ w ∈ ws, Clean w
theorem kind_words {k : Cs × Bool} (h : NameOk k.1) : Words (wKind k) := ⟨by simp [wKind], by simp [wKind], fun w hw => by
  simp only [wKind, List.mem_cons, List.not_mem_nil, or_false] at hw
  rcases hw with rfl | rfl | rfl
  · exact lit_clean (by decide) (by decide) (by decide)
  · exact name_clean h
  · cases k.2 <;> exact lit_clean (by decide) (by decide) (by decide)⟩
theorem let_clean {l : Char × Cs} (h1 : l.1 ∈ abc) (h2 : NameOk l.2) : Clean (wLet l) := ⟨by simp [wLet], by have := h2.hi; simp only [wLet, List.length_cons]; omega, fun c hc => by
  simp only [wLet, List.mem_cons] at hc
  rcases hc with rfl | rfl | hc
  · exact .inl h1
  · exact .inr rfl
  · exact .inl (h2.low c hc)⟩
theorem lname {b : Book} (hb : b.Ok) {d : Deal} (hd : d ∈ b.deals) {l : Char × Cs} (hl : l ∈ d.lets) : NameOk l.2 := by
  obtain ⟨k, hk, e⟩ := List.mem_map.mp ((hb.deal d hd).kind l hl)
  rw [← e]
  exact hb.kok k hk
theorem deal_words {b : Book} (hb : b.Ok) {d : Deal} (hd : d ∈ b.deals) : Words (wDeal d) := ⟨by simp [wDeal], by have := (hb.deal d hd).lhi; simp only [wDeal, List.length_cons, List.length_map]; omega, fun w hw => by
  simp only [wDeal, List.mem_cons] at hw
  rcases hw with rfl | rfl | hw
  · exact lit_clean (by decide) (by decide) (by decide)
  · exact name_clean (hb.deal d hd).name
  · obtain ⟨l, hl, rfl⟩ := List.mem_map.mp hw
    exact let_clean ((hb.deal d hd).low l hl) (lname hb hd hl)⟩
theorem sabc {ks : List Cs} {d : Deal} (h : d.Ok ks) {s : Cs × Char} (hs : s ∈ d.steps) : s.2 ∈ abc := by
  obtain ⟨l, hl, e⟩ := List.mem_map.mp (h.slet s hs)
  rw [← e]
  exact h.low l hl
theorem step_words {ks : List Cs} {d : Deal} (h : d.Ok ks) {s : Cs × Char} (hs : s ∈ d.steps) : Words (wStep s) := ⟨by simp [wStep], by simp [wStep], fun w hw => by
  simp only [wStep, List.mem_cons, List.not_mem_nil, or_false] at hw
  rcases hw with rfl | rfl
  · exact deed_clean (h.deed s hs)
  · exact ⟨by simp, by simp, fun c hc => by rw [List.mem_singleton.mp hc]; exact .inl (sabc h hs)⟩⟩
theorem all_words {b : Book} (hb : b.Ok) : ∀ ws ∈ wordsB b, Words ws := fun ws hw => by
  rcases List.mem_append.mp hw with h | h
  · obtain ⟨k, hk, rfl⟩ := List.mem_map.mp h
    exact kind_words (hb.kok k hk)
  · obtain ⟨d, hd, h⟩ := List.mem_flatMap.mp h
    rcases List.mem_cons.mp h with rfl | h
    · exact deal_words hb hd
    · obtain ⟨s, hs, rfl⟩ := List.mem_map.mp h
      exact step_words (hb.deal d hd) hs
theorem row_split {ws : List Cs} (h : Words ws) : splitC ' ' (rowC ws) = ws := split_join ' ' ws h.ne fun w hw => (h.cl w hw).sp
theorem row_nl {ws : List Cs} (h : Words ws) : '\n' ∉ rowC ws := fun e => by
  rcases join_mem e with e | ⟨w, h1, h2⟩
  · exact absurd e (by decide)
  · exact (h.cl w h1).nl h2
theorem row_len {ws : List Cs} (h : Words ws) : (rowC ws).length ≤ 66 := by
  have h1 := join_len ' ' 10 ws fun w hw => (h.cl w hw).len
  have h2 := h.len
  unfold rowC
  omega
theorem words_len {b : Book} (hb : b.Ok) : (wordsB b).length ≤ 80 := by
  have h1 : ∀ ds : List Deal, (∀ d ∈ ds, d.steps.length ≤ 8) → (ds.flatMap wordsD).length ≤ ds.length * 9 := fun ds => by
    induction ds with
    | nil => simp
    | cons d r ih =>
      intro h
      have a := ih fun x hx => h x (List.mem_cons_of_mem _ hx)
      have c := h d (by simp)
      simp only [List.flatMap_cons, List.length_append, List.length_cons, Nat.succ_mul, wordsD, List.length_map] at a ⊢
      omega
  have h2 := h1 b.deals fun d hd => (hb.deal d hd).slen
  have h3 := hb.dhi
  have h4 := hb.khi
  unfold wordsB
  rw [List.length_append, List.length_map]
  omega
theorem text_len {b : Book} (hb : b.Ok) : (textB b).length ≤ 5400 := by
  have h1 := join_len '\n' 66 ((wordsB b).map rowC) fun w hw => by
    obtain ⟨ws, h, rfl⟩ := List.mem_map.mp hw
    exact row_len (all_words hb ws h)
  have h2 := words_len hb
  rw [List.length_map] at h1
  unfold textB
  omega
theorem words_ne {b : Book} (hb : b.Ok) : wordsB b ≠ [] := fun e => by
  have h := hb.klo
  have := congrArg List.length e
  unfold wordsB at this
  rw [List.length_append, List.length_map, List.length_nil] at this
  omega
theorem text_split {b : Book} (hb : b.Ok) : splitC '\n' (textB b) = (wordsB b).map rowC := split_join '\n' _ (by simp [words_ne hb]) fun w hw => by
  obtain ⟨ws, h, rfl⟩ := List.mem_map.mp hw
  exact row_nl (all_words hb ws h)
theorem part_let {l : Char × Cs} (h : l.1 ∈ abc) : partC ':' (wLet l) = some ([l.1], l.2) := by
  have hx : l.1 ≠ ':' := fun e => by rw [e] at h; exact absurd h (by decide)
  unfold wLet partC
  rw [if_neg hx]
  unfold partC
  rw [if_pos rfl]
/-! ### what is one -/
theorem text_iso (k : Nat) (s : Cs) (S : Sto) : isoCall (run tb (k + 1)) "is_text" [.t (.str s)] .frz S = .ok (.t (.bl true)) S := by
  refine iso1 (eq_of (wp_fn _ rfl rfl rfl ?_))
  refine ss_ret fun K hK => ?_
  array_get_dec
  rw [hK, retQ_ret]
  exact ⟨rfl, rfl⟩
theorem tupof_iso (k : Nat) (xs : List T) (m : Nat) (h : xs.length = m) (S : Sto) : isoCall (run tb (k + 1)) "is_tuple_of" [.t (.tup xs), .t (.int m)] .frz S = .ok (.t (.bl true)) S := by
  refine iso2 (eq_of (wp_fn _ rfl rfl rfl ?_))
  refine ss_ret fun K hK => ?_
  array_get_dec
  rw [hK, retQ_ret]
  subst h
  exact ⟨by simp, rfl⟩
theorem listof_iso (k : Nat) (xs : List T) (m : Nat) (h1 : 1 ≤ xs.length) (h2 : xs.length ≤ m) (S : Sto) : isoCall (run tb (k + 1)) "is_list_of" [.t (.lst xs), .t (.int 1), .t (.int m)] .frz S = .ok (.t (.bl true)) S := by
  refine iso3 (eq_of (wp_fn _ rfl rfl rfl ?_))
  refine ss_ret fun K hK => ?_
  array_get_dec
  have e1 : decide ((1 : Int) ≤ (xs.length : Int)) = true := decide_eq_true (by omega)
  have e2 : decide ((xs.length : Int) ≤ (m : Int)) = true := decide_eq_true (by omega)
  rw [if_pos e1, e2, hK, retQ_ret]
  exact ⟨rfl, rfl⟩
def lowC (c : Char) : Bool := leS ['a'] [c] && leS [c] ['z']
theorem low_abc : ∀ c ∈ abc, lowC c = true := by decide
theorem name_iso (k : Nat) {s : Cs} (h : NameOk s) (S : Sto) : isoCall (run tb (k + 2)) "is_name" [.t (.str s)] .frz S = .ok (.t (.bl true)) S := by
  have h1 := h.lo
  have h2 := h.hi
  have hx : s.length ≤ lim := lim_pos (by omega)
  refine iso1 (eq_of (wp_fn _ rfl rfl rfl ?_))
  refine ss_if0 fun K hK => ?_
  array_get_dec
  rw [text_iso]
  array_get_dec
  rw [if_pos hx]
  array_get_dec
  have e1 : decide ((1 : Int) ≤ (s.length : Int)) = true := decide_eq_true (by omega)
  have e2 : decide ((s.length : Int) ≤ (8 : Int)) = true := decide_eq_true (by omega)
  rw [if_pos e1, e2, hK, if_neg (by decide)]
  clear hK K
  refine ss_ret fun K hK => ?_
  array_get_dec
  refine wp.of (lc_strM (fun c => .bl (lowC c)) fun c hc => ?_) ?_
  · array_get_dec
    unfold lowC
    have e1 : "a".toList = ['a'] := rfl
    have e2 : "z".toList = ['z'] := rfl
    rw [e1, e2]
    cases leS ['a'] [c] <;> rfl
  · array_get_dec
    rw [if_pos hx]
    array_get_dec
    rw [bi_allM]
    array_get_dec
    rw [hK, retQ_ret]
    have : s.all lowC = true := List.all_eq_true.mpr fun c hc => low_abc c (h.low c hc)
    exact ⟨by rw [this], rfl⟩
theorem one_ok {c : Char} (h : c ∈ abc) : NameOk [c] := ⟨by simp, by simp, fun x hx => by rw [List.mem_singleton.mp hx]; exact h⟩
theorem letter_iso (k : Nat) {c : Char} (h : c ∈ abc) (S : Sto) : isoCall (run tb (k + 3)) "is_letter" [.t (.str [c])] .frz S = .ok (.t (.bl true)) S := by
  refine iso1 (eq_of (wp_fn _ rfl rfl rfl ?_))
  refine ss_ret fun K hK => ?_
  array_get_dec
  rw [name_iso k (one_ok h)]
  array_get_dec
  rw [if_pos (lim_pos (by simp))]
  array_get_dec
  rw [hK, retQ_ret]
  exact ⟨rfl, rfl⟩
theorem iskind_iso (k : Nat) {x : Cs × Bool} (h : NameOk x.1) (S : Sto) : isoCall (run tb (k + 3)) "_is_kind" [.t (kiT x)] .frz S = .ok (.t (.bl true)) S := by
  refine iso1 (eq_of (wp_fn _ rfl rfl rfl ?_))
  refine ss_ret fun K hK => ?_
  array_get_dec
  have t2 : ∀ S, isoCall (run tb (k + 2)) "is_tuple_of" [.t (kiT x), .t (.int 2)] .frz S = .ok (.t (.bl true)) S := fun S => tupof_iso (k + 1) [.str x.1, .bl x.2] 2 rfl S
  have x0 : ∀ S, idxV (.t (kiT x)) (.t (.int 0)) S = some (.t (.str x.1)) := fun S => rfl
  have x1 : ∀ S, idxV (.t (kiT x)) (.t (.int 1)) S = some (.t (.bl x.2)) := fun S => rfl
  rw [t2]
  array_get_dec
  rw [x0]
  array_get_dec
  rw [name_iso k h]
  array_get_dec
  rw [x1]
  array_get_dec
  rw [hK, retQ_ret]
  exact ⟨rfl, rfl⟩
/-! ### a book is looked at -/
theorem any_no {s : Cs} {ss : List Cs} (h : s ∉ ss) : inT (.str s) (ss.map .str) = false := by
  rw [inT_strs]
  rw [Bool.eq_false_iff]
  intro q
  obtain ⟨y, h1, h2⟩ := List.any_eq_true.mp q
  exact h (by rw [← of_decide_eq_true (by simpa using h2 : decide (y = s) = true)]; exact h1)
theorem any_yes {s : Cs} {ss : List Cs} (h : s ∈ ss) : inT (.str s) (ss.map .str) = true := by
  rw [inT_strs]
  exact List.any_eq_true.mpr ⟨s, h, by simp⟩
theorem iso_exp {Φ : Or} {f : String} {ds : List D} {xs : List T} {v : T} {S S1 : Sto} (h0 : allT ds = none) (e : toTs 0 S ds = some xs) (h : Φ f (xs.map .t) [] = .ok (.t v) S1) (hv : flatT v = true) : isoCall Φ f ds .frz S = .ok (.t v) S := by
  unfold isoCall
  simp only [h0, isoFrz, e, h, hv, if_true]
theorem take_in {α : Type} {xs : List α} {i : Nat} {x : α} (f : α → Cs) (hn : (xs.map f).Nodup) (h : xs[i]? = some x) : f x ∉ (xs.take i).map f := by
  intro q
  obtain ⟨y, h1, h2⟩ := List.mem_map.mp q
  obtain ⟨j, hj, h3⟩ := List.getElem_of_mem h1
  rw [List.length_take] at hj
  rw [List.getElem_take] at h3
  obtain ⟨hi, h4⟩ := List.getElem?_eq_some_iff.mp h
  have e1 : (xs.map f)[j]'(by simp; omega) = (xs.map f)[i]'(by simpa using hi) := by simp [h3, h4, h2]
  have := (List.getElem_inj hn).mp e1
  omega
theorem take_next {α : Type} {xs : List α} {i : Nat} {x : α} (h : xs[i]? = some x) : xs.take (i + 1) = xs.take i ++ [x] := by
  rw [List.take_add_one, h]
  rfl
theorem kinds_iso (k : Nat) {b : Book} (hb : b.Ok) (h6 : b.kinds.length ≤ 6) (S : Sto) : isoCall (run tb (k + 4)) "_look_at_kinds" [.t (.lst (b.kinds.map kiT))] .frz S = .ok (.t .non) S := by
  suffices h : wp (run tb (k + 4) "_look_at_kinds" [.t (.lst (b.kinds.map kiT))] []) (fun d S => d = .t .non ∧ ∃ xs, S = [.lst xs]) noE by
    obtain ⟨d, S1, e, rfl, xs, rfl⟩ := h.get
    exact iso_eq (xs := [.lst (b.kinds.map kiT)]) e rfl
  refine wp_fn _ rfl rfl rfl ?_
  have k1 := hb.klo
  refine ss_if0 fun K hK => ?_
  array_get_dec
  have lf : ∀ S, isoCall (run tb (k + 3)) "is_list_of" [.t (.lst (b.kinds.map kiT)), .t (.int 1), .t (.int 6)] .frz S = .ok (.t (.bl true)) S := fun S => listof_iso (k + 2) (b.kinds.map kiT) 6 (by simpa using k1) (by simpa using h6) S
  rw [lf]
  array_get_dec
  rw [hK, if_neg (by decide)]
  clear hK K
  refine ss_asg fun K hK => ?_
  array_get_dec
  rw [hK]
  refine ⟨_, rfl, ?_⟩
  clear hK K
  refine ss_for fun K hK => ?_
  array_get_dec
  rw [hK]
  clear hK K
  refine wp_for (fun i env S => ∃ (a2 a3 : Option D), env = [some (.t (.lst (b.kinds.map kiT))), some (.ref 0), a2, a3] ∧ S = [.lst (((b.kinds.take i).map (·.1)).map .str)]) ⟨_, _, rfl, rfl⟩ ?_ ?_
  · rintro i x env S hx ⟨a2, a3, rfl, rfl⟩
    obtain ⟨y, hy, rfl⟩ := enum_get hx
    rw [List.getElem?_map] at hy
    obtain ⟨z, hz, rfl⟩ := Option.map_eq_some_iff.mp hy
    refine ⟨_, rfl, ?_⟩
    have zm := List.mem_of_getElem? hz
    have zn := hb.kok z zm
    have x0 : ∀ S, idxV (.t (kiT z)) (.t (.int 0)) S = some (.t (.str z.1)) := fun S => rfl
    refine ss_if0 fun K hK => ?_
    array_get_dec
    rw [iskind_iso k zn]
    array_get_dec
    rw [x0]
    array_get_dec
    rw [in_ref (S := [.lst (((b.kinds.take i).map (·.1)).map .str)]) (n := 0) rfl rfl (plainN_strs 7 _), any_no (take_in (·.1) hb.knd hz)]
    array_get_dec
    rw [hK, if_neg Bool.false_ne_true]
    clear hK K
    refine ss_expr fun K hK => ?_
    array_get_dec
    rw [x0]
    array_get_dec
    have kl : (b.kinds.take i).length < lim := Nat.lt_of_lt_of_le (by rw [List.length_take]; omega : _ < 9) (lim_pos (by omega))
    rw [if_pos kl, hK]
    exact ss_nil ⟨_, _, rfl, by rw [take_next hz]; simp⟩
  · rintro env S ⟨a2, a3, rfl, rfl⟩
    exact ss_nil ⟨rfl, _, rfl⟩
theorem head_ok (k : Nat) {d : Deal} (h : NameOk d.name) {ns : List Cs} (hn : d.name ∉ ns) (i : Nat) (S : Sto) : run tb (k + 3) "_look_at_head" [.t (.int (i : Nat)), .t (deT d), .t (.lst (ns.map .str))] S = .ok (.t .non) S := by
  refine eq_of (wp_fn _ rfl rfl rfl ?_)
  have t3 : ∀ S, isoCall (run tb (k + 2)) "is_tuple_of" [.t (deT d), .t (.int 3)] .frz S = .ok (.t (.bl true)) S := fun S => tupof_iso (k + 1) [.str d.name, .lst (d.lets.map leT), .lst (d.steps.map stT)] 3 rfl S
  refine ss_if0 fun K hK => ?_
  array_get_dec
  rw [t3]
  array_get_dec
  rw [name_iso k h]
  array_get_dec
  rw [in_lst rfl (plainN_strs 7 _), any_no hn]
  array_get_dec
  rw [hK, if_neg Bool.false_ne_true]
  exact ss_nil ⟨rfl, rfl⟩
theorem lrow_iso (k : Nat) {l : Char × Cs} (h1 : l.1 ∈ abc) {ks : List Cs} (h2 : l.2 ∈ ks) (S : Sto) : isoCall (run tb (k + 4)) "_is_letter_row" [.t (leT l), .t (.lst (ks.map .str))] .frz S = .ok (.t (.bl true)) S := by
  refine iso2 (eq_of (wp_fn _ rfl rfl rfl ?_))
  have t2 : ∀ S, isoCall (run tb (k + 3)) "is_tuple_of" [.t (leT l), .t (.int 2)] .frz S = .ok (.t (.bl true)) S := fun S => tupof_iso (k + 2) [.str [l.1], .str l.2] 2 rfl S
  have x0 : ∀ S, idxV (.t (leT l)) (.t (.int 0)) S = some (.t (.str [l.1])) := fun S => rfl
  have x1 : ∀ S, idxV (.t (leT l)) (.t (.int 1)) S = some (.t (.str l.2)) := fun S => rfl
  refine ss_ret fun K hK => ?_
  array_get_dec
  rw [t2]
  array_get_dec
  rw [x0]
  array_get_dec
  rw [letter_iso k h1]
  array_get_dec
  rw [x1]
  array_get_dec
  rw [text_iso]
  array_get_dec
  rw [x1]
  array_get_dec
  rw [in_lst rfl (plainN_strs 7 _), any_yes h2]
  array_get_dec
  rw [hK, retQ_ret]
  exact ⟨rfl, rfl⟩
theorem letters_iso (k : Nat) {d : Deal} {ks : List Cs} (h : d.Ok ks) (j : Nat) (S : Sto) : isoCall (run tb (k + 5)) "_look_at_letters" [.t (.int (j : Nat)), .t (.lst (d.lets.map leT)), .t (.lst (ks.map .str))] .frz S = .ok (.t .non) S := by
  suffices h : wp (run tb (k + 5) "_look_at_letters" [.t (.int (j : Nat)), .t (.lst (d.lets.map leT)), .t (.lst (ks.map .str))] []) (fun d S => d = .t .non ∧ ∃ xs, S = [.lst xs]) noE by
    obtain ⟨d1, S1, e, rfl, xs, rfl⟩ := h.get
    exact iso_eq (xs := [.int (j : Nat), .lst (d.lets.map leT), .lst (ks.map .str)]) e rfl
  refine wp_fn _ rfl rfl rfl ?_
  have l1 := h.llo
  have l4 := h.lhi
  have lf : ∀ S, isoCall (run tb (k + 4)) "is_list_of" [.t (.lst (d.lets.map leT)), .t (.int 1), .t (.int 4)] .frz S = .ok (.t (.bl true)) S := fun S => listof_iso (k + 3) (d.lets.map leT) 4 (by simpa using l1) (by simpa using l4) S
  refine ss_if0 fun K hK => ?_
  array_get_dec
  rw [lf]
  array_get_dec
  rw [hK, if_neg (by decide)]
  clear hK K
  refine ss_asg fun K hK => ?_
  array_get_dec
  rw [hK]
  refine ⟨_, rfl, ?_⟩
  clear hK K
  refine ss_for fun K hK => ?_
  array_get_dec
  rw [hK]
  clear hK K
  refine wp_for (fun i env S => ∃ (a4 a5 : Option D), env = [some (.t (.int (j : Nat))), some (.t (.lst (d.lets.map leT))), some (.t (.lst (ks.map .str))), some (.ref 0), a4, a5] ∧ S = [.lst (((d.lets.take i).map fun l => [l.1]).map .str)]) ⟨_, _, rfl, rfl⟩ ?_ ?_
  · rintro i x env S hx ⟨a4, a5, rfl, rfl⟩
    obtain ⟨y, hy, rfl⟩ := enum_get hx
    rw [List.getElem?_map] at hy
    obtain ⟨z, hz, rfl⟩ := Option.map_eq_some_iff.mp hy
    refine ⟨_, rfl, ?_⟩
    have zm := List.mem_of_getElem? hz
    have x0 : ∀ S, idxV (.t (leT z)) (.t (.int 0)) S = some (.t (.str [z.1])) := fun S => rfl
    have nd : (d.lets.map fun l => [l.1]).Nodup := by
      have := h.lnd
      refine List.pairwise_map.mpr ((List.pairwise_map.mp this).imp fun h e => h (by simpa using e))
    refine ss_if0 fun K hK => ?_
    array_get_dec
    rw [lrow_iso k (h.low z zm) (h.kind z zm)]
    array_get_dec
    rw [x0]
    array_get_dec
    rw [in_ref (S := [.lst (((d.lets.take i).map fun l => [l.1]).map .str)]) (n := 0) rfl rfl (plainN_strs 7 _), any_no (take_in (fun l : Char × Cs => [l.1]) nd hz)]
    array_get_dec
    rw [hK, if_neg Bool.false_ne_true]
    clear hK K
    refine ss_expr fun K hK => ?_
    array_get_dec
    rw [x0]
    array_get_dec
    have kl : (d.lets.take i).length < lim := Nat.lt_of_lt_of_le (by rw [List.length_take]; omega : _ < 9) (lim_pos (by omega))
    rw [if_pos kl, hK]
    exact ss_nil ⟨_, _, rfl, by rw [take_next hz]; simp⟩
  · rintro env S ⟨a2, a3, rfl, rfl⟩
    exact ss_nil ⟨rfl, _, rfl⟩
theorem isstep_iso (k : Nat) {s : Cs × Char} (h1 : isDeed s.1) {cs : List Char} (h2 : s.2 ∈ cs) (S : Sto) : isoCall (run tb (k + 2)) "_is_step" [.t (stT s), .t (.lst (cs.map fun c => T.str [c]))] .frz S = .ok (.t (.bl true)) S := by
  refine iso2 (eq_of (wp_fn _ rfl rfl rfl ?_))
  have t2 : ∀ S, isoCall (run tb (k + 1)) "is_tuple_of" [.t (stT s), .t (.int 2)] .frz S = .ok (.t (.bl true)) S := fun S => tupof_iso k [.str s.1, .str [s.2]] 2 rfl S
  refine ss_if0 fun K hK => ?_
  array_get_dec
  rw [t2]
  array_get_dec
  rw [hK, if_neg (by decide)]
  clear hK K
  refine ss_asg fun K hK => ?_
  array_get_dec
  rw [hK]
  refine ⟨_, by simp only [setTg, setTgs, tup_st]; rfl, ?_⟩
  clear hK K
  refine ss_ret fun K hK => ?_
  array_get_dec
  rw [text_iso]
  array_get_dec
  have dd : ∀ S, cmpV .inn (.t (.str s.1)) (.t (.tup [.str "read".toList, .str "write".toList, .str "ask".toList])) S = some true := fun S => by
    rcases h1 with e | e | e <;> rw [e] <;> rfl
  rw [dd]
  array_get_dec
  rw [text_iso]
  array_get_dec
  have pl : plain (.lst (cs.map fun c => T.str [c])) = true := by
    have := plainN_strs 7 (cs.map fun c => [c])
    rw [List.map_map] at this
    exact this
  rw [in_lst rfl pl, inT_signs, List.any_eq_true.mpr ⟨s.2, h2, by simp⟩]
  array_get_dec
  rw [hK, retQ_ret]
  exact ⟨rfl, rfl⟩
theorem steps_iso (k : Nat) {d : Deal} {ks : List Cs} (h : d.Ok ks) (j : Nat) (S : Sto) : isoCall (run tb (k + 3)) "_look_at_steps" [.t (.int (j : Nat)), .t (.lst (d.steps.map stT)), .t (.lst ((d.lets.map (·.1)).map fun c => T.str [c]))] .frz S = .ok (.t .non) S := by
  refine iso3 (eq_of (wp_fn _ rfl rfl rfl ?_))
  have s1 : 1 ≤ d.steps.length := by
    have l1 := h.llo
    have : d.lets[0]'(by omega) ∈ d.lets := List.getElem_mem _
    have := List.length_pos_of_mem (h.used _ this)
    rw [List.length_map] at this
    exact this
  have s8 := h.slen
  have lf : ∀ S, isoCall (run tb (k + 2)) "is_list_of" [.t (.lst (d.steps.map stT)), .t (.int 1), .t (.int 8)] .frz S = .ok (.t (.bl true)) S := fun S => listof_iso (k + 1) (d.steps.map stT) 8 (by simpa using s1) (by simpa using s8) S
  refine ss_if0 fun K hK => ?_
  array_get_dec
  rw [lf]
  array_get_dec
  rw [hK, if_neg (by decide)]
  clear hK K
  refine ss_for fun K hK => ?_
  array_get_dec
  rw [hK]
  clear hK K
  refine wp_for (fun i env S1 => ∃ (a3 a4 : Option D), env = [some (.t (.int (j : Nat))), some (.t (.lst (d.steps.map stT))), some (.t (.lst ((d.lets.map (·.1)).map fun c => T.str [c]))), a3, a4] ∧ S1 = []) ⟨_, _, rfl, rfl⟩ ?_ ?_
  · rintro i x env S hx ⟨a3, a4, rfl, rfl⟩
    obtain ⟨y, hy, rfl⟩ := enum_get hx
    rw [List.getElem?_map] at hy
    obtain ⟨z, hz, rfl⟩ := Option.map_eq_some_iff.mp hy
    refine ⟨_, rfl, ?_⟩
    have zm := List.mem_of_getElem? hz
    refine ss_if0 fun K hK => ?_
    array_get_dec
    rw [isstep_iso k (h.deed z zm) (h.slet z zm)]
    array_get_dec
    rw [hK, if_neg (by decide)]
    exact ss_nil ⟨_, _, rfl, rfl⟩
  · rintro env S ⟨a2, a3, rfl, rfl⟩
    exact ss_nil ⟨rfl, rfl⟩
theorem idle_iso (k : Nat) {d : Deal} {ks : List Cs} (h : d.Ok ks) (j : Nat) (S : Sto) : isoCall (run tb (k + 1)) "_look_for_idle" [.t (.int (j : Nat)), .t (.lst (d.lets.map leT)), .t (.lst (d.steps.map stT))] .frz S = .ok (.t .non) S := by
  refine iso3 (eq_of (wp_fn _ rfl rfl rfl ?_))
  have s8 := h.slen
  refine ss_asg fun K hK => ?_
  array_get_dec
  have lc : ∀ f : D → Sto → R (Option D), (∀ s ∈ d.steps, f (.t (stT s)) [] = .ok (some (.t (.str [s.2]))) []) → lcL f ((d.steps.map stT).map D.t) [] = .ok ((d.steps.map fun s => T.str [s.2]).map .t) [] := fun f hf => lc_ofM (t := stT) (xs := d.steps) (fun s => .str [s.2]) hf
  refine wp.of (lc _ fun s hs => ?_) ?_
  · simp only [setTg, setTgs, tup_st]
    array_get_dec
  · rw [if_pos (by rw [List.length_map, List.length_map]; exact lim_pos (by omega)), allT_map]
    array_get_dec
    rw [hK]
    refine ⟨_, rfl, ?_⟩
    clear hK K
    refine ss_for fun K hK => ?_
    array_get_dec
    rw [hK]
    clear hK K
    refine wp_for (fun i env S1 => ∃ (a3 a4 a6 : Option D), env = [some (.t (.int (j : Nat))), some (.t (.lst (d.lets.map leT))), some (.t (.lst (d.steps.map stT))), a3, a4, some (.t (.lst (d.steps.map fun s => T.str [s.2]))), a6] ∧ S1 = []) ⟨_, _, _, rfl, rfl⟩ ?_ ?_
    · rintro i x env S hx ⟨a3, a4, a6, rfl, rfl⟩
      obtain ⟨y, hy, rfl⟩ := enum_get hx
      rw [List.getElem?_map] at hy
      obtain ⟨z, hz, rfl⟩ := Option.map_eq_some_iff.mp hy
      refine ⟨_, by simp only [setTg, setTgs, tup_le]; rfl, ?_⟩
      have zm := List.mem_of_getElem? hz
      refine ss_if0 fun K hK => ?_
      array_get_dec
      have pl : plain (.lst (d.steps.map fun s => T.str [s.2])) = true := by
        have := plainN_strs 7 (d.steps.map fun s => [s.2])
        rw [List.map_map] at this
        exact this
      have yes : inT (.str [z.1]) (d.steps.map fun s => T.str [s.2]) = true := by
        have := inT_signs z.1 (d.steps.map (·.2))
        rw [List.map_map] at this
        refine Eq.trans this (List.any_eq_true.mpr ⟨z.1, h.used z zm, by simp⟩)
      rw [nin_lst rfl pl, yes]
      array_get_dec
      rw [hK, if_neg (by decide)]
      exact ss_nil ⟨_, _, _, rfl, rfl⟩
    · rintro env S ⟨a2, a3, a6, rfl, rfl⟩
      exact ss_nil ⟨rfl, rfl⟩
theorem look_ok (k : Nat) {b : Book} (hb : b.Ok) (h6 : b.kinds.length ≤ 6) : ∃ xs, run tb (k + 6) "look_at_book" [.t (boT b)] [] = .ok (.t .non) [.lst xs] := by
  suffices h : wp (run tb (k + 6) "look_at_book" [.t (boT b)] []) (fun d S => d = .t .non ∧ ∃ xs, S = [.lst xs]) noE by
    obtain ⟨d1, S1, e, rfl, xs, rfl⟩ := h.get
    exact ⟨xs, e⟩
  refine wp_fn _ rfl rfl rfl ?_
  have t2 : ∀ S, isoCall (run tb (k + 5)) "is_tuple_of" [.t (boT b), .t (.int 2)] .frz S = .ok (.t (.bl true)) S := fun S => tupof_iso (k + 4) [.lst (b.kinds.map kiT), .lst (b.deals.map deT)] 2 rfl S
  have lf : ∀ S, isoCall (run tb (k + 5)) "is_list_of" [.t (.lst (b.deals.map deT)), .t (.int 1), .t (.int 8)] .frz S = .ok (.t (.bl true)) S := fun S => listof_iso (k + 4) (b.deals.map deT) 8 (by simpa using hb.dlo) (by simpa using hb.dhi) S
  have dhi := hb.dhi
  refine ss_if0 fun K hK => ?_
  array_get_dec
  rw [t2]
  array_get_dec
  rw [hK, if_neg (by decide)]
  clear hK K
  refine ss_asg fun K hK => ?_
  array_get_dec
  rw [hK]
  refine ⟨_, by simp only [setTg, setTgs, tup_bo]; rfl, ?_⟩
  clear hK K
  refine ss_expr fun K hK => ?_
  array_get_dec
  rw [kinds_iso (k + 1) hb h6]
  array_get_dec
  rw [hK]
  clear hK K
  refine ss_asg fun K hK => ?_
  array_get_dec
  have lc : ∀ f : D → Sto → R (Option D), (∀ s ∈ b.kinds, f (.t (kiT s)) [] = .ok (some (.t (.str s.1))) []) → lcL f ((b.kinds.map kiT).map D.t) [] = .ok ((b.kinds.map fun s => T.str s.1).map .t) [] := fun f hf => lc_ofM (t := kiT) (xs := b.kinds) (fun s => .str s.1) hf
  refine wp.of (lc _ fun s hs => ?_) ?_
  · simp only [setTg, setTgs, tup_ki]
    array_get_dec
  · rw [if_pos (by rw [List.length_map, List.length_map]; exact lim_pos (by omega)), allT_map]
    array_get_dec
    rw [hK]
    refine ⟨_, rfl, ?_⟩
    clear hK K
    refine ss_if0 fun K hK => ?_
    array_get_dec
    rw [lf]
    array_get_dec
    rw [hK, if_neg (by decide)]
    clear hK K
    refine ss_asg fun K hK => ?_
    array_get_dec
    rw [hK]
    refine ⟨_, rfl, ?_⟩
    clear hK K
    refine ss_for fun K hK => ?_
    array_get_dec
    rw [hK]
    clear hK K
    have ke : (b.kinds.map fun s => T.str s.1) = (b.kinds.map (·.1)).map T.str := by rw [List.map_map]; rfl
    rw [ke]
    refine wp_for (fun i env S => ∃ (a3 a6 a7 a8 a9 a10 a11 : Option D), env = [some (.t (boT b)), some (.t (.lst (b.kinds.map kiT))), some (.t (.lst (b.deals.map deT))), a3, some (.t (.lst ((b.kinds.map (·.1)).map .str))), some (.ref 0), a6, a7, a8, a9, a10, a11] ∧ S = [.lst (((b.deals.take i).map (·.name)).map .str)]) ⟨_, _, _, _, _, _, _, rfl, rfl⟩ ?_ ?_
    · rintro i x env S hx ⟨a3, a6, a7, a8, a9, a10, a11, rfl, rfl⟩
      obtain ⟨y, hy, rfl⟩ := enum_get hx
      rw [List.getElem?_map] at hy
      obtain ⟨z, hz, rfl⟩ := Option.map_eq_some_iff.mp hy
      refine ⟨_, rfl, ?_⟩
      have zm := List.mem_of_getElem? hz
      have zo := hb.deal z zm
      have no : z.name ∉ (b.deals.take i).map (·.name) := take_in (·.name) hb.dnd hz
      have hd : ∀ j : Nat, isoCall (run tb (k + 5)) "_look_at_head" [.t (.int (j : Nat)), .t (deT z), .ref 0] .frz [.lst (((b.deals.take i).map (·.name)).map .str)] = .ok (.t .non) [.lst (((b.deals.take i).map (·.name)).map .str)] := fun j => by
        refine iso_exp (xs := [.int (j : Nat), deT z, .lst (((b.deals.take i).map (·.name)).map .str)]) rfl ?_ (head_ok (k + 2) zo.name no j []) rfl
        rw [toTs_cons, toT_t, toTs_cons, toT_t, toTs_cons, toT_ref (Nat.zero_le _) rfl, toTs_nil]
      refine ss_expr fun K hK => ?_
      array_get_dec
      rw [hd]
      array_get_dec
      rw [hK]
      clear hK K
      refine ss_asg fun K hK => ?_
      array_get_dec
      rw [hK]
      refine ⟨_, by simp only [setTg, setTgs, tup_de]; rfl, ?_⟩
      clear hK K
      refine ss_expr fun K hK => ?_
      array_get_dec
      have kl : (b.deals.take i).length < lim := Nat.lt_of_lt_of_le (by rw [List.length_take]; omega : _ < 9) (lim_pos (by omega))
      rw [if_pos kl, hK]
      clear hK K
      refine ss_expr fun K hK => ?_
      array_get_dec
      rw [letters_iso k zo]
      array_get_dec
      rw [hK]
      clear hK K
      refine ss_expr fun K hK => ?_
      array_get_dec
      have lc2 : ∀ (S : Sto) (f : D → Sto → R (Option D)), (∀ s ∈ z.lets, f (.t (leT s)) S = .ok (some (.t (.str [s.1]))) S) → lcL f ((z.lets.map leT).map D.t) S = .ok ((z.lets.map fun s => T.str [s.1]).map .t) S := fun S f hf => lc_ofM (t := leT) (xs := z.lets) (fun s => .str [s.1]) hf
      have z4 := zo.lhi
      refine wp.of (lc2 _ _ fun s hs => ?_) ?_
      · simp only [setTg, setTgs, tup_le]
        array_get_dec
      · rw [if_pos (by rw [List.length_map, List.length_map]; exact lim_pos (by omega)), allT_map]
        array_get_dec
        have le : (z.lets.map fun s => T.str [s.1]) = (z.lets.map (·.1)).map fun c => T.str [c] := by rw [List.map_map]; rfl
        rw [le, steps_iso (k + 2) zo]
        array_get_dec
        rw [hK]
        clear hK K
        refine ss_expr fun K hK => ?_
        array_get_dec
        rw [idle_iso (k + 4) zo]
        array_get_dec
        rw [hK]
        exact ss_nil ⟨_, _, _, _, _, _, _, rfl, by rw [take_next hz]; simp⟩
    · rintro env S ⟨a3, a6, a7, a8, a9, a10, a11, rfl, rfl⟩
      exact ss_nil ⟨rfl, _, rfl⟩
/-! ### shown -/
theorem name_len {s : Cs} (h : NameOk s) : s.length ≤ 8 := h.hi
theorem row_kind (k : Cs × Bool) : rowC (wKind k) = "kind ".toList ++ k.1 ++ " ".toList ++ manyC k.2 := by
  have : "kind ".toList = dKind ++ [' '] := rfl
  rw [this]
  simp [rowC, wKind, joinC]
theorem row_step (s : Cs × Char) : rowC (wStep s) = s.1 ++ " ".toList ++ [s.2] := by
  have : " ".toList = [' '] := rfl
  rw [this]
  simp [rowC, wStep, joinC]
theorem strsT_map (ss : List Cs) : strsT (ss.map .str) = some ss := by
  induction ss with
  | nil => rfl
  | cons s r ih => simp only [List.map_cons, strsT, ih]
theorem join_ref {S : Sto} {n : Nat} {s : Cs} {ss : List Cs} (h : S[n]? = some (.lst (ss.map .str))) (h1 : ss.length ≤ lim) (h2 : ss.flatten.length ≤ lim) (h3 : s.length ≤ 10) : mtV .join (.t (.str s)) [.ref n] S = .ok (.t (.str (joinC s ss))) S := by
  simp only [mtV, asStr, joinL, asL, h, strsT_map, h1, h2, h3, and_self, if_true]
theorem ext_ref {S : Sto} {n : Nat} {xs ys : List T} (h : S[n]? = some (.lst xs)) (hl : xs.length + ys.length ≤ lim) : mtV .extend (.ref n) [.t (.lst ys)] S = .ok (.t .non) (S.set n (.lst (xs ++ ys))) := by
  simp only [mtV, cellL, asRef, h, asL, hl, if_true]
def rowsD' (d : Deal) : List Cs := (wordsD d).map rowC
def rowsUp (b : Book) (i : Nat) : List Cs := b.kinds.map (fun k => rowC (wKind k)) ++ (b.deals.take i).flatMap rowsD'
theorem rowsUp_len {b : Book} (hb : b.Ok) (i : Nat) : (rowsUp b i).length ≤ 80 := by
  have h1 : ∀ ds : List Deal, (∀ d ∈ ds, d.steps.length ≤ 8) → (ds.flatMap rowsD').length ≤ ds.length * 9 := fun ds => by
    induction ds with
    | nil => simp
    | cons d r ih =>
      intro h
      have a := ih fun x hx => h x (List.mem_cons_of_mem _ hx)
      have c := h d (by simp)
      simp only [List.flatMap_cons, List.length_append, List.length_cons, Nat.succ_mul, rowsD', wordsD, List.length_map] at a ⊢
      omega
  have h2 := h1 (b.deals.take i) fun d hd => (hb.deal d (List.mem_of_mem_take hd)).slen
  have h3 := hb.dhi
  have h4 := hb.khi
  rw [List.length_take] at h2
  unfold rowsUp
  rw [List.length_append, List.length_map]
  omega
theorem rowsUp_all (b : Book) : rowsUp b b.deals.length = (wordsB b).map rowC := by
  unfold rowsUp wordsB
  rw [List.take_length, List.map_append, List.map_map]
  congr 1
  generalize b.deals = ds
  induction ds with
  | nil => rfl
  | cons d r ih => rw [List.flatMap_cons, List.flatMap_cons, List.map_append, ih]; rfl
theorem rowsUp_next {b : Book} {i : Nat} {d : Deal} (h : b.deals[i]? = some d) : rowsUp b (i + 1) = rowsUp b i ++ ([rowC (wDeal d)] ++ d.steps.map fun s => rowC (wStep s)) := by
  unfold rowsUp
  rw [take_next h, List.flatMap_append, List.append_assoc]
  congr 2
  show rowsD' d ++ [] = _
  rw [List.append_nil]
  unfold rowsD' wordsD
  rw [List.map_cons, List.map_map]
  rfl
theorem deal_fold (d : Deal) : ∀ (ls : List (Char × Cs)) (acc : Cs), joinC " ".toList (acc :: ls.map wLet) = acc ++ ls.flatMap fun l => ' ' :: wLet l
  | [], acc => by simp [joinC]
  | l :: r, acc => by
    simp [joinC, List.flatMap_cons, List.flatMap_map]
def dealUp (d : Deal) (i : Nat) : Cs := "deal ".toList ++ d.name ++ (d.lets.take i).flatMap fun l => ' ' :: wLet l
theorem dealUp_all (d : Deal) : dealUp d d.lets.length = rowC (wDeal d) := by
  unfold dealUp rowC wDeal
  rw [List.take_length]
  have : joinC [' '] (dDeal :: d.name :: d.lets.map wLet) = dDeal ++ ([' '] ++ joinC [' '] (d.name :: d.lets.map wLet)) := join_cc _ _ _ _
  rw [this]
  have e : joinC [' '] (d.name :: d.lets.map wLet) = _ := deal_fold d d.lets d.name
  rw [e]
  have : "deal ".toList = dDeal ++ [' '] := rfl
  rw [this]
  simp
theorem dealUp_next {d : Deal} {i : Nat} {l : Char × Cs} (h : d.lets[i]? = some l) : dealUp d (i + 1) = dealUp d i ++ " ".toList ++ [l.1] ++ ":".toList ++ l.2 := by
  unfold dealUp
  rw [take_next h, List.flatMap_append]
  have e1 : " ".toList = [' '] := rfl
  have e2 : ":".toList = [':'] := rfl
  rw [e1, e2]
  simp [wLet]
theorem dealUp_len {ks : List Cs} {d : Deal} (h : d.Ok ks) (hk : ∀ k ∈ ks, NameOk k) (i : Nat) : (dealUp d i).length ≤ 60 := by
  have h1 : ∀ ls : List (Char × Cs), (∀ l ∈ ls, l.2.length ≤ 8) → (ls.flatMap fun l => ' ' :: wLet l).length ≤ ls.length * 11 := fun ls => by
    induction ls with
    | nil => simp
    | cons d r ih =>
      intro h
      have a := ih fun x hx => h x (List.mem_cons_of_mem _ hx)
      have c := h d (by simp)
      simp only [List.flatMap_cons, List.length_append, List.length_cons, Nat.succ_mul, wLet] at a ⊢
      omega
  have h2 := h1 (d.lets.take i) fun l hl => (hk _ (h.kind l (List.mem_of_mem_take hl))).hi
  have h3 := h.name.hi
  have h4 := h.lhi
  have e : "deal ".toList.length = 5 := rfl
  rw [List.length_take] at h2
  unfold dealUp
  rw [List.length_append, List.length_append, e]
  omega
theorem lshown_ok (k : Nat) {b : Book} (hb : b.Ok) : ∃ n S, S.all flatC = true ∧ S[n]? = some (.lst (((wordsB b).map rowC).map .str)) ∧ run tb (k + 1) "_law_shown" [.t (boT b)] [] = .ok (.ref n) S := by
  suffices h : wp (run tb (k + 1) "_law_shown" [.t (boT b)] []) (fun d S => ∃ n, d = .ref n ∧ S[n]? = some (.lst (((wordsB b).map rowC).map .str)) ∧ S.all flatC = true) noE by
    obtain ⟨d1, S1, e, n, rfl, hn, hf⟩ := h.get
    exact ⟨n, S1, hf, hn, e⟩
  refine wp_fn _ rfl rfl rfl ?_
  have khi := hb.khi
  refine ss_asg fun K hK => ?_
  array_get_dec
  rw [hK]
  refine ⟨_, rfl, ?_⟩
  clear hK K
  refine ss_for fun K hK => ?_
  array_get_dec
  rw [hK]
  clear hK K
  refine wp_for (fun i env S => ∃ (a2 a3 : Option D), env = [some (.t (boT b)), some (.ref 0), a2, a3, none, none, none, none, none, none] ∧ S = [.lst (((b.kinds.take i).map fun k => rowC (wKind k)).map .str)]) ⟨_, _, rfl, rfl⟩ ?_ ?_
  · rintro i x env S hx ⟨a2, a3, rfl, rfl⟩
    rw [List.getElem?_map] at hx
    obtain ⟨y, hy, rfl⟩ := Option.map_eq_some_iff.mp hx
    rw [List.getElem?_map] at hy
    obtain ⟨z, hz, rfl⟩ := Option.map_eq_some_iff.mp hy
    refine ⟨_, by simp only [setTg, setTgs, tup_ki]; rfl, ?_⟩
    have zm := List.mem_of_getElem? hz
    refine ss_expr fun K hK => ?_
    array_get_dec
    have h8 := name_len (hb.kok z zm)
    have e1 : "kind ".toList.length = 5 := rfl
    have lp : ∀ {n : Nat}, n ≤ 99999 → n ≤ lim := lim_pos
    have kl : (b.kinds.take i).length < lim := Nat.lt_of_lt_of_le (by rw [List.length_take]; omega : _ < 9) (lim_pos (by omega))
    have at_ : atI [D.t (T.str " one".toList), D.t (T.str " many".toList)] (b2 z.2) = some (.t (.str (' ' :: manyC z.2))) := by
      cases z.2 <;> rfl
    have rw_ : "kind ".toList ++ z.1 ++ ' ' :: manyC z.2 = rowC (wKind z) := by
      rw [row_kind, show " ".toList = [' '] from rfl]
      simp
    have ml : (manyC z.2).length ≤ 4 := by cases z.2 <;> decide
    rw [if_pos (lp (by omega)), at_]
    array_get_dec
    simp only [List.length_append, List.length_cons, e1]
    rw [if_pos (lp (by omega))]
    array_get_dec
    rw [if_pos (by simpa using kl), hK, rw_]
    exact ss_nil ⟨_, _, rfl, by rw [take_next hz]; simp⟩
  · rintro env S ⟨a2, a3, rfl, rfl⟩
    rw [andSs_nx]
    refine ss_for fun K hK => ?_
    array_get_dec
    rw [hK]
    clear hK K
    refine wp_for (fun i env S => ∃ (a2 a3 a4 a5 a6 a7 a8 a9 : Option D) (n : Nat), env = [some (.t (boT b)), some (.ref n), a2, a3, a4, a5, a6, a7, a8, a9] ∧ S[n]? = some (.lst ((rowsUp b i).map .str)) ∧ S.all flatC = true) ⟨_, _, _, _, _, _, _, _, 0, rfl, by simp [rowsUp], rfl⟩ ?_ ?_
    · rintro i x env S hx ⟨a2, a3, a4, a5, a6, a7, a8, a9, n, rfl, hn, hf⟩
      rw [List.getElem?_map] at hx
      obtain ⟨y, hy, rfl⟩ := Option.map_eq_some_iff.mp hx
      rw [List.getElem?_map] at hy
      obtain ⟨z, hz, rfl⟩ := Option.map_eq_some_iff.mp hy
      refine ⟨_, by simp only [setTg, setTgs, tup_de]; rfl, ?_⟩
      have zm := List.mem_of_getElem? hz
      have zo := hb.deal z zm
      have z8 := zo.slen
      have rl := rowsUp_len hb i
      have dl := dealUp_len zo fun k hk => (by
        obtain ⟨x, hx, rfl⟩ := List.mem_map.mp hk
        exact hb.kok x hx)
      have h8 := name_len zo.name
      have e1 : "deal ".toList.length = 5 := rfl
      have e2 : " ".toList.length = 1 := rfl
      have e3 : ":".toList.length = 1 := rfl
      have lp : ∀ {n : Nat}, n ≤ 99999 → n ≤ lim := lim_pos
      refine ss_asg fun K hK => ?_
      array_get_dec
      rw [if_pos (lp (by omega)), hK]
      refine ⟨_, rfl, ?_⟩
      clear hK K
      refine ss_for fun K hK => ?_
      array_get_dec
      rw [hK]
      clear hK K
      refine wp_for (fun j env S2 => ∃ (a2 a8 : Option D), env = [some (.t (boT b)), some (.ref n), a2, a3, some (.t (.str z.name)), some (.t (.lst (z.lets.map leT))), some (.t (.lst (z.steps.map stT))), some (.t (.str (dealUp z j))), a8, a9] ∧ S2 = S) ⟨a2, a8, by simp [dealUp], rfl⟩ ?_ ?_
      · rintro j x env S hx ⟨a2, a8, rfl, rfl⟩
        rw [List.getElem?_map] at hx
        obtain ⟨y, hy, rfl⟩ := Option.map_eq_some_iff.mp hx
        rw [List.getElem?_map] at hy
        obtain ⟨l, hl, rfl⟩ := Option.map_eq_some_iff.mp hy
        refine ⟨_, by simp only [setTg, setTgs, tup_le]; rfl, ?_⟩
        have l8 := name_len (lname hb zm (List.mem_of_getElem? hl))
        have dj := dl j
        refine ss_asg fun K hK => ?_
        array_get_dec
        simp only [List.length_append, List.length_cons, List.length_nil, e2, e3]
        rw [if_pos (lp (by omega)), if_pos (lp (by omega)), if_pos (lp (by omega)), if_pos (lp (by omega)), hK]
        refine ⟨_, rfl, ?_⟩
        exact ss_nil ⟨_, _, by rw [dealUp_next hl]; rfl, rfl⟩
      · rintro env S2 ⟨a2, a8, rfl, rfl⟩
        rw [andSs_nx]
        refine ss_expr fun K hK => ?_
        array_get_dec
        have kd : kndOf S2 (.ref n) = some (mtK .append) := knd_ref hn
        show (if kndOf S2 (.ref n) = some (mtK .append) then _ else False)
        rw [if_pos kd]
        simp only [hn]
        rw [if_pos (by rw [List.length_map]; exact Nat.lt_of_lt_of_le (by omega : _ < 81) (lim_pos (by omega))), wp_ok, hK, dealUp_all]
        clear hK K kd
        have hn3 : (S2.set n (.lst ((rowsUp b i).map .str ++ [.str (rowC (wDeal z))])))[n]? = some (.lst ((rowsUp b i).map .str ++ [.str (rowC (wDeal z))])) := List.getElem?_set_self (List.getElem?_eq_some_iff.mp hn).1
        have hf3 := flat_set (n := n) (c := .lst ((rowsUp b i).map .str ++ [.str (rowC (wDeal z))])) hf rfl
        generalize S2.set n (.lst ((rowsUp b i).map .str ++ [.str (rowC (wDeal z))])) = S3 at hn3 hf3
        refine ss_asg fun K hK => ?_
        array_get_dec
        have lc3 : ∀ (S : Sto) (f : D → Sto → R (Option D)), (∀ s ∈ z.steps, f (.t (stT s)) S = .ok (some (.t (.str (rowC (wStep s))))) S) → lcL f ((z.steps.map stT).map D.t) S = .ok ((z.steps.map fun s => T.str (rowC (wStep s))).map .t) S := fun S f hf => lc_ofM (t := stT) (xs := z.steps) (fun s => .str (rowC (wStep s))) hf
        refine wp.of (lc3 _ _ fun s hs => ?_) ?_
        · simp only [setTg, setTgs, tup_st]
          array_get_dec
          have h8 : s.1.length ≤ 5 := by
            rcases zo.deed s hs with e | e | e <;> rw [e] <;> decide
          rw [row_step]
          rw [e2, if_pos (lp (by omega))]
          simp only [R.bind_ok, add_str, List.length_append, List.length_cons, List.length_nil, e2]
          rw [if_pos (lp (by omega))]
          rfl
        · rw [if_pos (by rw [List.length_map, List.length_map]; exact lim_pos (by omega)), allT_map]
          array_get_dec
          have ad : binV .add (.ref n) (.t (.lst (z.steps.map fun s => T.str (rowC (wStep s))))) S3 = .ok (.t (.lst ((rowsUp b i).map T.str ++ [T.str (rowC (wDeal z))] ++ z.steps.map fun s => T.str (rowC (wStep s))))) S3 := by
            have hl : ((rowsUp b i).map T.str ++ [T.str (rowC (wDeal z))]).length + (z.steps.map fun s => T.str (rowC (wStep s))).length ≤ lim := by
              simp only [List.length_append, List.length_map, List.length_cons, List.length_nil]
              exact lp (by omega)
            simp only [binV, asInt, asStr, asL, hn3, hl, if_true]
          rw [ad]
          array_get_dec
          rw [hK]
          refine ⟨_, rfl, ?_⟩
          refine ss_nil ⟨_, _, _, _, _, _, _, _, S3.length, rfl, ?_, by simp [hf3, flatC]⟩
          rw [List.getElem?_append_right (Nat.le_refl _), Nat.sub_self, rowsUp_next hz]
          simp
    · rintro env S ⟨a2, a3, a4, a5, a6, a7, a8, a9, n, rfl, hn, hf⟩
      rw [andSs_nx]
      refine ss_ret fun K hK => ?_
      array_get_dec
      rw [hK, retQ_ret]
      exact ⟨n, rfl, by rw [hn, List.length_map, List.length_map, rowsUp_all], hf⟩
theorem lshown_iso (k : Nat) {b : Book} (hb : b.Ok) (S : Sto) : isoCall (run tb (k + 1)) "_law_shown" [.t (boT b)] .frz S = .ok (.t (.lst (((wordsB b).map rowC).map .str))) S := by
  obtain ⟨n, S1, hf, hn, e⟩ := lshown_ok k hb
  exact iso_eqC (xs := [boT b]) e hf (toT_ref (Nat.zero_le _) hn)
/-! ### read: the rows one by one -/
inductive Row5 where
  | k (x : Cs × Bool) | d (x : Deal) | s (x : Cs × Char)
def Row5.ws : Row5 → List Cs
  | .k x => wKind x
  | .d x => wDeal x
  | .s x => wStep x
def addS (d : Deal) (s : Cs × Char) : Deal := { d with steps := d.steps ++ [s] }
def stepB : Book → Row5 → Book
  | b, .k x => { b with kinds := b.kinds ++ [x] }
  | b, .d x => { b with deals := b.deals ++ [{ x with steps := [] }] }
  | b, .s x => match b.deals.getLast? with
    | some d => { b with deals := b.deals.dropLast ++ [addS d x] }
    | none => b
def preB (b : Book) : Row5 → Prop
  | .k _ => b.deals = []
  | .d _ => True
  | .s _ => b.deals ≠ []
def okRows : Book → List Row5 → Prop
  | _, [] => True
  | b, r :: rs => preB b r ∧ okRows (stepB b r) rs
theorem ok_app : ∀ (l r : List Row5) (b : Book), okRows b l → okRows (l.foldl stepB b) r → okRows b (l ++ r)
  | [], _, _, _, h => h
  | x :: l, r, b, h1, h2 => ⟨h1.1, ok_app l r _ h1.2 h2⟩
theorem ok_get : ∀ {l : List Row5} {b : Book} {i : Nat} {r : Row5}, okRows b l → l[i]? = some r → preB ((l.take i).foldl stepB b) r
  | [], _, _, _, _, e => by simp at e
  | x :: l, b, 0, r, h, e => by
    simp at e
    subst e
    exact h.1
  | x :: l, b, i + 1, r, h, e => by
    rw [List.take_succ_cons, List.foldl_cons]
    exact ok_get h.2 (by simpa using e)
def dealRows (d : Deal) : List Row5 := .d d :: d.steps.map .s
def bookRows (b : Book) : List Row5 := b.kinds.map .k ++ b.deals.flatMap dealRows
theorem bookRows_ws (b : Book) : (bookRows b).map Row5.ws = wordsB b := by
  unfold bookRows wordsB
  rw [List.map_append, List.map_map]
  congr 1
  generalize b.deals = ds
  induction ds with
  | nil => rfl
  | cons d r ih =>
    rw [List.flatMap_cons, List.flatMap_cons, List.map_append, ih]
    congr 1
    unfold dealRows wordsD
    rw [List.map_cons, List.map_map]
    rfl
theorem kinds_fold : ∀ (ks acc : List (Cs × Bool)), okRows ⟨acc, []⟩ (ks.map .k) ∧ (ks.map Row5.k).foldl stepB ⟨acc, []⟩ = ⟨acc ++ ks, []⟩
  | [], acc => ⟨trivial, by simp⟩
  | x :: r, acc => by
    obtain ⟨h1, h2⟩ := kinds_fold r (acc ++ [x])
    refine ⟨⟨rfl, h1⟩, ?_⟩
    rw [List.map_cons, List.foldl_cons]
    show (r.map Row5.k).foldl stepB ⟨acc ++ [x], []⟩ = _
    rw [h2]
    simp
theorem steps_fold (ks : List (Cs × Bool)) (ds : List Deal) : ∀ (ss : List (Cs × Char)) (d : Deal), okRows ⟨ks, ds ++ [d]⟩ (ss.map .s) ∧ (ss.map Row5.s).foldl stepB ⟨ks, ds ++ [d]⟩ = ⟨ks, ds ++ [{ d with steps := d.steps ++ ss }]⟩
  | [], d => ⟨trivial, by simp⟩
  | x :: r, d => by
    obtain ⟨h1, h2⟩ := steps_fold ks ds r (addS d x)
    have e : stepB ⟨ks, ds ++ [d]⟩ (.s x) = ⟨ks, ds ++ [addS d x]⟩ := by
      simp [stepB]
    refine ⟨⟨by simp [preB], by rw [e]; exact h1⟩, ?_⟩
    rw [List.map_cons, List.foldl_cons, e, h2]
    simp [addS]
theorem deals_fold (ks : List (Cs × Bool)) : ∀ (ds acc : List Deal), okRows ⟨ks, acc⟩ (ds.flatMap dealRows) ∧ (ds.flatMap dealRows).foldl stepB ⟨ks, acc⟩ = ⟨ks, acc ++ ds⟩
  | [], acc => ⟨trivial, by simp⟩
  | d :: r, acc => by
    obtain ⟨h1, h2⟩ := deals_fold ks r (acc ++ [d])
    obtain ⟨h3, h4⟩ := steps_fold ks acc d.steps { d with steps := [] }
    have e : (dealRows d).foldl stepB ⟨ks, acc⟩ = ⟨ks, acc ++ [d]⟩ := by
      unfold dealRows
      rw [List.foldl_cons]
      show (d.steps.map Row5.s).foldl stepB ⟨ks, acc ++ [{ d with steps := [] }]⟩ = _
      rw [h4]
      rfl
    rw [List.flatMap_cons]
    refine ⟨ok_app _ _ _ ⟨trivial, h3⟩ (by rw [e]; exact h1), ?_⟩
    rw [List.foldl_append, e, h2]
    simp
theorem book_fold (b : Book) : okRows ⟨[], []⟩ (bookRows b) ∧ (bookRows b).foldl stepB ⟨[], []⟩ = b := by
  obtain ⟨h1, h2⟩ := kinds_fold b.kinds []
  obtain ⟨h3, h4⟩ := deals_fold b.kinds b.deals []
  rw [List.nil_append] at h2 h4
  unfold bookRows
  refine ⟨ok_app _ _ _ h1 (by rw [h2]; exact h3), ?_⟩
  rw [List.foldl_append, h2, h4]
/-! ### the cells -/
def cellsOf (ds : List Deal) : Sto := ds.flatMap fun d => [.lst (d.lets.map leT), .lst (d.steps.map stT)]
theorem cells_len : ∀ ds : List Deal, (cellsOf ds).length = 2 * ds.length
  | [] => rfl
  | d :: r => by
    show ([Cell.lst (d.lets.map leT), .lst (d.steps.map stT)] ++ cellsOf r).length = _
    rw [List.length_append, cells_len r]
    simp
    omega
theorem cells_app (ds es : List Deal) : cellsOf (ds ++ es) = cellsOf ds ++ cellsOf es := List.flatMap_append
def rowsD : Nat → List Deal → List D
  | _, [] => []
  | n, d :: r => .tp [.t (.str d.name), .ref n, .ref (n + 1)] :: rowsD (n + 2) r
theorem rows_len : ∀ (ds : List Deal) (n : Nat), (rowsD n ds).length = ds.length
  | [], _ => rfl
  | d :: r, n => by
    show (rowsD (n + 2) r).length + 1 = _
    rw [rows_len r]
    rfl
theorem rows_app : ∀ (ds : List Deal) (n : Nat) (d : Deal), rowsD n (ds ++ [d]) = rowsD n ds ++ [.tp [.t (.str d.name), .ref (n + 2 * ds.length), .ref (n + 2 * ds.length + 1)]]
  | [], n, d => rfl
  | e :: r, n, d => by
    show _ :: rowsD (n + 2) (r ++ [d]) = _ :: (rowsD (n + 2) r ++ _)
    rw [rows_app r]
    congr 3
    have : n + 2 + 2 * r.length = n + 2 * (e :: r).length := by simp only [List.length_cons]; omega
    rw [this]
def dealC (n : Nat) (ds : List Deal) : Cell := match ds with
  | [] => .lst []
  | _ => .lsr (rowsD n ds)
def stB (S0 : Sto) (b : Book) : Sto := S0 ++ [.lst (b.kinds.map kiT), dealC (S0.length + 2) b.deals] ++ cellsOf b.deals
theorem stB_k (S0 : Sto) (b : Book) : (stB S0 b)[S0.length]? = some (.lst (b.kinds.map kiT)) := by
  unfold stB
  rw [List.append_assoc, List.getElem?_append_right (Nat.le_refl _), Nat.sub_self]
  rfl
theorem stB_d (S0 : Sto) (b : Book) : (stB S0 b)[S0.length + 1]? = some (dealC (S0.length + 2) b.deals) := by
  unfold stB
  rw [List.append_assoc, List.getElem?_append_right (by omega), show S0.length + 1 - S0.length = 1 by omega]
  rfl
theorem stB_c (S0 : Sto) (b : Book) (i : Nat) : (stB S0 b)[S0.length + 2 + i]? = (cellsOf b.deals)[i]? := by
  unfold stB
  have e : (S0 ++ [Cell.lst (b.kinds.map kiT), dealC (S0.length + 2) b.deals]).length = S0.length + 2 := by simp
  rw [List.getElem?_append_right (by omega), e]
  congr 1
  omega
theorem stB_0 (S0 : Sto) (b : Book) {i : Nat} (h : i < S0.length) : (stB S0 b)[i]? = S0[i]? := by
  unfold stB
  rw [List.append_assoc, List.getElem?_append_left h]
theorem stB_len (S0 : Sto) (b : Book) : (stB S0 b).length = S0.length + 2 + 2 * b.deals.length := by
  unfold stB
  simp [cells_len]
  omega
theorem told_read {S : Sto} {n m c : Nat} {b : Book} {ds : List Deal} (h1 : S[n]? = some (.lst (b.kinds.map kiT))) (h2 : S[m]? = some (.lsr (rowsD c ds))) (h3 : ∀ i < (cellsOf ds).length, S[c + i]? = (cellsOf ds)[i]?) : toT 0 S (.tp [.ref n, .ref m]) = some (.tup [.lst (b.kinds.map kiT), .lst (ds.map deT)]) := by
  have rows : ∀ (ds : List Deal) (c : Nat), (∀ i < (cellsOf ds).length, S[c + i]? = (cellsOf ds)[i]?) → allO ((rowsD c ds).map (toTf 6 0 S)) = some (ds.map deT) := by
    intro ds
    induction ds with
    | nil => intro c _; rfl
    | cons d r ih =>
      intro c h
      have l : (cellsOf (d :: r)).length = 2 + (cellsOf r).length := by rw [cells_len, cells_len]; simp only [List.length_cons]; omega
      have ih := ih (c + 2) fun i hi => by
        have := h (2 + i) (by omega)
        rw [show c + 2 + i = c + (2 + i) by omega, this]
        show ([Cell.lst (d.lets.map leT), .lst (d.steps.map stT)] ++ cellsOf r)[2 + i]? = _
        rw [List.getElem?_append_right (by simp)]
        simp
      have a0 : S[c]? = some (.lst (d.lets.map leT)) := by
        have := h 0 (by omega)
        simpa [cellsOf] using this
      have a1 : S[c + 1]? = some (.lst (d.steps.map stT)) := by
        have := h 1 (by omega)
        simpa [cellsOf] using this
      show allO (toTf 6 0 S (.tp [.t (.str d.name), .ref c, .ref (c + 1)]) :: (rowsD (c + 2) r).map (toTf 6 0 S)) = _
      have e : toTf 6 0 S (.tp [.t (.str d.name), .ref c, .ref (c + 1)]) = some (deT d) := by
        refine toTf_tp ?_
        rw [List.map_cons, List.map_cons, List.map_cons, toTf_t, toTf_lst (Nat.zero_le _) a0, toTf_lst (Nat.zero_le _) a1]
        rfl
      rw [e, allO_cons, ih]
      rfl
  refine toTf_tp ?_
  rw [List.map_cons, List.map_cons, toTf_lst (Nat.zero_le _) h1, toTf_lsr (Nat.zero_le _) h2 (rows ds c h3)]
  rfl

theorem shr_eq {Φ : Or} {f : String} {ds : List D} {S : Sto} : isoCall Φ f ds .shr S = Φ f ds S := rfl
theorem cut_take {α : Type} {xs : List α} {q : Nat} : cut xs none (some (q : Int)) = xs.take q := by
  unfold cut
  rw [_root_.HT.sIx_nat, show _root_.HT.sIx xs.length 0 none = 0 from rfl, List.drop_zero, Nat.sub_zero]
  exact List.take_eq_take_iff.mpr (by omega)
theorem cut_drop {α : Type} {xs : List α} {q : Nat} : cut xs (some (q : Int)) none = xs.drop q := by
  unfold cut
  rw [_root_.HT.sIx_nat, show _root_.HT.sIx xs.length xs.length none = xs.length from rfl]
  by_cases h : q ≤ xs.length
  · rw [Nat.min_eq_left h]
    exact List.take_of_length_le (by simp)
  · rw [Nat.min_eq_right (by omega), Nat.sub_self, List.take_zero, List.drop_of_length_le (by omega)]
/-! ### a row's words -/
theorem lword_iso (k : Nat) {l : Char × Cs} (h1 : l.1 ∈ abc) (h2 : NameOk l.2) (S : Sto) : isoCall (run tb (k + 1)) "_is_letter_word" [.t (.str (wLet l))] .frz S = .ok (.t (.bl true)) S := by
  have nc : ∀ c ∈ abc, c ≠ ':' := by decide
  have f0 : l.2.filter (fun x => x == ':') = [] := List.filter_eq_nil_iff.mpr fun c hc e => nc c (h2.low c hc) (by simpa using e)
  have cnt : ((wLet l).filter fun x => x == ':').length = 1 := by
    unfold wLet
    rw [List.filter_cons_of_neg (by simpa using nc _ h1), List.filter_cons_of_pos (by simp), f0]
    rfl
  have hd : ((wLet l).head? == some ':') = false := by
    show (some l.1 == some ':') = false
    simpa using nc _ h1
  have la : ((wLet l).getLast? == some ':') = false := by
    obtain ⟨r, c, e⟩ : ∃ r c, l.2 = r ++ [c] := by
      rcases List.eq_nil_or_concat l.2 with h | ⟨r, c, h⟩
      · have := h2.lo; rw [h] at this; simp at this
      · exact ⟨r, c, by simpa using h⟩
    have : wLet l = l.1 :: ':' :: r ++ [c] := by unfold wLet; rw [e]; rfl
    rw [this, List.getLast?_concat]
    simpa using nc c (h2.low c (by rw [e]; simp))
  refine iso1 (eq_of (wp_fn _ rfl rfl rfl ?_))
  have z : ":".toList = [':'] := rfl
  have c1 : ∀ S, mtV .count (.t (.str (wLet l))) [.t (.str [':'])] S = .ok (.t (.int 1)) S := fun S => by
    simp only [mtV, asStr, oneSign, show (':' : Char).toNat < 128 from by decide, if_true, cnt]
    rfl
  have c2 : ∀ S, mtV .starts (.t (.str (wLet l))) [.t (.str [':'])] S = .ok (.t (.bl false)) S := fun S => by
    simp only [mtV, asStr, oneSign, show (':' : Char).toNat < 128 from by decide, if_true, hd]
  have c3 : ∀ S, mtV .ends (.t (.str (wLet l))) [.t (.str [':'])] S = .ok (.t (.bl false)) S := fun S => by
    simp only [mtV, asStr, oneSign, show (':' : Char).toNat < 128 from by decide, if_true, la]
  refine ss_ret fun K hK => ?_
  array_get_dec
  rw [z, c1]
  array_get_dec
  rw [c2]
  array_get_dec
  rw [c3]
  array_get_dec
  rw [hK, retQ_ret]
  exact ⟨rfl, rfl⟩
theorem letof_keep (k : Nat) {l : Char × Cs} (h1 : l.1 ∈ abc) (h2 : NameOk l.2) (S : Sto) : isoCall (run tb (k + 1)) "_letter_of" [.t (.str (wLet l))] .keep S = .ok (.t (leT l)) S := by
  have hl : (wLet l).length ≤ lim := by
    have := h2.hi
    have e : (wLet l).length = l.2.length + 2 := rfl
    rw [e]
    exact lim_pos (by omega)
  have z : ":".toList = [':'] := rfl
  have c1 : ∀ S, mtV .part (.t (.str (wLet l))) [.t (.str [':'])] S = .ok (.t (.tup [.str [l.1], .str [':'], .str l.2])) S := fun S => by
    simp only [mtV, asStr, oneSign, show (':' : Char).toNat < 128 from by decide, if_true, hl, part_let h1]
  have e : run tb (k + 1) "_letter_of" [.t (.str (wLet l))] [] = .ok (.t (leT l)) [] := by
    refine eq_of (wp_fn _ rfl rfl rfl ?_)
    refine ss_asg fun K hK => ?_
    array_get_dec
    rw [z, c1]
    array_get_dec
    rw [hK]
    refine ⟨_, rfl, ?_⟩
    clear hK K
    refine ss_ret fun K hK => ?_
    array_get_dec
    rw [hK, retQ_ret]
    exact ⟨rfl, rfl⟩
  have := iso_keepD (xs := [.str (wLet l)]) (S := S) (d' := .t (leT l)) e rfl rfl
  rw [List.append_nil] at this
  exact this
def rowOk (ks : List Cs) : Row5 → Prop
  | .k x => NameOk x.1
  | .d x => x.Ok ks
  | .s x => isDeed x.1 ∧ x.2 ∈ abc
theorem isrow_iso (k : Nat) {ks : List Cs} (hk : ∀ x ∈ ks, NameOk x) (r : Row5) (hr : rowOk ks r) (hw : Words r.ws) (S : Sto) : isoCall (run tb (k + 2)) "_is_row" [.t (.lst (r.ws.map .str))] .frz S = .ok (.t (.bl true)) S := by
  refine iso1 (eq_of (wp_fn _ rfl rfl rfl ?_))
  have ne : ([] : Cs) ∉ r.ws := fun h => (hw.cl _ h).ne rfl
  refine ss_if0 fun K hK => ?_
  array_get_dec
  rw [in_lst rfl (plainN_strs 7 _), any_no ne]
  array_get_dec
  rw [hK, if_neg (by decide)]
  clear hK K
  cases r with
  | k x =>
    have w : (Row5.k x).ws = [dKind, x.1, manyC x.2] := rfl
    rw [w]
    refine ss_if0 fun K hK => ?_
    array_get_dec
    rw [hK, if_pos (by decide)]
    clear hK K
    refine ss_ret fun K hK => ?_
    array_get_dec
    have i1 : ∀ S, cmpV .inn (.t (.str (manyC x.2))) (.t (.tup [.str "many".toList, .str "one".toList])) S = some true := fun S => by
      cases x.2 <;> rfl
    rw [if_pos (by decide), i1]
    array_get_dec
    rw [hK, andSs_ret, retQ_ret]
    exact ⟨rfl, rfl⟩
  | d x =>
    have w : (Row5.d x).ws = dDeal :: x.name :: x.lets.map wLet := rfl
    rw [w]
    refine ss_if0 fun K hK => ?_
    array_get_dec
    rw [hK, if_neg (by decide)]
    clear hK K
    refine ss_if0 fun K hK => ?_
    array_get_dec
    rw [hK, if_pos (by decide)]
    clear hK K
    refine ss_ret fun K hK => ?_
    array_get_dec
    have hr : x.Ok ks := hr
    have l1 := hr.llo
    have l4 := hr.lhi
    have cu : cut (T.str dDeal :: T.str x.name :: (x.lets.map wLet).map T.str) (some 2) none = x.lets.map fun l => T.str (wLet l) := by
      have := cut_drop (xs := T.str dDeal :: T.str x.name :: (x.lets.map wLet).map T.str) (q := 2)
      rw [List.map_map] at this ⊢
      exact this
    rw [if_pos (decide_eq_true (by omega)), cu]
    refine wp.of (lc_ofM (t := fun l => T.str (wLet l)) (xs := x.lets) (fun l => .bl true) fun l hl => ?_) ?_
    · rw [lword_iso k (hr.low l hl) (hk _ (hr.kind l hl))]
      rfl
    · rw [if_pos (by rw [List.length_map, List.length_map]; exact lim_pos (by omega)), allT_map]
      array_get_dec
      rw [bi_allM (fun _ => true)]
      array_get_dec
      rw [hK, andSs_ret, retQ_ret]
      exact ⟨by simp, rfl⟩
  | s x =>
    have w : (Row5.s x).ws = [x.1, [x.2]] := rfl
    rw [w]
    obtain ⟨hd, _⟩ := (show isDeed x.1 ∧ x.2 ∈ abc from hr)
    have n1 : (x.1 == "kind".toList) = false := by
      rcases hd with e | e | e <;> rw [e] <;> rfl
    have n2 : (x.1 == "deal".toList) = false := by
      rcases hd with e | e | e <;> rw [e] <;> rfl
    have dd : ∀ S, cmpV .inn (.t (.str x.1)) (.t (.tup [.str "read".toList, .str "write".toList, .str "ask".toList])) S = some true := fun S => by
      rcases hd with e | e | e <;> rw [e] <;> rfl
    refine ss_if0 fun K hK => ?_
    array_get_dec
    rw [n1, hK, if_neg (by decide)]
    clear hK K
    refine ss_if0 fun K hK => ?_
    array_get_dec
    rw [n2, hK, if_neg (by decide)]
    clear hK K
    refine ss_ret fun K hK => ?_
    array_get_dec
    rw [dd]
    array_get_dec
    rw [hK, retQ_ret]
    exact ⟨rfl, rfl⟩
/-! ### where a row may stand, and what it puts -/
theorem stand_shr (k : Nat) (r : Row5) {ks : List Cs} (hr : rowOk ks r) {S0 : Sto} {b : Book} (hp : preB b r) (h8 : b.deals.length ≤ 8) : isoCall (run tb (k + 1)) "_may_stand" [.t (.str (r.ws.headD [])), .ref (S0.length + 1)] .shr (stB S0 b) = .ok (.t (.bl true)) (stB S0 b) := by
  have hd := stB_d S0 b
  show run tb (k + 1) "_may_stand" [.t (.str (r.ws.headD [])), .ref (S0.length + 1)] (stB S0 b) = _
  generalize stB S0 b = S1 at hd
  refine eq_of (wp_fn _ rfl rfl rfl ?_)
  cases r with
  | k x =>
    have hp : b.deals = [] := hp
    rw [hp] at hd
    refine ss_if0 fun K hK => ?_
    array_get_dec
    have n1 : ((Row5.k x).ws.headD [] == "kind".toList) = true := by
      show (dKind == dKind) = true
      decide
    rw [n1, hK, if_pos rfl]
    clear hK K
    refine ss_ret fun K hK => ?_
    array_get_dec
    rw [hd]
    unfold dealC
    array_get_dec
    rw [hK, andSs_ret, retQ_ret]
    exact ⟨rfl, rfl⟩
  | d x =>
    refine ss_if0 fun K hK => ?_
    array_get_dec
    have n1 : ((Row5.d x).ws.headD [] == "kind".toList) = false := by
      show (dDeal == dKind) = false
      decide
    have e : ((Row5.d x).ws.headD [] == "deal".toList) = true := by
      show (dDeal == dDeal) = true
      decide
    rw [n1, hK, if_neg (by decide)]
    clear hK K
    refine ss_ret fun K hK => ?_
    array_get_dec
    simp only [e]
    array_get_dec
    rw [hK, retQ_ret]
    exact ⟨rfl, rfl⟩
  | s x =>
    have hp : b.deals ≠ [] := hp
    obtain ⟨hdd, _⟩ := (show isDeed x.1 ∧ x.2 ∈ abc from hr)
    have n1 : ((Row5.s x).ws.headD [] == "kind".toList) = false := by
      show (x.1 == "kind".toList) = false
      rcases hdd with e | e | e <;> rw [e] <;> rfl
    have n2 : ((Row5.s x).ws.headD [] == "deal".toList) = false := by
      show (x.1 == "deal".toList) = false
      rcases hdd with e | e | e <;> rw [e] <;> rfl
    obtain ⟨d0, dr, e⟩ : ∃ d0 dr, b.deals = d0 :: dr := by
      cases h : b.deals with
      | nil => exact absurd h hp
      | cons d r => exact ⟨d, r, rfl⟩
    rw [e] at hd h8
    refine ss_if0 fun K hK => ?_
    array_get_dec
    rw [n1, hK, if_neg (by decide)]
    clear hK K
    refine ss_ret fun K hK => ?_
    array_get_dec
    simp only [n2]
    array_get_dec
    rw [hd]
    unfold dealC
    array_get_dec
    rw [rows_len, hK, retQ_ret]
    exact ⟨by rw [decide_eq_true (by simp only [List.length_cons]; omega)], rfl⟩
theorem set_at {α : Type} (x y : α) (q : List α) : ∀ p : List α, (p ++ x :: q).set p.length y = p ++ y :: q
  | [] => rfl
  | z :: r => by
    show z :: (r ++ x :: q).set r.length y = _
    rw [set_at x y q r]
    rfl
theorem put_k (S0 : Sto) (b : Book) (x : Cs × Bool) : (stB S0 b).set S0.length (.lst (b.kinds.map kiT ++ [kiT x])) = stB S0 { b with kinds := b.kinds ++ [x] } := by
  unfold stB
  rw [List.append_assoc, List.append_assoc]
  show (S0 ++ .lst (b.kinds.map kiT) :: ([dealC (S0.length + 2) b.deals] ++ cellsOf b.deals)).set S0.length _ = _
  rw [set_at, List.map_append]
  rfl
theorem put_d (S0 : Sto) (b : Book) (x : Deal) : (stB S0 b ++ [Cell.lst (x.lets.map leT)] ++ [Cell.lst []]).set (S0.length + 1) (Cell.lsr (rowsD (S0.length + 2) b.deals ++ [D.tp [.t (.str x.name), .ref (S0.length + 2 + 2 * b.deals.length), .ref (S0.length + 2 + 2 * b.deals.length + 1)]])) = stB S0 { b with deals := b.deals ++ [{ x with steps := [] }] } := by
  have e : stB S0 b ++ [Cell.lst (x.lets.map leT)] ++ [Cell.lst []] = (S0 ++ [Cell.lst (b.kinds.map kiT)]) ++ dealC (S0.length + 2) b.deals :: (cellsOf b.deals ++ [Cell.lst (x.lets.map leT), Cell.lst []]) := by
    unfold stB
    simp
  have l : S0.length + 1 = (S0 ++ [Cell.lst (b.kinds.map kiT)]).length := by simp
  rw [e, l, set_at]
  unfold stB
  have c : dealC (S0.length + 2) (b.deals ++ [{ x with steps := [] }]) = Cell.lsr (rowsD (S0.length + 2) (b.deals ++ [{ x with steps := [] }])) := by
    cases b.deals <;> rfl
  rw [c, rows_app, cells_app]
  simp [cellsOf]
theorem put_s (S0 : Sto) (ks : List (Cs × Bool)) (dr : List Deal) (d : Deal) (x : Cs × Char) : (stB S0 ⟨ks, dr ++ [d]⟩).set (S0.length + 2 + 2 * dr.length + 1) (.lst (d.steps.map stT ++ [stT x])) = stB S0 ⟨ks, dr ++ [addS d x]⟩ := by
  have c : ∀ d : Deal, dealC (S0.length + 2) (dr ++ [d]) = Cell.lsr (rowsD (S0.length + 2) (dr ++ [d])) := fun d => by
    cases dr <;> rfl
  have e : ∀ d : Deal, stB S0 ⟨ks, dr ++ [d]⟩ = (S0 ++ [Cell.lst (ks.map kiT), Cell.lsr (rowsD (S0.length + 2) (dr ++ [d]))] ++ cellsOf dr ++ [Cell.lst (d.lets.map leT)]) ++ Cell.lst (d.steps.map stT) :: [] := fun d => by
    unfold stB
    show S0 ++ [Cell.lst (ks.map kiT), dealC (S0.length + 2) (dr ++ [d])] ++ cellsOf (dr ++ [d]) = _
    rw [c, cells_app]
    simp [cellsOf]
  have l : S0.length + 2 + 2 * dr.length + 1 = (S0 ++ [Cell.lst (ks.map kiT), Cell.lsr (rowsD (S0.length + 2) (dr ++ [d]))] ++ cellsOf dr ++ [Cell.lst (d.lets.map leT)]).length := by
    simp [cells_len]
    omega
  rw [e, l, set_at, e, rows_app, rows_app]
  simp [addS]
theorem app_tp {S : Sto} {n c : Nat} {ds : List Deal} {xs : List D} (h : S[n]? = some (dealC c ds)) (hl : ds.length < lim) : mtV .append (.ref n) [.tp xs] S = .ok (.t .non) (S.set n (.lsr (rowsD c ds ++ [.tp xs]))) := by
  cases ds with
  | nil =>
    have h : S[n]? = some (.lst []) := h
    simp only [List.length_nil] at hl
    simp only [mtV, cellL, cellR, asRef, h, asTree, List.map_nil, List.length_nil, hl, if_true]
    rfl
  | cons d r =>
    have h : S[n]? = some (.lsr (rowsD c (d :: r))) := h
    have hl : (rowsD c (d :: r)).length < lim := by rw [rows_len]; exact hl
    simp only [mtV, cellL, cellR, asRef, h, hl, if_true]
theorem mkC_map {α : Type} (f : α → T) (xs : List α) : mkC ((xs.map f).map .t) = .lst (xs.map f) := by
  unfold mkC
  rw [allT_map]
theorem put_shr (k : Nat) (r : Row5) {ks : List Cs} (hk : ∀ x ∈ ks, NameOk x) (hr : rowOk ks r) {S0 : Sto} {b : Book} (hp : preB b r) (h6 : b.kinds.length ≤ 8) (h8 : b.deals.length ≤ 8) (hs : ∀ d ∈ b.deals, d.steps.length ≤ 8) : isoCall (run tb (k + 2)) "_put" [.t (.lst (r.ws.map .str)), .ref S0.length, .ref (S0.length + 1)] .shr (stB S0 b) = .ok (.t .non) (stB S0 (stepB b r)) := by
  show run tb (k + 2) "_put" [.t (.lst (r.ws.map .str)), .ref S0.length, .ref (S0.length + 1)] (stB S0 b) = _
  refine eq_of (wp_fn _ rfl rfl rfl ?_)
  have lp : ∀ {n : Nat}, n ≤ 99999 → n ≤ lim := lim_pos
  cases r with
  | k x =>
    have w : (Row5.k x).ws = [dKind, x.1, manyC x.2] := rfl
    have hkk := stB_k S0 b
    rw [w]
    refine ss_ife fun K hK => ?_
    array_get_dec
    have n1 : (dKind == "kind".toList) = true := by decide
    rw [n1, hK, if_pos rfl]
    clear hK K
    refine ss_expr fun K hK => ?_
    array_get_dec
    have kd : kndOf (stB S0 b) (.ref S0.length) = some (mtK .append) := knd_ref hkk
    show (if kndOf (stB S0 b) (.ref S0.length) = some (mtK .append) then _ else False)
    rw [if_pos kd]
    simp only [hkk]
    have mm : (manyC x.2 == "many".toList) = x.2 := by cases x.2 <;> decide
    rw [if_pos (by rw [List.length_map]; exact Nat.lt_of_lt_of_le (by omega : _ < 9) (lp (by omega))), wp_ok, hK, mm]
    exact ss_nil (and_nil ⟨rfl, put_k S0 b x⟩)
  | d x =>
    have w : (Row5.d x).ws = dDeal :: x.name :: x.lets.map wLet := rfl
    rw [w]
    refine ss_ife fun K hK => ?_
    array_get_dec
    have n1 : (dDeal == "kind".toList) = false := by decide
    rw [n1, hK, if_neg (by decide)]
    clear hK K
    refine ss_ife fun K hK => ?_
    array_get_dec
    have n2 : (dDeal == "deal".toList) = true := by decide
    rw [n2, hK, if_pos rfl]
    clear hK K
    refine ss_expr fun K hK => ?_
    array_get_dec
    have hd := stB_d S0 b
    have kd : kndOf (stB S0 b) (.ref (S0.length + 1)) = some (mtK .append) := by
      simp only [kndOf, hd]
      unfold dealC
      cases b.deals <;> rfl
    show wp (if kndOf (stB S0 b) (.ref (S0.length + 1)) = some (mtK .append) then _ else _) K noE
    have hr : x.Ok ks := hr
    have l4 := hr.lhi
    have cu : cut (T.str dDeal :: T.str x.name :: (x.lets.map wLet).map T.str) (some 2) none = x.lets.map fun l => T.str (wLet l) := by
      have := cut_drop (xs := T.str dDeal :: T.str x.name :: (x.lets.map wLet).map T.str) (q := 2)
      rw [List.map_map] at this ⊢
      exact this
    rw [if_pos kd, cu, lc_ofM (t := fun l => T.str (wLet l)) (xs := x.lets) leT fun l hl => (by rw [letof_keep k (hr.low l hl) (hk _ (hr.kind l hl))]; rfl)]
    simp only [R.bind_ok]
    rw [if_pos (by rw [List.length_map, List.length_map]; exact lp (by omega)), mkC_map]
    simp only [R.bind_ok, allT_cons, List.length_append, List.length_cons, List.length_nil]
    show wp (mtV .append (.ref (S0.length + 1)) [.tp [.t (.str x.name), .ref (stB S0 b).length, .ref ((stB S0 b).length + 1)]] (stB S0 b ++ [Cell.lst (x.lets.map leT)] ++ [Cell.lst []])) K noE
    have hl := stB_len S0 b
    rw [app_tp (ds := b.deals) (c := S0.length + 2) (by rw [List.append_assoc, List.getElem?_append_left (by omega), hd]) (Nat.lt_of_lt_of_le (by omega : _ < 9) (lp (by omega))), wp_ok, hK, hl]
    exact ss_nil (and_nil (and_nil ⟨rfl, put_d S0 b x⟩))
  | s x =>
    have hp : b.deals ≠ [] := hp
    obtain ⟨dr, d, e⟩ : ∃ dr d, b.deals = dr ++ [d] := by
      rcases List.eq_nil_or_concat b.deals with h | ⟨dr, d, h⟩
      · exact absurd h hp
      · exact ⟨dr, d, by simpa using h⟩
    obtain ⟨kk, dd⟩ := b
    have e : dd = dr ++ [d] := e
    subst e
    obtain ⟨hdd, _⟩ := (show isDeed x.1 ∧ x.2 ∈ abc from hr)
    have n1 : (x.1 == "kind".toList) = false := by
      rcases hdd with e | e | e <;> rw [e] <;> rfl
    have n2 : (x.1 == "deal".toList) = false := by
      rcases hdd with e | e | e <;> rw [e] <;> rfl
    have w : (Row5.s x).ws = [x.1, [x.2]] := rfl
    rw [w]
    refine ss_ife fun K hK => ?_
    array_get_dec
    rw [n1, hK, if_neg (by decide)]
    clear hK K
    refine ss_ife fun K hK => ?_
    array_get_dec
    rw [n2, hK, if_neg (by decide)]
    clear hK K
    have hd : (stB S0 ⟨kk, dr ++ [d]⟩)[S0.length + 1]? = some (.lsr (rowsD (S0.length + 2) dr ++ [.tp [.t (.str d.name), .ref (S0.length + 2 + 2 * dr.length), .ref (S0.length + 2 + 2 * dr.length + 1)]])) := by
      rw [stB_d, ← rows_app]
      cases dr <;> rfl
    have hc : (stB S0 ⟨kk, dr ++ [d]⟩)[S0.length + 2 + 2 * dr.length + 1]? = some (.lst (d.steps.map stT)) := by
      rw [Nat.add_assoc (S0.length + 2), stB_c]
      show (cellsOf (dr ++ [d]))[2 * dr.length + 1]? = _
      rw [cells_app, List.getElem?_append_right (by rw [cells_len]; omega), cells_len]
      rw [show 2 * dr.length + 1 - 2 * dr.length = 1 by omega]
      rfl
    have s8 := hs d (by simp)
    have st := put_s S0 kk dr d x
    have es : stepB ⟨kk, dr ++ [d]⟩ (.s x) = ⟨kk, dr ++ [addS d x]⟩ := by simp [stepB]
    rw [es, ← st]
    generalize stB S0 ⟨kk, dr ++ [d]⟩ = S1 at hd hc
    refine ss_expr fun K hK => ?_
    array_get_dec
    rw [hd]
    simp only [atI_last]
    array_get_dec
    have kd : kndOf S1 (.ref (S0.length + 2 + 2 * dr.length + 1)) = some (mtK .append) := knd_ref hc
    show (if kndOf S1 (.ref (S0.length + 2 + 2 * dr.length + 1)) = some (mtK .append) then _ else False)
    rw [if_pos kd]
    simp only [hc]
    rw [if_pos (by rw [List.length_map]; exact Nat.lt_of_lt_of_le (by omega : _ < 9) (lp (by omega))), wp_ok, hK]
    exact ss_nil (and_nil (and_nil ⟨rfl, rfl⟩))
/-! ### read -/
structure Bd (b : Book) : Prop where
  k : b.kinds.length ≤ 8
  d : b.deals.length ≤ 8
  s : ∀ d ∈ b.deals, d.steps.length ≤ 8
theorem bd_step {b : Book} {r : Row5} (h : Bd (stepB b r)) : Bd b := by
  cases r with
  | k x =>
    have h1 := h.k
    have h1 : (b.kinds ++ [x]).length ≤ 8 := h1
    exact ⟨by simp at h1; omega, h.d, h.s⟩
  | d x =>
    have h1 : (b.deals ++ [{ x with steps := [] }]).length ≤ 8 := h.d
    have h2 : ∀ d ∈ b.deals ++ [{ x with steps := [] }], d.steps.length ≤ 8 := h.s
    exact ⟨h.k, by simp at h1; omega, fun d hd => h2 d (List.mem_append_left _ hd)⟩
  | s x =>
    rcases List.eq_nil_or_concat b.deals with e | ⟨dr, d, e⟩
    · have : stepB b (.s x) = b := by simp [stepB, e]
      rw [this] at h
      exact h
    · have e : b.deals = dr ++ [d] := by simpa using e
      have q : stepB b (.s x) = { b with deals := dr ++ [addS d x] } := by simp [stepB, e]
      rw [q] at h
      have h1 : (dr ++ [addS d x]).length ≤ 8 := h.d
      have h2 : ∀ d' ∈ dr ++ [addS d x], d'.steps.length ≤ 8 := h.s
      refine ⟨h.k, by rw [e]; simp at h1 ⊢; omega, fun d' hd => ?_⟩
      rw [e] at hd
      rcases List.mem_append.mp hd with hd | hd
      · exact h2 d' (List.mem_append_left _ hd)
      · rw [List.mem_singleton.mp hd]
        have := h2 (addS d x) (by simp)
        simp [addS] at this
        omega
theorem bd_fold : ∀ (l : List Row5) (b : Book), Bd (l.foldl stepB b) → Bd b
  | [], _, h => h
  | r :: l, b, h => bd_step (bd_fold l _ h)
theorem bd_take {b : Book} (hb : b.Ok) (i : Nat) : Bd (((bookRows b).take i).foldl stepB ⟨[], []⟩) := by
  refine bd_fold ((bookRows b).drop i) _ ?_
  rw [← List.foldl_append, List.take_append_drop, (book_fold b).2]
  exact ⟨hb.khi, hb.dhi, fun d hd => (hb.deal d hd).slen⟩
theorem rows_ok {b : Book} (hb : b.Ok) : ∀ r ∈ bookRows b, rowOk (b.kinds.map (·.1)) r := fun r hr => by
  rcases List.mem_append.mp hr with h | h
  · obtain ⟨k, hk, rfl⟩ := List.mem_map.mp h
    exact hb.kok k hk
  · obtain ⟨d, hd, h⟩ := List.mem_flatMap.mp h
    rcases List.mem_cons.mp h with rfl | h
    · exact hb.deal d hd
    · obtain ⟨s, hs, rfl⟩ := List.mem_map.mp h
      exact ⟨(hb.deal d hd).deed s hs, sabc (hb.deal d hd) hs⟩
theorem read_ok (k : Nat) {b : Book} (hb : b.Ok) (h6 : b.kinds.length ≤ 6) (S0 : Sto) : run tb (k + 7) "read" [.t (.str (textB b))] S0 = .ok (.tp [.ref S0.length, .ref (S0.length + 1)]) (stB S0 b) := by
  refine eq_of (wp_fn _ rfl rfl rfl ?_)
  have tl := text_len hb
  have lp : ∀ {n : Nat}, n ≤ 99999 → n ≤ lim := lim_pos
  have sp1 : ∀ S, mtV .split (.t (.str (textB b))) [.t (.str ['\n'])] S = .ok (.t (.lst (((bookRows b).map fun r => rowC r.ws).map .str))) S := fun S => by
    have hl : (textB b).length + 2 ≤ lim := lp (by omega)
    have e : (wordsB b).map rowC = (bookRows b).map fun r => rowC r.ws := by
      rw [← bookRows_ws, List.map_map]
      rfl
    simp only [mtV, asStr, oneSign, show ('\n' : Char).toNat < 128 from by decide, if_true, hl, text_split hb, e]
  refine ss_if0 fun K hK => ?_
  array_get_dec
  rw [text_iso]
  array_get_dec
  rw [hK, if_neg (by decide)]
  clear hK K
  refine ss_asg fun K hK => ?_
  array_get_dec
  rw [hK]
  refine ⟨_, rfl, ?_⟩
  clear hK K
  refine ss_asg fun K hK => ?_
  array_get_dec
  rw [hK]
  refine ⟨_, rfl, ?_⟩
  clear hK K
  refine ss_for fun K hK => ?_
  array_get_dec
  rw [sp1]
  array_get_dec
  rw [hK]
  clear hK K
  have s0 : S0 ++ [Cell.lst []] ++ [Cell.lst []] = stB S0 ⟨[], []⟩ := by simp [stB, dealC, cellsOf]
  have l0 : (S0 ++ [Cell.lst []]).length = S0.length + 1 := by simp
  try rw [s0]
  try rw [l0]
  refine wp_for (fun i env S => ∃ (a3 a4 a5 a6 : Option D), env = [some (.t (.str (textB b))), some (.ref S0.length), some (.ref (S0.length + 1)), a3, a4, a5, a6] ∧ S = stB S0 (((bookRows b).take i).foldl stepB ⟨[], []⟩)) ⟨_, _, _, _, rfl, rfl⟩ ?_ ?_
  · rintro i x env S hx ⟨a3, a4, a5, a6, rfl, rfl⟩
    obtain ⟨y, hy, rfl⟩ := enum_get hx
    rw [List.map_map, List.getElem?_map] at hy
    obtain ⟨r, hr, rfl⟩ := Option.map_eq_some_iff.mp hy
    refine ⟨_, rfl, ?_⟩
    have rm := List.mem_of_getElem? hr
    have ro := rows_ok hb r rm
    have rw_ : Words r.ws := all_words hb _ (by rw [← bookRows_ws]; exact List.mem_map_of_mem rm)
    have bd := bd_take hb i
    have pre := ok_get (book_fold b).1 hr
    have nx : ((bookRows b).take (i + 1)).foldl stepB ⟨[], []⟩ = stepB (((bookRows b).take i).foldl stepB ⟨[], []⟩) r := by
      rw [take_next hr, List.foldl_append]
      rfl
    generalize ((bookRows b).take i).foldl stepB ⟨[], []⟩ = bi at bd pre nx
    have sp2 : ∀ S, mtV .split (.t (.str (rowC r.ws))) [.t (.str [' '])] S = .ok (.t (.lst (r.ws.map .str))) S := fun S => by
      have rl := row_len rw_
      have hl : (rowC r.ws).length + 2 ≤ lim := lp (by omega)
      simp only [mtV, asStr, oneSign, show (' ' : Char).toNat < 128 from by decide, if_true, hl, row_split rw_]
    have z : " ".toList = [' '] := rfl
    have hk : ∀ x ∈ b.kinds.map (·.1), NameOk x := fun x hx => by
      obtain ⟨y, hy, rfl⟩ := List.mem_map.mp hx
      exact hb.kok y hy
    have ix0 : ((r.ws.map T.str).map D.t)[0]? = some (.t (.str (r.ws.headD []))) := by
      have := rw_.ne
      cases h : r.ws with
      | nil => exact absurd h this
      | cons a b => rfl
    refine ss_asg fun K hK => ?_
    array_get_dec
    rw [z]
    show wp (mtV .split (.t (.str (rowC r.ws))) [.t (.str [' '])] _) K noE
    rw [sp2]
    array_get_dec
    rw [hK]
    refine ⟨_, rfl, ?_⟩
    clear hK K
    refine ss_if0 fun K hK => ?_
    array_get_dec
    rw [isrow_iso (k + 4) hk r ro rw_]
    array_get_dec
    rw [ix0]
    array_get_dec
    rw [stand_shr (k + 5) r ro pre bd.d]
    array_get_dec
    rw [hK, if_neg (by decide)]
    clear hK K
    refine ss_expr fun K hK => ?_
    array_get_dec
    rw [put_shr (k + 4) r hk ro pre bd.k bd.d bd.s]
    array_get_dec
    rw [hK]
    exact ss_nil ⟨_, _, _, _, rfl, by rw [nx]⟩
  · rintro env S ⟨a3, a4, a5, a6, rfl, rfl⟩
    rw [andSs_nx]
    have e : ((bookRows b).take (enumL 0 (((bookRows b).map fun r => rowC r.ws).map T.str)).length).foldl stepB ⟨[], []⟩ = b := by
      rw [enum_len, List.length_map, List.length_map, List.take_length]
      exact (book_fold b).2
    rw [e]
    refine ss_asg fun K hK => ?_
    array_get_dec
    rw [hK]
    refine ⟨_, rfl, ?_⟩
    clear hK K
    have tr : toT 0 (stB S0 b) (.tp [.ref S0.length, .ref (S0.length + 1)]) = some (boT b) := by
      refine told_read (c := S0.length + 2) (ds := b.deals) (stB_k S0 b) ?_ fun i hi => stB_c S0 b i
      rw [stB_d]
      have := hb.dlo
      cases h : b.deals with
      | nil => rw [h] at this; simp at this
      | cons d r => rfl
    obtain ⟨xs, lk⟩ := look_ok k hb h6
    have li : isoCall (run tb (k + 6)) "look_at_book" [.tp [.ref S0.length, .ref (S0.length + 1)]] .frz (stB S0 b) = .ok (.t .non) (stB S0 b) := by
      refine iso_exp (xs := [boT b]) rfl ?_ lk rfl
      rw [toTs_cons, tr, toTs_nil]
    refine ss_expr fun K hK => ?_
    array_get_dec
    show wp (isoCall (run tb (k + 6)) "look_at_book" [.tp [.ref S0.length, .ref (S0.length + 1)]] .frz (stB S0 b)) K noE
    rw [li]
    array_get_dec
    rw [hK]
    clear hK K
    refine ss_ret fun K hK => ?_
    array_get_dec
    rw [hK, retQ_ret]
    exact ⟨rfl, rfl⟩
theorem ne_toT {S : Sto} {a : D} {y x : T} (h : toT 0 S a = some y) : cmpV .ne a (.t x) S = notO (if (plain y && plain x) = true then some (eqT y x) else none) := by
  simp only [cmpV, eqV, h, toT_t]
theorem ss_raiseF {Φ : Or} {r : Ss} {env : Env} {S : Sto} {Q : Ctl × Env → Sto → Prop} {E : String → List (String × T) → Sto → Prop} {c f : String} {e : Kp.E}
    (h : ∀ K : D → Sto → Prop, (∀ d S, K d S = ∃ x, d = .t x ∧ flatT x = true ∧ E c [(f, x)] S) → wp (evE Φ e env S) K E) : wp (evSs Φ (.cons (.raiseF c f e) r) env S) Q E := by
  refine ss_cons ?_
  simp only [evS]
  refine wp.bind (wp.mono (h _ fun _ _ => rfl) (fun d S1 q => ?_) fun _ _ _ q => q)
  obtain ⟨x, rfl, hx, q⟩ := q
  simp only [hx, if_true, wp_exc]
  exact q
/-! ### what can't be read -/
def emptyB : Book := ⟨[], []⟩
/-- a row that may not stand where it does -/
def BadRow (ks : List Cs) (b : Book) (row : Cs) : Prop := (∀ k S, isoCall (run tb (k + 2)) "_is_row" [.t (.lst ((splitC ' ' row).map .str))] .frz S = .ok (.t (.bl false)) S) ∨
  ((∀ k S, isoCall (run tb (k + 2)) "_is_row" [.t (.lst ((splitC ' ' row).map .str))] .frz S = .ok (.t (.bl true)) S) ∧ b = emptyB ∧ ∃ w ws, splitC ' ' row = w :: ws ∧ w ≠ "kind".toList ∧ w ≠ "deal".toList)
theorem read_bad (k : Nat) {b : Book} (hb : b.Ok) {i : Nat} (hi : i ≤ (bookRows b).length) {t : Cs} (tl : t.length ≤ 9000) {bad : Cs} {rest : List Cs} (bl : bad.length ≤ 9000) (hs : splitC '\n' t = (((bookRows b).take i).map fun r => rowC r.ws) ++ bad :: rest)
    (hbad : BadRow (b.kinds.map (·.1)) (((bookRows b).take i).foldl stepB ⟨[], []⟩) bad) (S0 : Sto) :
    run tb (k + 7) "read" [.t (.str t)] S0 = .exc "NoText" [("row", .int i)] (stB S0 (((bookRows b).take i).foldl stepB ⟨[], []⟩)) := by
  refine exc_of (wp_fn _ rfl rfl rfl ?_)
  have lp : ∀ {n : Nat}, n ≤ 99999 → n ≤ lim := lim_pos
  have sp1 : ∀ S, mtV .split (.t (.str t)) [.t (.str ['\n'])] S = .ok (.t (.lst (((((bookRows b).take i).map fun r => rowC r.ws) ++ bad :: rest).map .str))) S := fun S => by
    have hl : t.length + 2 ≤ lim := lp (by omega)
    simp only [mtV, asStr, oneSign, show ('\n' : Char).toNat < 128 from by decide, if_true, hl, hs]
  refine ss_if0 fun K hK => ?_
  array_get_dec
  rw [text_iso]
  array_get_dec
  rw [hK, if_neg (by decide)]
  clear hK K
  refine ss_asg fun K hK => ?_
  array_get_dec
  rw [hK]
  refine ⟨_, rfl, ?_⟩
  clear hK K
  refine ss_asg fun K hK => ?_
  array_get_dec
  rw [hK]
  refine ⟨_, rfl, ?_⟩
  clear hK K
  refine ss_for fun K hK => ?_
  array_get_dec
  rw [sp1]
  array_get_dec
  rw [hK]
  clear hK K
  have s0 : S0 ++ [Cell.lst []] ++ [Cell.lst []] = stB S0 ⟨[], []⟩ := by simp [stB, dealC, cellsOf]
  have l0 : (S0 ++ [Cell.lst []]).length = S0.length + 1 := by simp
  try rw [s0]
  try rw [l0]
  have li : (((bookRows b).take i).map fun r => rowC r.ws).length = i := by
    rw [List.length_map, List.length_take]
    omega
  refine wp_for (fun j env S => j ≤ i ∧ ∃ (a3 a4 a5 a6 : Option D), env = [some (.t (.str t)), some (.ref S0.length), some (.ref (S0.length + 1)), a3, a4, a5, a6] ∧ S = stB S0 (((bookRows b).take j).foldl stepB ⟨[], []⟩)) ⟨Nat.zero_le _, _, _, _, _, rfl, rfl⟩ ?_ ?_
  · rintro j x env S hx ⟨hj, a3, a4, a5, a6, rfl, rfl⟩
    obtain ⟨y, hy, rfl⟩ := enum_get hx
    rw [List.getElem?_map] at hy
    have z : " ".toList = [' '] := rfl
    by_cases hji : j < i
    · rw [List.getElem?_append_left (by rw [li]; exact hji), List.getElem?_map, List.getElem?_take_of_lt hji, Option.map_map] at hy
      obtain ⟨r, hr, rfl⟩ := Option.map_eq_some_iff.mp hy
      refine ⟨_, rfl, ?_⟩
      have rm := List.mem_of_getElem? hr
      have ro := rows_ok hb r rm
      have rw_ : Words r.ws := all_words hb _ (by rw [← bookRows_ws]; exact List.mem_map_of_mem rm)
      have bd := bd_take hb j
      have pre := ok_get (book_fold b).1 hr
      have nx : ((bookRows b).take (j + 1)).foldl stepB ⟨[], []⟩ = stepB (((bookRows b).take j).foldl stepB ⟨[], []⟩) r := by
        rw [take_next hr, List.foldl_append]
        rfl
      generalize ((bookRows b).take j).foldl stepB ⟨[], []⟩ = bi at bd pre nx
      have sp2 : ∀ S, mtV .split (.t (.str (rowC r.ws))) [.t (.str [' '])] S = .ok (.t (.lst (r.ws.map .str))) S := fun S => by
        have rl := row_len rw_
        have hl : (rowC r.ws).length + 2 ≤ lim := lp (by omega)
        simp only [mtV, asStr, oneSign, show (' ' : Char).toNat < 128 from by decide, if_true, hl, row_split rw_]
      have hk : ∀ x ∈ b.kinds.map (·.1), NameOk x := fun x hx => by
        obtain ⟨y, hy, rfl⟩ := List.mem_map.mp hx
        exact hb.kok y hy
      have ix0 : ((r.ws.map T.str).map D.t)[0]? = some (.t (.str (r.ws.headD []))) := by
        have := rw_.ne
        cases h : r.ws with
        | nil => exact absurd h this
        | cons a b => rfl
      refine ss_asg fun K hK => ?_
      array_get_dec
      rw [z]
      show wp (mtV .split (.t (.str (rowC r.ws))) [.t (.str [' '])] _) K _
      rw [sp2]
      array_get_dec
      rw [hK]
      refine ⟨_, rfl, ?_⟩
      clear hK K
      refine ss_if0 fun K hK => ?_
      array_get_dec
      rw [isrow_iso (k + 4) hk r ro rw_]
      array_get_dec
      rw [ix0]
      array_get_dec
      rw [stand_shr (k + 5) r ro pre bd.d]
      array_get_dec
      rw [hK, if_neg (by decide)]
      clear hK K
      refine ss_expr fun K hK => ?_
      array_get_dec
      rw [put_shr (k + 4) r hk ro pre bd.k bd.d bd.s]
      array_get_dec
      rw [hK]
      exact ss_nil ⟨hji, _, _, _, _, rfl, by rw [nx]⟩
    · obtain rfl : j = i := by omega
      rw [List.getElem?_append_right (by rw [li]; exact Nat.le_refl _), li, Nat.sub_self] at hy
      obtain rfl : y = .str bad := by
        have := hy
        simp at this
        exact this.symm
      refine ⟨_, rfl, ?_⟩
      have sp2 : ∀ S, mtV .split (.t (.str bad)) [.t (.str [' '])] S = .ok (.t (.lst ((splitC ' ' bad).map .str))) S := fun S => by
        have hl : bad.length + 2 ≤ lim := lp (by omega)
        simp only [mtV, asStr, oneSign, show (' ' : Char).toNat < 128 from by decide, if_true, hl]
      refine ss_asg fun K hK => ?_
      array_get_dec
      rw [z, sp2]
      array_get_dec
      rw [hK]
      refine ⟨_, rfl, ?_⟩
      clear hK K
      refine ss_if0 fun K hK => ?_
      array_get_dec
      rcases hbad with h | ⟨h, he, w, ws, e1, e2, e3⟩
      · rw [h (k + 4)]
        array_get_dec
        rw [hK, if_pos rfl]
        refine ss_raiseF fun K hK => ?_
        array_get_dec
        rw [hK]
        exact ⟨_, rfl, rfl, rfl, by simp, rfl⟩
      · rw [h (k + 4)]
        array_get_dec
        rw [e1]
        simp only [List.map_cons, List.getElem?_cons_zero, opt_some, wp_ok]
        rw [he]
        have sd := stB_d S0 emptyB
        generalize hS1 : stB S0 emptyB = S1 at sd
        have n1 : (w == "kind".toList) = false := by simpa using e2
        have n2 : (w == "deal".toList) = false := by simpa using e3
        have st : isoCall (run tb (k + 6)) "_may_stand" [.t (.str w), .ref (S0.length + 1)] .shr S1 = .ok (.t (.bl false)) S1 := by
          show run tb (k + 6) "_may_stand" [.t (.str w), .ref (S0.length + 1)] S1 = _
          refine eq_of (wp_fn _ rfl rfl rfl ?_)
          refine ss_if0 fun K hK => ?_
          array_get_dec
          rw [n1, hK, if_neg (by decide)]
          clear hK K
          refine ss_ret fun K hK => ?_
          array_get_dec
          simp only [n2]
          array_get_dec
          rw [sd]
          unfold dealC emptyB
          array_get_dec
          rw [hK, retQ_ret]
          exact ⟨rfl, rfl⟩
        rw [st]
        array_get_dec
        rw [hK, if_pos rfl]
        refine ss_raiseF fun K hK => ?_
        array_get_dec
        rw [hK]
        exact ⟨_, rfl, rfl, rfl, by simp, by rw [← hS1, he]⟩
  · rintro env S ⟨hj, _⟩
    exfalso
    rw [enum_len, List.length_map, List.length_append, li, List.length_cons] at hj
    omega
/-! ### rows that are none -/
theorem isrow_no (k : Nat) {ws : List Cs} (h : [] ∈ ws) (S : Sto) : isoCall (run tb (k + 2)) "_is_row" [.t (.lst (ws.map .str))] .frz S = .ok (.t (.bl false)) S := by
  refine iso1 (eq_of (wp_fn _ rfl rfl rfl ?_))
  refine ss_if0 fun K hK => ?_
  array_get_dec
  rw [in_lst rfl (plainN_strs 7 _), any_yes h]
  array_get_dec
  rw [hK, if_pos rfl]
  clear hK K
  refine ss_ret fun K hK => ?_
  array_get_dec
  rw [hK, andSs_ret, retQ_ret]
  exact ⟨rfl, rfl⟩
theorem isrow_kind (k : Nat) (S : Sto) : isoCall (run tb (k + 2)) "_is_row" [.t (.lst (["kind".toList].map .str))] .frz S = .ok (.t (.bl false)) S := by
  refine iso1 (eq_of (wp_fn _ rfl rfl rfl ?_))
  refine ss_if0 fun K hK => ?_
  array_get_dec
  have no : ∀ S, cmpV .inn (.t (.str [])) (.t (.lst [.str "kind".toList])) S = some false := fun S => by
    rw [show [T.str "kind".toList] = ["kind".toList].map T.str from rfl, in_lst rfl (plainN_strs 7 _), any_no (by decide)]
  rw [no]
  array_get_dec
  rw [hK, if_neg (by decide)]
  clear hK K
  refine ss_if0 fun K hK => ?_
  array_get_dec
  rw [hK, if_pos (by decide)]
  clear hK K
  refine ss_ret fun K hK => ?_
  array_get_dec
  rw [if_neg (by decide), hK, andSs_ret, retQ_ret]
  exact ⟨rfl, rfl⟩
theorem isrow_deal (k : Nat) (S : Sto) : isoCall (run tb (k + 2)) "_is_row" [.t (.lst (["deal".toList, "a".toList].map .str))] .frz S = .ok (.t (.bl false)) S := by
  refine iso1 (eq_of (wp_fn _ rfl rfl rfl ?_))
  refine ss_if0 fun K hK => ?_
  array_get_dec
  have no : ∀ S, cmpV .inn (.t (.str [])) (.t (.lst [.str "deal".toList, .str "a".toList])) S = some false := fun S => by
    rw [show [T.str "deal".toList, T.str "a".toList] = ["deal".toList, "a".toList].map T.str from rfl, in_lst rfl (plainN_strs 7 _), any_no (by decide)]
  rw [no]
  array_get_dec
  rw [hK, if_neg (by decide)]
  clear hK K
  refine ss_if0 fun K hK => ?_
  array_get_dec
  rw [hK, if_neg (by decide)]
  clear hK K
  refine ss_if0 fun K hK => ?_
  array_get_dec
  rw [hK, if_pos (by decide)]
  clear hK K
  refine ss_ret fun K hK => ?_
  array_get_dec
  rw [if_neg (by decide), hK, andSs_ret, retQ_ret]
  exact ⟨rfl, rfl⟩
theorem isrow_read (k : Nat) (S : Sto) : isoCall (run tb (k + 2)) "_is_row" [.t (.lst (["read".toList, "a".toList].map .str))] .frz S = .ok (.t (.bl true)) S :=
  isrow_iso k (ks := []) (fun _ h => absurd h List.not_mem_nil) (.s ("read".toList, 'a')) ⟨.inl rfl, by decide⟩ ⟨by simp [Row5.ws, wStep], by simp [Row5.ws, wStep], fun w hw => by
    simp only [Row5.ws, wStep, List.mem_cons, List.not_mem_nil, or_false] at hw
    rcases hw with rfl | rfl <;> exact lit_clean (by decide) (by decide) (by decide)⟩ S
theorem text_not (k : Nat) {x : T} (h : isKnd (kndT x) .str = false) (S : Sto) : isoCall (run tb (k + 1)) "is_text" [.t x] .frz S = .ok (.t (.bl false)) S := by
  refine iso1 (eq_of (wp_fn _ rfl rfl rfl ?_))
  refine ss_ret fun K hK => ?_
  array_get_dec
  rw [h]
  array_get_dec
  rw [hK, retQ_ret]
  exact ⟨rfl, rfl⟩
theorem read_not (k : Nat) {x : T} (h : isKnd (kndT x) .str = false) (S : Sto) : run tb (k + 2) "read" [.t x] S = .exc "NoText" [("row", .int 0)] S := by
  refine exc_of (wp_fn _ rfl rfl rfl ?_)
  refine ss_if0 fun K hK => ?_
  array_get_dec
  rw [text_not k h]
  array_get_dec
  rw [hK, if_pos rfl]
  refine ss_raiseF fun K hK => ?_
  array_get_dec
  rw [hK]
  exact ⟨_, rfl, rfl, rfl, rfl, rfl⟩
theorem row_shr (k : Nat) {x : T} {i : Int} {S S2 : Sto} (h : run tb (k + 7) "read" [.t x] S = .exc "NoText" [("row", .int i)] S2) : isoCall (run tb (k + 8)) "_law_row" [.t x] .shr S = .ok (.t (.int i)) S2 := by
  show run tb (k + 8) "_law_row" [.t x] S = _
  refine eq_of (wp_fn _ rfl rfl rfl ?_)
  refine ss_asg fun K hK => ?_
  array_get_dec
  rw [hK]
  refine ⟨_, rfl, ?_⟩
  clear hK K
  refine ss_try ?_
  refine ss_expr fun K hK => ?_
  array_get_dec
  rw [shr_eq, h, wp_exc]
  refine ⟨rfl, ?_⟩
  clear hK K
  have tr : ∀ bb S, truth S (.t (.bl bb)) = some bb := fun bb S => rfl
  have e0 : ∀ S, cmpV .isN (.exc "NoText" [("row", .int i)]) (.t .non) S = some false := fun S => rfl
  have e1 : isxV (.exc "NoText" [("row", .int i)]) [("NoBook", false), ("NoText", true)] = some true := rfl
  have e2 : isxV (.exc "NoText" [("row", .int i)]) [("NoBook", true), ("NoText", true)] = some true := rfl
  have e3 : isxV (.exc "NoText" [("row", .int i)]) [("NoBook", true), ("NoText", false)] = some false := rfl
  have e4 : fldV (.exc "NoText" [("row", .int i)]) "row" ["NoText"] = some (.t (.int i)) := rfl
  show wp (evSs (run tb (k + 7)) _ [some (.t x), some (.exc "NoText" [("row", .int i)]), none] S2) _ noE
  refine ss_if0 fun K hK => ?_
  simp only [evT, evE, List.getElem?_cons_zero, List.getElem?_cons_succ, R.bind_ok, e0, e1, e2, e3, tr, opt_some, wp_ok, wp_bind, Bool.not_true, Bool.false_eq_true, if_false]
  rw [hK, if_neg Bool.false_ne_true]
  clear hK K
  refine ss_ret fun K hK => ?_
  simp only [evE, List.getElem?_cons_zero, List.getElem?_cons_succ, R.bind_ok, e4, opt_some, wp_ok, wp_bind]
  rw [hK, retQ_ret]
  exact ⟨rfl, rfl⟩
theorem join_snoc (c : Char) : ∀ ws : List Cs, ws ≠ [] → joinC [c] (ws ++ [[]]) = joinC [c] ws ++ [c]
  | [], h => absurd rfl h
  | [w], _ => by simp [joinC]
  | w :: v :: r, _ => by
    have ih := join_snoc c (v :: r) (by simp)
    rw [List.cons_append, List.cons_append, join_cc, join_cc, ← List.cons_append, ih]
    simp
theorem LAW (ns : List Int) : ∃ S, run tb 9 "law" [.t (.scr ns)] [] = .ok (.t (.bl true)) S := by
  suffices h : wp (run tb 9 "law" [.t (.scr ns)] []) (fun d S => d = .t (.bl true)) noE by
    obtain ⟨d, S, e, rfl⟩ := h.get
    exact ⟨S, e⟩
  refine wp_fn _ rfl rfl rfl ?_
  refine ss_for fun K hK => ?_
  array_get_dec
  obtain ⟨n, en, hn⟩ := rng_max ns (m := 30) 30 rfl (by decide)
  obtain ⟨n2, en2, hn2⟩ := rng_max2 ns (m := 30) 30 rfl (by decide)
  first
  | rw [en, if_pos (isMid_of (by omega) (by omega)), hK]
  | rw [en2, if_pos (isMid_of (by omega) (by omega)), hK]
  clear hK K en en2
  refine wp_for (fun i env S => ∃ (a1 a2 a3 a4 a5 a6 a7 : Option D), env = [some (.t (.scr ns)), a1, a2, a3, a4, a5, a6, a7]) ⟨_, _, _, _, _, _, _, rfl⟩ ?_ ?_
  · rintro i x env S hx ⟨a1, a2, a3, a4, a5, a6, a7, rfl⟩
    obtain ⟨hi, rfl⟩ := rng_get hx
    refine ⟨_, rfl, ?_⟩
    refine ss_asg fun K hK => ?_
    array_get_dec
    refine pool_keep rfl (by omega) fun p hp => ?_
    rw [hK]
    refine ⟨_, rfl, ?_⟩
    clear hK K
    have hS : (S ++ [poolC p])[S.length]? = some (poolC p) := by simp
    generalize S ++ [poolC p] = S1 at hS
    generalize S.length = n2 at hS
    refine ss_asg fun K hK => ?_
    array_get_dec
    refine book_call (x := 6) (y := 8) rfl rfl rfl rfl rfl hp rfl rfl (by decide) (by decide) (by decide) (by decide) hS fun p b hp hb hbk hbd => ?_
    rw [hK]
    refine ⟨_, rfl, ?_⟩
    clear hK K
    have hS2 : (S1.set n2 (poolC p))[n2]? = some (poolC p) := List.getElem?_set_self (List.getElem?_eq_some_iff.mp hS).1
    clear hS
    generalize S1.set n2 (poolC p) = S2 at hS2
    refine ss_asg fun K hK => ?_
    array_get_dec
    rw [lshown_iso 7 hb]
    array_get_dec
    rw [hK]
    refine ⟨_, rfl, ?_⟩
    clear hK K
    have lp : ∀ {n : Nat}, n ≤ 99999 → n ≤ lim := lim_pos
    have wl := words_len hb
    have tl := text_len hb
    have fl : ((wordsB b).map rowC).flatten.length ≤ 80 * 66 := by
      have h1 := flat_len 66 ((wordsB b).map rowC) fun w hw => (by
        obtain ⟨ws, h, rfl⟩ := List.mem_map.mp hw
        exact row_len (all_words hb ws h))
      rw [List.length_map] at h1
      omega
    refine ss_asg fun K hK => ?_
    array_get_dec
    rw [join_strs (lp (by rw [List.length_map]; omega)) (lp (by omega)) (by decide), wp_ok, hK]
    refine ⟨_, rfl, ?_⟩
    clear hK K
    have te : joinC ['\n'] ((wordsB b).map rowC) = textB b := rfl
    rw [te]
    have rws : (wordsB b).map rowC = (bookRows b).map fun r => rowC r.ws := by
      rw [← bookRows_ws, List.map_map]
      rfl
    have rlen : (bookRows b).length = ((wordsB b).map rowC).length := by rw [rws, List.length_map]
    have rl80 : ((wordsB b).map rowC).length ≤ 80 := by rw [List.length_map]; exact wl
    generalize hR : (wordsB b).map rowC = R at rws rlen rl80 fl
    -- what can't be read at all
    have n0 : ((bookRows b).take 0).foldl stepB ⟨[], []⟩ = emptyB := rfl
    have bad0 : ∀ {t row : Cs} {rest : List Cs}, t.length ≤ 9000 → row.length ≤ 9000 → splitC '\n' t = row :: rest → BadRow (b.kinds.map (·.1)) emptyB row → ∀ S0, ∃ S', isoCall (run tb 8) "_law_row" [.t (.str t)] .shr S0 = .ok (.t (.int 0)) S' ∧ ∀ j < S0.length, S'[j]? = S0[j]? := fun h1 h2 h3 h4 S0 =>
      ⟨_, row_shr 0 (read_bad 0 hb (Nat.zero_le _) h1 h2 (by rw [List.take_zero]; exact h3) h4 S0), fun j hj => stB_0 S0 _ hj⟩
    have not0 : ∀ {x : T}, isKnd (kndT x) .str = false → ∀ S0, ∃ S', isoCall (run tb 8) "_law_row" [.t x] .shr S0 = .ok (.t (.int 0)) S' ∧ ∀ j < S0.length, S'[j]? = S0[j]? := fun h S0 => ⟨_, row_shr 0 (read_not 5 h S0), fun _ _ => rfl⟩
    refine ss_for fun K hK => ?_
    array_get_dec
    rw [if_pos (lp (by omega)), hK]
    clear hK K
    have r9 : ∀ S, isoCall (run tb 6) "_is_row" [.t (.lst ([[]].map T.str))] .frz S = .ok (.t (.bl false)) S := fun S => isrow_no 4 (by simp) S
    have all : ∀ x ∈ [D.t T.non, D.t (T.int 0), D.t (T.bl true), D.t (T.lst (List.map T.str R)), D.t (T.tup [T.str (textB b)]), D.t (T.dct [] []), D.t (T.lst [T.str (textB b)]), D.t (T.str []), D.t (T.str " ".toList), D.t (T.str ['\n']), D.t (T.str ('\n' :: textB b)), D.t (T.str "kind".toList), D.t (T.str "read a".toList), D.t (T.str "deal a".toList)],
        ∃ t : T, x = .t t ∧ ∀ S0, ∃ S', isoCall (run tb 8) "_law_row" [.t t] .shr S0 = .ok (.t (.int 0)) S' ∧ ∀ j < S0.length, S'[j]? = S0[j]? := by
      have br : ∀ row : Cs, [] ∈ splitC ' ' row → BadRow (b.kinds.map (·.1)) emptyB row := fun row h => .inl fun k S => isrow_no k h S
      intro x hx
      simp only [List.mem_cons, List.not_mem_nil, or_false] at hx
      rcases hx with rfl | rfl | rfl | rfl | rfl | rfl | rfl | rfl | rfl | rfl | rfl | rfl | rfl | rfl
      · exact ⟨_, rfl, not0 rfl⟩
      · exact ⟨_, rfl, not0 rfl⟩
      · exact ⟨_, rfl, not0 rfl⟩
      · exact ⟨_, rfl, not0 rfl⟩
      · exact ⟨_, rfl, not0 rfl⟩
      · exact ⟨_, rfl, not0 rfl⟩
      · exact ⟨_, rfl, not0 rfl⟩
      · exact ⟨_, rfl, bad0 (row := []) (rest := []) (by simp) (by simp) rfl (br _ (by simp [splitC]))⟩
      · exact ⟨_, rfl, bad0 (row := " ".toList) (rest := []) (by decide) (by decide) (by decide) (br _ (by decide))⟩
      · exact ⟨_, rfl, bad0 (row := []) (rest := [[]]) (by decide) (by simp) (by decide) (br _ (by simp [splitC]))⟩
      · exact ⟨_, rfl, bad0 (row := []) (rest := splitC '\n' (textB b)) (by rw [List.length_cons]; omega) (by simp) (by rw [splitC_cons, if_pos rfl]) (br _ (by simp [splitC]))⟩
      · exact ⟨_, rfl, bad0 (row := "kind".toList) (rest := []) (by decide) (by decide) (by decide) (.inl fun k S => isrow_kind k S)⟩
      · exact ⟨_, rfl, bad0 (row := "read a".toList) (rest := []) (by decide) (by decide) (by decide) (.inr ⟨fun k S => isrow_read k S, rfl, "read".toList, ["a".toList], by decide, by decide, by decide⟩)⟩
      · exact ⟨_, rfl, bad0 (row := "deal a".toList) (rest := []) (by decide) (by decide) (by decide) (.inl fun k S => isrow_deal k S)⟩
    refine wp_for (fun j env S => ∃ (a6 : Option D), S[n2]? = some (poolC p) ∧ env = [some (.t (.scr ns)), some (.t (.int i)), some (.ref n2), some (.t (boT b)), some (.t (.lst (R.map T.str))), some (.t (.str (textB b))), a6, a7]) ⟨_, hS2, rfl⟩ ?_ ?_
    · rintro j x env S hx ⟨a6, hS, rfl⟩
      obtain ⟨t, rfl, tc⟩ := all x (List.mem_of_getElem? hx)
      obtain ⟨S', e, keep⟩ := tc S
      have nl := (List.getElem?_eq_some_iff.mp hS).1
      refine ⟨_, rfl, ?_⟩
      refine ss_if0 fun K hK => ?_
      array_get_dec
      rw [e]
      array_get_dec
      rw [hK, if_neg (by decide)]
      exact ss_nil ⟨_, by rw [keep n2 nl, hS], rfl⟩
    · rintro env S ⟨a6, hS, rfl⟩
      rw [andSs_nx]
      have r1 : 1 ≤ R.length := by
        rw [← rlen]
        unfold bookRows
        rw [List.length_append, List.length_map]
        have := hb.klo
        omega
      refine ss_asg fun K hK => ?_
      array_get_dec
      refine draw_call rfl hS hp (by omega) (by omega) fun v p hv => ?_
      rw [hK]
      refine ⟨_, rfl, ?_⟩
      clear hK K
      generalize S.set n2 (poolC p) = S5
      have v1 := hv.hi
      obtain ⟨q, rfl⟩ := toNat_of hv.lo
      have ql : q + 1 ≤ R.length := by omega
      have Rn : ∀ w ∈ R, '\n' ∉ w := fun w hw => by
        rw [← hR] at hw
        obtain ⟨ws, h, rfl⟩ := List.mem_map.mp hw
        exact row_nl (all_words hb ws h)
      have tR : textB b = joinC ['\n'] R := by rw [← hR]; rfl
      have Rne : R ≠ [] := fun e => by rw [e] at r1; simp at r1
      have be : ∀ b' : Book, BadRow (b.kinds.map (·.1)) b' [] := fun b' => .inl fun k S => isrow_no k (by simp [splitC]) S
      have one : ∀ S0, ∃ S', isoCall (run tb 8) "_law_row" [.t (.str (textB b ++ ['\n']))] .shr S0 = .ok (.t (.int R.length)) S' := fun S0 => by
        have h := read_bad 0 hb (i := (bookRows b).length) (Nat.le_refl _) (t := textB b ++ ['\n']) (bad := []) (rest := []) (by rw [List.length_append]; simp; omega) (by simp) (by
          rw [List.take_length, ← rws, tR, ← join_snoc '\n' R Rne]
          exact split_join '\n' _ (by simp) fun w hw => by
            rcases List.mem_append.mp hw with h | h
            · exact Rn w h
            · rw [List.mem_singleton.mp h]; simp) (be _) S0
        rw [rlen] at h
        exact ⟨_, row_shr 0 h⟩
      have ins : splitC '\n' (joinC ['\n'] (R.take (q + 1) ++ [[]] ++ R.drop (q + 1))) = R.take (q + 1) ++ [] :: R.drop (q + 1) := by
        rw [split_join '\n' _ (by simp) fun w hw => by
          rcases List.mem_append.mp hw with h | h
          · rcases List.mem_append.mp h with h | h
            · exact Rn w (List.mem_of_mem_take h)
            · rw [List.mem_singleton.mp h]; simp
          · exact Rn w (List.mem_of_mem_drop h)]
        simp
      have il : (joinC ['\n'] (R.take (q + 1) ++ [[]] ++ R.drop (q + 1))).length ≤ 9000 := by
        have h1 := join_len '\n' 66 (R.take (q + 1) ++ [[]] ++ R.drop (q + 1)) fun w hw => by
          have Rw : ∀ w ∈ R, w.length ≤ 66 := fun w hw => by
            rw [← hR] at hw
            obtain ⟨ws, h, rfl⟩ := List.mem_map.mp hw
            exact row_len (all_words hb ws h)
          rcases List.mem_append.mp hw with h | h
          · rcases List.mem_append.mp h with h | h
            · exact Rw w (List.mem_of_mem_take h)
            · rw [List.mem_singleton.mp h]; simp
          · exact Rw w (List.mem_of_mem_drop h)
        simp only [List.length_append, List.length_take, List.length_drop, List.length_cons, List.length_nil] at h1
        have : min (q + 1) R.length + (0 + 1) + (R.length - (q + 1)) ≤ 81 := by omega
        have : (min (q + 1) R.length + (0 + 1) + (R.length - (q + 1))) * (66 + 1) ≤ 81 * 67 := Nat.mul_le_mul_right _ this
        omega
      have two : ∀ S0, ∃ S', isoCall (run tb 8) "_law_row" [.t (.str (joinC ['\n'] (R.take (q + 1) ++ [[]] ++ R.drop (q + 1))))] .shr S0 = .ok (.t (.int ((q + 1 : Nat) : Int))) S' := fun S0 => by
        have h := read_bad 0 hb (i := q + 1) (by rw [rlen]; exact ql) (t := joinC ['\n'] (R.take (q + 1) ++ [[]] ++ R.drop (q + 1))) (bad := []) (rest := R.drop (q + 1)) il (by simp) (by
          rw [ins, rws, List.map_take]) (be _) S0
        exact ⟨_, row_shr 0 h⟩
      have c1 : cut (R.map T.str) none (some ((q : Int) + 1)) = (R.take (q + 1)).map T.str := by
        rw [show ((q : Int) + 1) = ((q + 1 : Nat) : Int) from rfl, cut_take, List.map_take]
      have c2 : cut (R.map T.str) (some ((q : Int) + 1)) none = (R.drop (q + 1)).map T.str := by
        rw [show ((q : Int) + 1) = ((q + 1 : Nat) : Int) from rfl, cut_drop, List.map_drop]
      have cc : (R.take (q + 1)).map T.str ++ [T.str []] ++ (R.drop (q + 1)).map T.str = (R.take (q + 1) ++ [[]] ++ R.drop (q + 1)).map T.str := by simp
      have f2 : (R.take (q + 1) ++ [[]] ++ R.drop (q + 1)).flatten.length ≤ 80 * 66 := by
        rw [List.flatten_append, List.flatten_append]
        have e : (R.take (q + 1) ++ R.drop (q + 1)).flatten = R.flatten := by rw [List.take_append_drop]
        rw [List.flatten_append] at e
        have e := congrArg List.length e
        simp only [List.length_append, List.flatten_cons, List.flatten_nil, List.length_nil, List.append_nil] at e ⊢
        omega
      have nn : ∀ (a : Int) (S : Sto), cmpV .ne (.t (.int a)) (.t (.int a)) S = some false := fun a S => by
        simp [cmpV, eqV, toT_t, plain, plainN, eqT, notO]
      obtain ⟨S6, e6⟩ := one S5
      obtain ⟨S7, e7⟩ := two S6
      refine ss_if0 fun K hK => ?_
      array_get_dec
      rw [if_pos (lp (by omega)), e6]
      simp only [wp_ok, nn, opt_some, Bool.false_eq_true, if_false, c1, c2]
      rw [if_pos (lp (by rw [List.length_map, List.length_take]; omega)), if_pos (lp (by simp only [List.length_append, List.length_map, List.length_take, List.length_drop, List.length_cons, List.length_nil]; omega)), cc,
        join_strs (lp (by simp only [List.length_append, List.length_take, List.length_drop, List.length_cons, List.length_nil]; omega)) (lp (by omega)) (by decide), wp_ok, e7]
      simp only [wp_ok]
      have n7 : ∀ S, cmpV .ne (.t (.int ((q + 1 : Nat) : Int))) (.t (.int ((q : Int) + 1))) S = some false := fun S => nn _ S
      rw [n7]
      simp only [opt_some, wp_ok]
      rw [hK, if_neg (by decide)]
      clear hK K
      have g1 := stB_k S7 b
      have g3 : (stB S7 b)[S7.length + 1]? = some (.lsr (rowsD (S7.length + 2) b.deals)) := by
        rw [stB_d]
        have := hb.dlo
        cases h : b.deals with
        | nil => rw [h] at this; simp at this
        | cons d r => rfl
      have rd : toT 0 (stB S7 b) (.tp [.ref S7.length, .ref (S7.length + 1)]) = some (boT b) := told_read (c := S7.length + 2) (ds := b.deals) g1 g3 fun i hi => stB_c S7 b i
      have pb := plain_bo b
      have eb := eqT_refl 8 _ pb
      refine ss_if0 fun K hK => ?_
      array_get_dec
      rw [shr_eq, read_ok 1 hb hbk S7, wp_ok]
      rw [ne_toT rd]
      simp only [pb, eb, Bool.and_self, if_true, notO, Bool.not_true, opt_some, wp_ok]
      rw [hK, if_neg (by decide)]
      exact ss_nil ⟨_, _, _, _, _, _, _, rfl⟩
  · rintro env S ⟨a1, a2, a3, a4, a5, a6, a7, rfl⟩
    rw [andSs_nx]
    refine ss_ret fun K hK => ?_
    array_get_dec
    rw [hK, retQ_ret]

end Kp.K07
namespace Kp.K07
open PySem L2 Kp
theorem walk {l : PySem.W.OpenLaw} {q : Program} {loose : List Str} {XP : (Str → Option Value) → Heap → Prop} {YP : World → Heap → Prop} {d : DefRec} {K : Params → PySem.W.Frag} (hn : l.most = some 63) (hdf : d.params.defaults = []) (hd : Str.ofString "law" = d.name)
    (hY : ∀ (w : World) (h : Heap), YP w h → (K w.params).In h)
    (F : ∀ w : World, (∃ f, row_law.At (K w.params) f) ∧ (∀ r ∈ rows, ∃ f, r.At (K w.params) f) ∧ (∀ p ∈ txt.glb, GlbAt (K w.params) p) ∧ (∀ x ∈ bNames, PySem.W.nsIn (K w.params) mainGlobals x = some none) ∧ ClsOk (K w.params) txt.excs txt.subs) :
    PySem.W.WalkO q loose XP YP l.row.toRowW d [] (fun f vs => PySem.call f vs) :=
  law_of (n := 63) (k := 8) (x := "_law_script") hn (by decide) hdf ⟨rfl, by decide, by decide⟩ hY oks nms ok_law rfl hd F (fun ns hns => LAW ns)
theorem memR {K : PySem.W.Frag} (h1 : ∃ f, row_is_text.At K f) (h2 : ∃ f, row_is_tuple_of.At K f) (h3 : ∃ f, row_is_list_of.At K f) (h4 : ∃ f, row_is_name.At K f) (h5 : ∃ f, row_is_letter.At K f) (h6 : ∃ f, row_look_at_book.At K f) (h7 : ∃ f, row__look_at_kinds.At K f) (h8 : ∃ f, row__is_kind.At K f) (h9 : ∃ f, row__look_at_head.At K f) (h10 : ∃ f, row__look_at_letters.At K f) (h11 : ∃ f, row__is_letter_row.At K f) (h12 : ∃ f, row__look_at_steps.At K f) (h13 : ∃ f, row__is_step.At K f) (h14 : ∃ f, row__look_for_idle.At K f) (h15 : ∃ f, row_read.At K f) (h16 : ∃ f, row__is_row.At K f) (h17 : ∃ f, row__is_letter_word.At K f) (h18 : ∃ f, row__may_stand.At K f) (h19 : ∃ f, row__put.At K f) (h20 : ∃ f, row__letter_of.At K f) (h21 : ∃ f, row__law_pool.At K f) (h22 : ∃ f, row__law_draw.At K f) (h23 : ∃ f, row__law_names.At K f) (h24 : ∃ f, row__law_book.At K f) (h25 : ∃ f, row__law_marks.At K f) (h26 : ∃ f, row__law_steps.At K f) (h27 : ∃ f, row__law_shown.At K f) (h28 : ∃ f, row__law_row.At K f) :
    ∀ r ∈ rows, ∃ f, r.At K f := by
  intro r hr
  unfold rows at hr
  simp only [List.mem_cons, List.not_mem_nil, or_false] at hr
  rcases hr with rfl | rfl | rfl | rfl | rfl | rfl | rfl | rfl | rfl | rfl | rfl | rfl | rfl | rfl | rfl | rfl | rfl | rfl | rfl | rfl | rfl | rfl | rfl | rfl | rfl | rfl | rfl | rfl <;> assumption
theorem memB {K : PySem.W.Frag} (b1 : PySem.W.nsIn K mainGlobals "set" = some none) (b2 : PySem.W.nsIn K mainGlobals "sorted" = some none) (b3 : PySem.W.nsIn K mainGlobals "repr" = some none) (b4 : PySem.W.nsIn K mainGlobals "dict" = some none) (b5 : PySem.W.nsIn K mainGlobals "len" = some none) (b6 : PySem.W.nsIn K mainGlobals "all" = some none) (b7 : PySem.W.nsIn K mainGlobals "any" = some none) (b8 : PySem.W.nsIn K mainGlobals "max" = some none) (b9 : PySem.W.nsIn K mainGlobals "min" = some none) (b10 : PySem.W.nsIn K mainGlobals "int" = some none) (b11 : PySem.W.nsIn K mainGlobals "list" = some none) (b12 : PySem.W.nsIn K mainGlobals "isinstance" = some none) (b13 : PySem.W.nsIn K mainGlobals "str" = some none) (b14 : PySem.W.nsIn K mainGlobals "bool" = some none) (b15 : PySem.W.nsIn K mainGlobals "tuple" = some none) (b16 : PySem.W.nsIn K mainGlobals "range" = some none) (b17 : PySem.W.nsIn K mainGlobals "enumerate" = some none) (b18 : PySem.W.nsIn K mainGlobals "zip" = some none) : ∀ x ∈ bNames, PySem.W.nsIn K mainGlobals x = some none := by
  intro x hx
  unfold bNames at hx
  simp only [List.mem_cons, List.not_mem_nil, or_false] at hx
  rcases hx with rfl | rfl | rfl | rfl | rfl | rfl | rfl | rfl | rfl | rfl | rfl | rfl | rfl | rfl | rfl | rfl | rfl | rfl <;> assumption
theorem memG {K : PySem.W.Frag} (g1 : GlbAt K (glb.getD 0 ("", .non))) (g2 : GlbAt K (glb.getD 1 ("", .non))) (g3 : GlbAt K (glb.getD 2 ("", .non))) (g4 : GlbAt K (glb.getD 3 ("", .non))) (g5 : GlbAt K (glb.getD 4 ("", .non))) (g6 : GlbAt K (glb.getD 5 ("", .non))) (g7 : GlbAt K (glb.getD 6 ("", .non))) (g8 : GlbAt K (glb.getD 7 ("", .non))) : ∀ p ∈ txt.glb, GlbAt K p := by
  intro p hp
  unfold txt glb at hp
  simp only [List.mem_cons, List.not_mem_nil, or_false] at hp
  rcases hp with rfl | rfl | rfl | rfl | rfl | rfl | rfl | rfl <;> assumption
theorem memC {K : PySem.W.Frag} {c0 : Addr} (k0 : ClsAt K "SnapError" c0) {c1 : Addr} (k1 : ClsAt K "BookError" c1) {c2 : Addr} (k2 : ClsAt K "NoBook" c2) {c3 : Addr} (k3 : ClsAt K "NoText" c3) (s0 : PySem.W.subIn K (.ref c2) (.ref c0) = some true) (e0 : ((Value.ref c2 : Value) == .ref c0) = true → true = true) (s1 : PySem.W.subIn K (.ref c2) (.ref c1) = some true) (e1 : ((Value.ref c2 : Value) == .ref c1) = true → true = true) (s2 : PySem.W.subIn K (.ref c2) (.ref c2) = some true) (e2 : ((Value.ref c2 : Value) == .ref c2) = true → true = true) (s3 : PySem.W.subIn K (.ref c2) (.ref c3) = some false) (e3 : ((Value.ref c2 : Value) == .ref c3) = true → false = true) (s4 : PySem.W.subIn K (.ref c3) (.ref c0) = some true) (e4 : ((Value.ref c3 : Value) == .ref c0) = true → true = true) (s5 : PySem.W.subIn K (.ref c3) (.ref c1) = some true) (e5 : ((Value.ref c3 : Value) == .ref c1) = true → true = true) (s6 : PySem.W.subIn K (.ref c3) (.ref c2) = some false) (e6 : ((Value.ref c3 : Value) == .ref c2) = true → false = true) (s7 : PySem.W.subIn K (.ref c3) (.ref c3) = some true) (e7 : ((Value.ref c3 : Value) == .ref c3) = true → true = true) (n0 : PySem.W.subIn K (.type "NoneType") (.ref c0) = some false) (n1 : PySem.W.subIn K (.type "NoneType") (.ref c1) = some false) (n2 : PySem.W.subIn K (.type "NoneType") (.ref c2) = some false) (n3 : PySem.W.subIn K (.type "NoneType") (.ref c3) = some false) : ClsOk K txt.excs txt.subs := by
  refine ⟨fun s => if s = "SnapError" then c0 else if s = "BookError" then c1 else if s = "NoBook" then c2 else if s = "NoText" then c3 else 0, ?_, ?_, ?_⟩
  · intro cl h
    unfold txt excs at h
    simp only [List.mem_cons, List.not_mem_nil, or_false] at h
    rcases h with rfl | rfl | rfl | rfl
    · exact k0
    · exact k1
    · exact k2
    · exact k3
  · intro q h
    unfold txt subs at h
    simp only [List.mem_cons, List.not_mem_nil, or_false] at h
    rcases h with rfl | rfl | rfl | rfl | rfl | rfl | rfl | rfl
    · exact ⟨by decide, by decide, kit_ok k0 s0 e0, exm_ok k0 s0⟩
    · exact ⟨by decide, by decide, kit_ok k1 s1 e1, exm_ok k1 s1⟩
    · exact ⟨by decide, by decide, kit_ok k2 s2 e2, exm_ok k2 s2⟩
    · exact ⟨by decide, by decide, kit_ok k3 s3 e3, exm_ok k3 s3⟩
    · exact ⟨by decide, by decide, kit_ok k0 s4 e4, exm_ok k0 s4⟩
    · exact ⟨by decide, by decide, kit_ok k1 s5 e5, exm_ok k1 s5⟩
    · exact ⟨by decide, by decide, kit_ok k2 s6 e6, exm_ok k2 s6⟩
    · exact ⟨by decide, by decide, kit_ok k3 s7 e7, exm_ok k3 s7⟩
  · intro cl h
    unfold txt excs at h
    simp only [List.mem_cons, List.not_mem_nil, or_false] at h
    rcases h with rfl | rfl | rfl | rfl
    · exact kit_ok k0 n0 (fun h => nomatch h)
    · exact kit_ok k1 n1 (fun h => nomatch h)
    · exact kit_ok k2 n2 (fun h => nomatch h)
    · exact kit_ok k3 n3 (fun h => nomatch h)
end Kp.K07
open PySem PySem.W PyProof.Rows in
set_option maxRecDepth 100000 in
set_option maxHeartbeats 0 in
theorem PySem.Challenge.cw_snapsure_k07_no_texts_holds : PySem.Challenge.rw_snapsure_k07_no_texts.Holds := by
  w_on; o_law; k_head; (case hw => w_witness2)
  k_fill
  refine Kp.K07.walk (l := PySem.Challenge.rw_snapsure_k07_no_texts) rfl rfl rfl (fun w h Y => PySem.W.kIn_of Y) ?F
  case F =>
    intro w
    refine ⟨?l, Kp.K07.memR ?r1 ?r2 ?r3 ?r4 ?r5 ?r6 ?r7 ?r8 ?r9 ?r10 ?r11 ?r12 ?r13 ?r14 ?r15 ?r16 ?r17 ?r18 ?r19 ?r20 ?r21 ?r22 ?r23 ?r24 ?r25 ?r26 ?r27 ?r28, Kp.K07.memG ?g1 ?g2 ?g3 ?g4 ?g5 ?g6 ?g7 ?g8, Kp.K07.memB ?b1 ?b2 ?b3 ?b4 ?b5 ?b6 ?b7 ?b8 ?b9 ?b10 ?b11 ?b12 ?b13 ?b14 ?b15 ?b16 ?b17 ?b18, Kp.K07.memC (c0 := ?c0) (c1 := ?c1) (c2 := ?c2) (c3 := ?c3) ?k0 ?k1 ?k2 ?k3 ?s0 ?e0 ?s1 ?e1 ?s2 ?e2 ?s3 ?e3 ?s4 ?e4 ?s5 ?e5 ?s6 ?e6 ?s7 ?e7 ?n0 ?n1 ?n2 ?n3⟩
    case l =>
      refine' Kp.at_mk "law" (Kp.K07.top 45) rfl rfl ?a ?l ?c ?k
      (case a => k_is)
      (case l => k_is)
      (case c => k_is)
      (case k => k_is)
    case r1 =>
      refine' Kp.at_mk "is_text" (Kp.K07.top 6) rfl rfl ?a ?l ?c ?k
      (case a => k_is)
      (case l => k_is)
      (case c => k_is)
      (case k => k_is)
    case r2 =>
      refine' Kp.at_mk "is_tuple_of" (Kp.K07.top 7) rfl rfl ?a ?l ?c ?k
      (case a => k_is)
      (case l => k_is)
      (case c => k_is)
      (case k => k_is)
    case r3 =>
      refine' Kp.at_mk "is_list_of" (Kp.K07.top 8) rfl rfl ?a ?l ?c ?k
      (case a => k_is)
      (case l => k_is)
      (case c => k_is)
      (case k => k_is)
    case r4 =>
      refine' Kp.at_mk "is_name" (Kp.K07.top 16) rfl rfl ?a ?l ?c ?k
      (case a => k_is)
      (case l => k_is)
      (case c => k_is)
      (case k => k_is)
    case r5 =>
      refine' Kp.at_mk "is_letter" (Kp.K07.top 17) rfl rfl ?a ?l ?c ?k
      (case a => k_is)
      (case l => k_is)
      (case c => k_is)
      (case k => k_is)
    case r6 =>
      refine' Kp.at_mk "look_at_book" (Kp.K07.top 18) rfl rfl ?a ?l ?c ?k
      (case a => k_is)
      (case l => k_is)
      (case c => k_is)
      (case k => k_is)
    case r7 =>
      refine' Kp.at_mk "_look_at_kinds" (Kp.K07.top 19) rfl rfl ?a ?l ?c ?k
      (case a => k_is)
      (case l => k_is)
      (case c => k_is)
      (case k => k_is)
    case r8 =>
      refine' Kp.at_mk "_is_kind" (Kp.K07.top 20) rfl rfl ?a ?l ?c ?k
      (case a => k_is)
      (case l => k_is)
      (case c => k_is)
      (case k => k_is)
    case r9 =>
      refine' Kp.at_mk "_look_at_head" (Kp.K07.top 21) rfl rfl ?a ?l ?c ?k
      (case a => k_is)
      (case l => k_is)
      (case c => k_is)
      (case k => k_is)
    case r10 =>
      refine' Kp.at_mk "_look_at_letters" (Kp.K07.top 22) rfl rfl ?a ?l ?c ?k
      (case a => k_is)
      (case l => k_is)
      (case c => k_is)
      (case k => k_is)
    case r11 =>
      refine' Kp.at_mk "_is_letter_row" (Kp.K07.top 23) rfl rfl ?a ?l ?c ?k
      (case a => k_is)
      (case l => k_is)
      (case c => k_is)
      (case k => k_is)
    case r12 =>
      refine' Kp.at_mk "_look_at_steps" (Kp.K07.top 24) rfl rfl ?a ?l ?c ?k
      (case a => k_is)
      (case l => k_is)
      (case c => k_is)
      (case k => k_is)
    case r13 =>
      refine' Kp.at_mk "_is_step" (Kp.K07.top 25) rfl rfl ?a ?l ?c ?k
      (case a => k_is)
      (case l => k_is)
      (case c => k_is)
      (case k => k_is)
    case r14 =>
      refine' Kp.at_mk "_look_for_idle" (Kp.K07.top 26) rfl rfl ?a ?l ?c ?k
      (case a => k_is)
      (case l => k_is)
      (case c => k_is)
      (case k => k_is)
    case r15 =>
      refine' Kp.at_mk "read" (Kp.K07.top 30) rfl rfl ?a ?l ?c ?k
      (case a => k_is)
      (case l => k_is)
      (case c => k_is)
      (case k => k_is)
    case r16 =>
      refine' Kp.at_mk "_is_row" (Kp.K07.top 31) rfl rfl ?a ?l ?c ?k
      (case a => k_is)
      (case l => k_is)
      (case c => k_is)
      (case k => k_is)
    case r17 =>
      refine' Kp.at_mk "_is_letter_word" (Kp.K07.top 32) rfl rfl ?a ?l ?c ?k
      (case a => k_is)
      (case l => k_is)
      (case c => k_is)
      (case k => k_is)
    case r18 =>
      refine' Kp.at_mk "_may_stand" (Kp.K07.top 33) rfl rfl ?a ?l ?c ?k
      (case a => k_is)
      (case l => k_is)
      (case c => k_is)
      (case k => k_is)
    case r19 =>
      refine' Kp.at_mk "_put" (Kp.K07.top 34) rfl rfl ?a ?l ?c ?k
      (case a => k_is)
      (case l => k_is)
      (case c => k_is)
      (case k => k_is)
    case r20 =>
      refine' Kp.at_mk "_letter_of" (Kp.K07.top 35) rfl rfl ?a ?l ?c ?k
      (case a => k_is)
      (case l => k_is)
      (case c => k_is)
      (case k => k_is)
    case r21 =>
      refine' Kp.at_mk "_law_pool" (Kp.K07.top 37) rfl rfl ?a ?l ?c ?k
      (case a => k_is)
      (case l => k_is)
      (case c => k_is)
      (case k => k_is)
    case r22 =>
      refine' Kp.at_mk "_law_draw" (Kp.K07.top 38) rfl rfl ?a ?l ?c ?k
      (case a => k_is)
      (case l => k_is)
      (case c => k_is)
      (case k => k_is)
    case r23 =>
      refine' Kp.at_mk "_law_names" (Kp.K07.top 39) rfl rfl ?a ?l ?c ?k
      (case a => k_is)
      (case l => k_is)
      (case c => k_is)
      (case k => k_is)
    case r24 =>
      refine' Kp.at_mk "_law_book" (Kp.K07.top 40) rfl rfl ?a ?l ?c ?k
      (case a => k_is)
      (case l => k_is)
      (case c => k_is)
      (case k => k_is)
    case r25 =>
      refine' Kp.at_mk "_law_marks" (Kp.K07.top 41) rfl rfl ?a ?l ?c ?k
      (case a => k_is)
      (case l => k_is)
      (case c => k_is)
      (case k => k_is)
    case r26 =>
      refine' Kp.at_mk "_law_steps" (Kp.K07.top 42) rfl rfl ?a ?l ?c ?k
      (case a => k_is)
      (case l => k_is)
      (case c => k_is)
      (case k => k_is)
    case r27 =>
      refine' Kp.at_mk "_law_shown" (Kp.K07.top 43) rfl rfl ?a ?l ?c ?k
      (case a => k_is)
      (case l => k_is)
      (case c => k_is)
      (case k => k_is)
    case r28 =>
      refine' Kp.at_mk "_law_row" (Kp.K07.top 44) rfl rfl ?a ?l ?c ?k
      (case a => k_is)
      (case l => k_is)
      (case c => k_is)
      (case k => k_is)
    case g1 =>
      refine' Kp.glb_int "MOST_SIGNS" rfl ?a
      (case a => k_is)
    case g2 =>
      refine' Kp.glb_int "MOST_KINDS" rfl ?a
      (case a => k_is)
    case g3 =>
      refine' Kp.glb_int "MOST_DEALINGS" rfl ?a
      (case a => k_is)
    case g4 =>
      refine' Kp.glb_int "MOST_LETTERS" rfl ?a
      (case a => k_is)
    case g5 =>
      refine' Kp.glb_int "MOST_STEPS" rfl ?a
      (case a => k_is)
    case g6 =>
      refine' Kp.glb_tup (ss := ["read".toList, "write".toList, "ask".toList]) "DEEDS" rfl ?a ?l ?v ?n
      (case a => k_is)
      (case l => k_is)
      (case v => repeat' first | exact .nil | refine .cons ⟨_, rfl⟩ ?_)
      (case n => decide)
    case g7 =>
      refine' Kp.glb_str "MANY" rfl ?a ?z
      (case a => k_is)
      (case z => rfl)
    case g8 =>
      refine' Kp.glb_str "ONE" rfl ?a ?z
      (case a => k_is)
      (case z => rfl)
    case k0 =>
      refine' ⟨?ns, ?kC, ?ex, ?sb, ?ty, ⟨?q1, ?q2, ?q3, ?q4, ?q5, ?q6, ?q7, ?q8⟩, ?ini, ?ic⟩
      (case ns => k_is)
      (case kC => k_is)
      (case ex => intro _; k_exc)
      (case sb => k_is)
      (case ty => k_is)
      (case q1 => k_is)
      (case q2 => k_is)
      (case q3 => k_is)
      (case q4 => k_is)
      (case q5 => k_is)
      (case q6 => k_is)
      (case q7 => k_is)
      (case q8 => k_is)
      (case ic => k_is)
      (case ini => exact fun h => absurd h (by decide))
    case k1 =>
      refine' ⟨?ns, ?kC, ?ex, ?sb, ?ty, ⟨?q1, ?q2, ?q3, ?q4, ?q5, ?q6, ?q7, ?q8⟩, ?ini, ?ic⟩
      (case ns => k_is)
      (case kC => k_is)
      (case ex => intro _; k_exc)
      (case sb => k_is)
      (case ty => k_is)
      (case q1 => k_is)
      (case q2 => k_is)
      (case q3 => k_is)
      (case q4 => k_is)
      (case q5 => k_is)
      (case q6 => k_is)
      (case q7 => k_is)
      (case q8 => k_is)
      (case ic => k_is)
      (case ini => exact fun h => absurd h (by decide))
    case k2 =>
      refine' ⟨?ns, ?kC, ?ex, ?sb, ?ty, ⟨?q1, ?q2, ?q3, ?q4, ?q5, ?q6, ?q7, ?q8⟩, ?ini, ?ic⟩
      (case ns => k_is)
      (case kC => k_is)
      (case ex => exact fun h => absurd (by decide) h)
      (case sb => k_is)
      (case ty => k_is)
      (case q1 => k_is)
      (case q2 => k_is)
      (case q3 => k_is)
      (case q4 => k_is)
      (case q5 => k_is)
      (case q6 => k_is)
      (case q7 => k_is)
      (case q8 => k_is)
      (case ic => k_is)
      (case ini => exact fun h => absurd h (by decide))
    case k3 =>
      refine' ⟨?ns, ?kC, ?ex, ?sb, ?ty, ⟨?q1, ?q2, ?q3, ?q4, ?q5, ?q6, ?q7, ?q8⟩, ?ini, ?ic⟩
      (case ns => k_is)
      (case kC => k_is)
      (case ex => exact fun h => absurd (by decide) h)
      (case sb => k_is)
      (case ty => k_is)
      (case q1 => k_is)
      (case q2 => k_is)
      (case q3 => k_is)
      (case q4 => k_is)
      (case q5 => k_is)
      (case q6 => k_is)
      (case q7 => k_is)
      (case q8 => k_is)
      (case ic => k_is)
      (case ini =>
        intro _
        refine' Kp.ini_mk (Kp.initOf (Kp.K07.top 4)) rfl rfl rfl ?zx ?zu ?zs ?zi ?zt ?zl ?zc ?zn
        (case zi => k_is)
        (case zx => k_is)
        (case zu => repeat' first | exact .base | refine .own ?_)
        (case zs => k_is)
        (case zt => k_is)
        (case zl => k_is)
        (case zc => k_is)
        (case zn => k_is))
    case s0 => first | rfl | k_is
    case e0 => first | exact fun _ => rfl | exact fun h => absurd h (by decide)
    case s1 => first | rfl | k_is
    case e1 => first | exact fun _ => rfl | exact fun h => absurd h (by decide)
    case s2 => first | rfl | k_is
    case e2 => first | exact fun _ => rfl | exact fun h => absurd h (by decide)
    case s3 => first | rfl | k_is
    case e3 => first | exact fun _ => rfl | exact fun h => absurd h (by decide)
    case s4 => first | rfl | k_is
    case e4 => first | exact fun _ => rfl | exact fun h => absurd h (by decide)
    case s5 => first | rfl | k_is
    case e5 => first | exact fun _ => rfl | exact fun h => absurd h (by decide)
    case s6 => first | rfl | k_is
    case e6 => first | exact fun _ => rfl | exact fun h => absurd h (by decide)
    case s7 => first | rfl | k_is
    case e7 => first | exact fun _ => rfl | exact fun h => absurd h (by decide)
    case n0 => k_is
    case n1 => k_is
    case n2 => k_is
    case n3 => k_is
    case b1 => k_is
    case b2 => k_is
    case b3 => k_is
    case b4 => k_is
    case b5 => k_is
    case b6 => k_is
    case b7 => k_is
    case b8 => k_is
    case b9 => k_is
    case b10 => k_is
    case b11 => k_is
    case b12 => k_is
    case b13 => k_is
    case b14 => k_is
    case b15 => k_is
    case b16 => k_is
    case b17 => k_is
    case b18 => k_is
