/-
  THE DEVICE AS DATA: its state, its operations, and what it is for blocks of memory to hold a device in that state.
-/
import Derived.Test.YtnhddgmegnehaaaDoorDPersist
import Derived.Maps.RangeWalk
import Derived.Maps.OwnOps
import Derived.Maps.OwnSet
set_option linter.unusedVariables false
set_option linter.unusedSimpArgs false
namespace Go.Proofs.YtnhddgmegnehaaaDoor.Dev
open Go.ChangeShapes Go.WideShapes Go.ChangeAt Go.RowKit Go.Proofs.YtnhddgmegnehaaaDoor.Mem
structure St where
  n : Nat
  pers : Nat → Nat → Nat
  hist : Nat → List (Nat × Nat)
  gone : Nat → Nat
  notes : Nat → List (Nat × Nat)
  err : Nat → Nat
  ex : Nat
  off : Bool
  left : Option Nat
namespace St
def cur (S : St) (i : Nat) : Nat → Nat := applyW (S.pers i) (S.hist i)
def setErr (S : St) (t e : Nat) : St := { S with err := fun u => if u = t ∧ S.err t = 0 then e else S.err u }
/-- Is the instruction admitted? -/
def may (S : St) (v : Bool) : Bool := !S.off && v
def mayS (S : St) (t : Nat) (v : Bool) : St := if S.off then S.setErr t 3 else if v then S else S.setErr t 2
/-- A counted instruction. -/
def tickS (S : St) : St := { S with left := S.left.map (· - 1), ex := S.ex + 1 }
def dead (S : St) : Bool := S.left == some 0
def tk (S : St) : St := if S.dead then { S with off := true } else S.tickS
def cntS (S : St) (t : Nat) (v : Bool) : St :=
  if S.off then S.setErr t 3 else if v then (if S.dead then S.tk.setErr t 3 else S.tk) else S.setErr t 2
def cnt (S : St) (v : Bool) : Bool := !S.off && v && !S.dead
def isW (S : St) (o : Nat) : Bool := decide (o % 8 = 0) && decide (o < S.n * 64)
def val (S : St) (o : Nat) : Nat := S.cur (o / 64) (o / 8 % 8)
def put (S : St) (o x : Nat) : St := { S with hist := fun i => if i = o / 64 then S.hist i ++ [(o, x)] else S.hist i }
def pst (S : St) (l k : Nat) : St :=
  { S with pers := fun i => if i = l then applyW (S.pers i) ((S.hist i).take k) else S.pers i,
           hist := fun i => if i = l then (S.hist i).drop k else S.hist i,
           gone := fun i => if i = l then S.gone i + k else S.gone i }
def loadS (S : St) (t o : Nat) : St := S.mayS t (S.isW o)
def load (S : St) (o : Nat) : Nat := if S.may (S.isW o) then S.val o else 0
def storeS (S : St) (t o x : Nat) : St := if S.cnt (S.isW o) then (S.cntS t (S.isW o)).put o x else S.cntS t (S.isW o)
def cas (S : St) (o old : Nat) : Bool := S.cnt (S.isW o) && S.val o == old
def casS (S : St) (t o old x : Nat) : St := if S.cas o old then (S.cntS t (S.isW o)).put o x else S.cntS t (S.isW o)
def flushV (S : St) (o : Nat) : Bool := decide (o < S.n * 64)
def note (S : St) (t l at_ : Nat) : St := { S with notes := fun u => if u = t then (S.notes t).filter (fun p => p.1 != l) ++ [(l, at_)] else S.notes u }
def flushS (S : St) (t o : Nat) : St :=
  if S.cnt (S.flushV o) then (S.cntS t (S.flushV o)).note t (o / 64) (S.gone (o / 64) + (S.hist (o / 64)).length) else S.cntS t (S.flushV o)
/-- The first f i stores of each line i are persisted. -/
def pstF (S : St) (f : Nat → Nat) : St :=
  { S with pers := fun i => applyW (S.pers i) ((S.hist i).take (f i)), hist := fun i => (S.hist i).drop (f i), gone := fun i => S.gone i + f i }
/-- How many stores of line i a fence persists that has these notes. -/
def kof (S : St) (l : List (Nat × Nat)) (i : Nat) : Nat := match l.find? (fun p => p.1 == i) with
  | some p => p.2 - S.gone i
  | none => 0
def clr (S : St) (t : Nat) : St := { S with notes := fun u => if u = t then [] else S.notes u }
def fenceS (S : St) (t : Nat) : St := if S.cnt true then ((S.cntS t true).pstF (S.kof (S.notes t))).clr t else S.cntS t true
def wb (S : St) (l k : Int) : Bool := !S.off && decide (0 ≤ l) && decide (l < S.n) && decide (0 ≤ k) && decide (k ≤ ((S.hist l.toNat).length : Int))
def wbS (S : St) (l k : Int) : St := if S.wb l k then S.pst l.toNat k.toNat else S
def armS (S : St) (m : Int) : St := if S.off then S else { S with left := if 0 ≤ m then some m.toNat else none }
/-- What every state has. M bounds all counts. -/
structure Ok (S : St) (M : Nat) : Prop where
  n0 : 1 ≤ S.n
  n1 : S.n ≤ 4096
  pers : ∀ i j, S.pers i j < 18446744073709551616
  hist : ∀ i, ∀ p ∈ S.hist i, p.1 / 64 = i ∧ p.1 % 8 = 0 ∧ p.1 < S.n * 64 ∧ p.2 < 18446744073709551616
  sum : ∀ i, S.gone i + (S.hist i).length ≤ M
  ex : S.ex ≤ M
  err : ∀ t, S.err t ≤ 3
  left : ∀ m, S.left = some m → m ≤ 9223372036854775807
  note : ∀ t, ∀ p ∈ S.notes t, p.1 < S.n ∧ p.2 ≤ S.gone p.1 + (S.hist p.1).length
  keys : ∀ t, (S.notes t).Pairwise (fun p q => p.1 ≠ q.1)
  cnt : ∀ t, (S.notes t).length ≤ 4096
end St
/-- Where a device lies: its own block, its lines' block, the histories' slices, the notes' maps. -/
structure Adr where
  d : Nat
  lb : Nat
  cap : Nat
  hv : Nat → Value
  mv : Nat → Option Nat
def Adr.foot (A : Adr) (n b : Nat) : Prop := b = A.d ∨ b = A.lb ∨ (∃ i, i < n ∧ (A.hv i).ownBlock = some b) ∨ ∃ t, t < 8 ∧ A.mv t = some b
structure Apart (n : Nat) (A : Adr) : Prop where
  dl : A.d ≠ A.lb
  hd : ∀ i, i < n → (A.hv i).ownBlock ≠ some A.d
  hl : ∀ i, i < n → (A.hv i).ownBlock ≠ some A.lb
  hh : ∀ i j, i < n → j < n → i ≠ j → ∀ b, (A.hv i).ownBlock = some b → (A.hv j).ownBlock ≠ some b
  md : ∀ t, t < 8 → A.mv t ≠ some A.d
  ml : ∀ t, t < 8 → A.mv t ≠ some A.lb
  mh : ∀ t i, t < 8 → i < n → ∀ b, A.mv t = some b → (A.hv i).ownBlock ≠ some b
  mm : ∀ t u, t < 8 → u < 8 → t ≠ u → ∀ b, A.mv t = some b → A.mv u ≠ some b
def devG (A : Adr) (S : St) (o : Nat) : Value :=
  if o = 0 then .slice (some ⟨A.lb, 0, none⟩) S.n A.cap
  else if o < 33 then
    (if (o - 1) % 4 = 0 then .pointer (some ⟨A.d, 0, none⟩) else if (o - 1) % 4 = 1 then .int .i64 (((o - 1) / 4 : Nat) : Int)
     else if (o - 1) % 4 = 2 then .int .i64 (S.err ((o - 1) / 4) : Int) else .map (A.mv ((o - 1) / 4)))
  else if o = 33 then .int .u64 (S.ex : Int) else if o = 34 then .bool S.off else if o = 35 then .bool S.left.isSome else .int .i64 ((S.left.getD 0 : Nat) : Int)
def linesG (A : Adr) (S : St) (o : Nat) : Value :=
  if o % 18 < 8 then wordG (S.pers (o / 18)) (o % 18) else if o % 18 < 16 then wordG (S.cur (o / 18)) (o % 18 - 8) else if o % 18 = 16 then A.hv (o / 18) else .int .u64 (S.gone (o / 18) : Int)
def MapAt (w : World) (b m : Nat) (l : List (Nat × Nat)) : Prop :=
  ∃ (n : Nat) (D : DataW Unit), n ≤ m ∧ w.ownsMap Tryd.prog 3 (plainElem Tryd.prog 33) b n D ∧ (∀ k, Maps.has D k = true ↔ ∃ p ∈ l, k = Lit.int .i64 (p.1 : Int)) ∧ ∀ p ∈ l, ∀ z, D.atKey (Lit.int .i64 (p.1 : Int)) z = .lit (.int .u64 (p.2 : Int))
structure IsDev (w : World) (base : Nat) (A : Adr) (S : St) : Prop where
  dev : Blk w A.d 76 37 (devG A S)
  lines : Blk w A.lb 81 (S.n * 18) (linesG A S)
  hist : ∀ i, i < S.n → Hist w base (A.hv i) (S.hist i)
  maps : ∀ t, t < 8 → (A.mv t = none ∧ S.notes t = []) ∨ ∃ b, A.mv t = some b ∧ base ≤ b ∧ MapAt w b S.ex (S.notes t)
  apart : Apart S.n A
  bd : base ≤ A.d
  bl : base ≤ A.lb
end Go.Proofs.YtnhddgmegnehaaaDoor.Dev
