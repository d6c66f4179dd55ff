/- Plain mathematics of messages: which may be, their bytes, and what bytes are one's. -/
import Derived.Test.YtakjoodlediemaaPackMath2
namespace Mesg

structure Id where
  time : Int
  site : Int
deriving DecidableEq

structure Op where
  kind : Int
  epoch : Int
  id : Id
  ref : Id
  rune : Int
deriving DecidableEq

structure Msg where
  site : Int
  seq : Int
  know : List Int
  op : Op
deriving DecidableEq

def zero : Id := ⟨0, 0⟩
def noOp : Op := ⟨0, 0, zero, zero, 0⟩
def none : Msg := ⟨0, 0, [], noOp⟩

def clock (n : Int) : Bool := decide (0 ≤ n) && decide (n ≤ 4294967295)
def rune (n : Int) : Bool := decide (32 ≤ n) && decide (n ≤ 1114111) && !(decide (127 ≤ n) && decide (n ≤ 159)) && !(decide (55296 ≤ n) && decide (n ≤ 57343))
def idMay (x : Id) (n : Nat) : Bool := decide (1 ≤ x.time) && clock x.time && decide (0 ≤ x.site) && decide (x.site < (n : Int))
def isZero (x : Id) : Bool := decide (x.time = 0) && decide (x.site = 0)

def own (m : Msg) : Bool := idMay m.op.id m.know.length && decide (m.op.id.site = m.site)
def refMay (m : Msg) : Bool := idMay m.op.ref m.know.length
def opMay (m : Msg) : Bool :=
  clock m.op.epoch &&
  if m.op.kind = 1 then own m && (isZero m.op.ref || (refMay m && decide (m.op.ref.time < m.op.id.time))) && rune m.op.rune
  else if m.op.kind = 2 ∨ m.op.kind = 3 ∨ m.op.kind = 4 ∨ m.op.kind = 7 ∨ m.op.kind = 8 then refMay m && isZero m.op.id && decide (m.op.rune = 0)
  else if m.op.kind = 5 then (isZero m.op.ref || refMay m) && isZero m.op.id && decide (m.op.rune = 0)
  else if m.op.kind = 6 then own m && isZero m.op.ref && decide (m.op.rune = 0)
  else false

/-- What Know of the message's own site says. -/
def knows (m : Msg) : Int := m.know.getD m.site.toNat 0
def headMay (m : Msg) : Bool :=
  decide (1 ≤ m.know.length) && decide (m.know.length ≤ 16) && m.know.all clock && decide (0 ≤ m.site) && decide (m.site < (m.know.length : Int)) && decide (1 ≤ m.seq) && clock m.seq && decide (knows m = m.seq - 1)
def may (m : Msg) : Bool := headMay m && opMay m
end Mesg
