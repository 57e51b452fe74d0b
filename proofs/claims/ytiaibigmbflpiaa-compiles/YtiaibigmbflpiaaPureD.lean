/- The acceptor of a text's form, as the document's own answer goes through the words. -/
import Derived.Test.YtiaibigmbflpiaaPureC
namespace Go.Proofs.Herald

def kSend : List UInt8 := [115, 101, 110, 100]
def kWait : List UInt8 := [119, 97, 105, 116]
def kStop : List UInt8 := [115, 116, 111, 112]
def kAsk : List UInt8 := [97, 115, 107]
def kRetry : List UInt8 := [114, 101, 116, 114, 121]
def kRepeat : List UInt8 := [114, 101, 112, 101, 97, 116]
def kElse : List UInt8 := [101, 108, 115, 101]
def kOpen : List UInt8 := [123]
def kShut : List UInt8 := [125]

/-- The acceptor's state: what must come next (the next first), may else follow the blocks that are open (the innermost first), may else follow the next block, the numbers so far and their sorts. -/
structure FSt where
  want : List Int
  elses : List Bool
  next : Bool
  nums : List (Nat × Nat)
  sorts : List Int

/-- A word where a statement may begin. -/
def firstF (s : List UInt8) (mode : Int) (st : FSt) : FSt × Bool :=
  if s = kSend then ({ st with want := [2, 0] }, true)
  else if s = kWait then ({ st with want := [3, 0] }, true)
  else if s = kStop then ({ st with want := [0] }, true)
  else if s = kAsk then ({ st with want := [2, 3, 6], next := true }, true)
  else if s = kRetry then ({ st with want := [4, 2, 3, 6], next := true }, true)
  else if s = kRepeat then ({ st with want := [5, 6], next := false }, true)
  else if s = kElse then ({ st with want := [6], next := false }, mode == 1)
  else if s = kShut then
    match st.elses with
    | [] => (st, false)
    | e :: r => ({ st with want := if e then [1] else [0], elses := r }, true)
  else (st, false)

/-- One word more. -/
def readF (s : List UInt8) (p : Nat × Nat) (st : FSt) : FSt × Bool :=
  match st.want with
  | [] => (st, false)
  | m :: r =>
    if m = 0 ∨ m = 1 then firstF s m st
    else if m = 6 then ({ st with elses := st.next :: st.elses, want := [0] }, s == kOpen)
    else if m = 2 then ({ st with want := r }, decide (0 ≤ keyL s))
    else ({ st with want := r, nums := st.nums ++ [p], sorts := st.sorts ++ [m] }, decide (0 ≤ numL s))

end Go.Proofs.Herald
