/- The program's reader: numbers, keys, and what stands ahead of the blocks. -/
import Derived.Test.YtiaibigmbflpiaaPureK
namespace Go.Proofs.Herald






def nV (l : List UInt8) : Int := if 0 ≤ numL l then numL l else 0
def nB (l : List UInt8) : Bool := decide (0 ≤ numL l)
def kV (l : List UInt8) : Int := if 0 ≤ keyL l then keyL l else 0
def kB (l : List UInt8) : Bool := decide (0 ≤ keyL l)

def bytesR (t : ByteArray) (st : RSt) : List UInt8 := (wordR t st.us).data.toList

/-- A number that may be 1 to most. -/
def numberR (t : ByteArray) (st : RSt) (most : Int) : Int × Bool × RSt :=
  if nB (bytesR t st) then
    (nV (bytesR t st), true, advR (if nV (bytesR t st) < 1 ∨ most < nV (bytesR t st) then noteR st 3 (atR t st.us : Nat) else st))
  else (0, false, st)

def timesR (t : ByteArray) (st : RSt) (kind : Int) : Int × Bool × RSt :=
  if kind = 5 then numberR t st 6 else if kind = 6 then numberR t st 9 else (0, true, st)

def keyR (t : ByteArray) (st : RSt) (kind : Int) : Int × Bool × RSt :=
  if kind = 1 ∨ kind = 4 ∨ kind = 5 then (kV (bytesR t st), kB (bytesR t st), if kB (bytesR t st) then advR st else st) else (0, true, st)

def ticksR (t : ByteArray) (st : RSt) (kind : Int) : Int × Bool × RSt :=
  if kind = 2 ∨ kind = 4 ∨ kind = 5 then numberR t st 999 else (0, true, st)

theorem wordR_size {t : ByteArray} (us : List (Nat × Nat)) : (wordR t us).size ≤ t.size := by
  cases us with
  | nil => simp [wordR]
  | cons p r => show (t.extract p.1 p.2).size ≤ _; simp; omega

end Go.Proofs.Herald
