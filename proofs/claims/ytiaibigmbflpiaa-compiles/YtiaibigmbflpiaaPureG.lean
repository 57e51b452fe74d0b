/- How heavy a tree of statements is, and how long a run of it can take. -/
import Derived.Test.YtiaibigmbflpiaaPureF
namespace Go.Proofs.Herald

/-- The place of the first repeat that is too much, within others that come to n; -1: none. -/
def heavyL (t : ByteArray) {T : Type} (sub : T → Int → Int) : List (Hd × T × T) → Int → Int
  | [], _ => -1
  | x :: r, n =>
    if bytesOf t x.1.p = kRepeat then
      (if 64 < n * x.1.n then (x.1.p.1 : Int)
       else if 0 ≤ sub x.2.1 (n * x.1.n) then sub x.2.1 (n * x.1.n)
       else if 0 ≤ sub x.2.2 (n * x.1.n) then sub x.2.2 (n * x.1.n)
       else heavyL t sub r n)
    else
      (if 0 ≤ sub x.2.1 n then sub x.2.1 n
       else if 0 ≤ sub x.2.2 n then sub x.2.2 n
       else heavyL t sub r n)

def heavyT (t : ByteArray) : (d : Nat) → Tree d → Int → Int
  | 0, _, _ => -1
  | d + 1, l, n => heavyL t (heavyT t d) l n

/-- n times, behind one another. -/
def rounds : Nat → Int × Int → Int × Int → Int × Int
  | 0, acc, _ => acc
  | k + 1, acc, a => rounds k (behindI acc.1 a.1, maxI acc.2 (behindI acc.1 a.2)) a

/-- All tries' ticks. -/
def triesI (n : Int) : Nat → Int
  | 0 => n
  | k + 1 => 2 * triesI n k + n

/-- The ticks through one statement, and to a stop in it, out of those of its blocks. -/
def oneI (t : ByteArray) (h : Hd) (a b : Int × Int) : Int × Int :=
  if bytesOf t h.p = kWait then (h.n, -1)
  else if bytesOf t h.p = kStop then (-1, 0)
  else if bytesOf t h.p = kSend then (0, -1)
  else if bytesOf t h.p = kRepeat then rounds h.n.toNat (0, -1) a
  else (maxI (behindI (triesI h.n (h.m - 1).toNat - 1) a.1) (behindI (triesI h.n (h.m - 1).toNat) b.1),
        maxI (behindI (triesI h.n (h.m - 1).toNat - 1) a.2) (behindI (triesI h.n (h.m - 1).toNat) b.2))

def foldI : Int × Int → List (Int × Int) → Int × Int
  | acc, [] => acc
  | acc, a :: r => foldI (behindI acc.1 a.1, maxI acc.2 (behindI acc.1 a.2)) r

/-- The ticks through a block, and to a stop in it; -1: no way. -/
def lastsT (t : ByteArray) : (d : Nat) → Tree d → Int × Int
  | 0, _ => (0, -1)
  | d + 1, l => foldI (0, -1) (l.map fun x => oneI t x.1 (lastsT t d x.2.1) (lastsT t d x.2.2))

/-- How many statements there are, those within blocks too. -/
def sizeT : (d : Nat) → Tree d → Nat
  | 0, _ => 0
  | d + 1, l => (l.map fun x => 1 + sizeT d x.2.1 + sizeT d x.2.2).sum

def Tree.list {d : Nat} (l : Tree (d + 1)) : List (Hd × Tree d × Tree d) := l

/-- Every number may be. -/
def OkT (t : ByteArray) : (d : Nat) → Tree d → Prop
  | 0, _ => True
  | d + 1, l => ∀ x : Hd × Tree d × Tree d, x ∈ l.list → 0 ≤ x.1.n ∧ x.1.n ≤ 999 ∧ 0 ≤ x.1.m ∧ x.1.m ≤ 6 ∧ (bytesOf t x.1.p = kRepeat → 1 ≤ x.1.n ∧ x.1.n ≤ 9) ∧ OkT t d x.2.1 ∧ OkT t d x.2.2

end Go.Proofs.Herald
