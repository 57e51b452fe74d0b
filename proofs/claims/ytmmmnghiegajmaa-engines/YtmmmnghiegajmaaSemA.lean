/- Runs of a text as plain mathematics: what is left to do, and how a run does it. -/
import Derived.Test.YtmmmnghiegajmaaHerA
import Derived.Test.YtmmmnghiegajmaaCmpA
namespace Go.Proofs.Herald

/-- A statement that is left to do (d: how deep its blocks can be); of a retry how many of its tries are behind it; of a repeat how often it was done. -/
structure It where
  d : Nat
  s : Hd × Tree d × Tree d
  i : Nat

def itsOf : (d : Nat) → Tree d → List It
  | 0, _ => []
  | d + 1, l => l.list.map fun x => ⟨d, x, 0⟩

/-- How long what is left to do can go on at most. -/
def msS {T : Type} (t : ByteArray) (sub : T → Nat) (x : Hd × T × T) (i : Nat) : Nat :=
  if bytesOf t x.1.p = kRepeat then 1 + (x.1.n.toNat - i) * (sub x.2.1 + 1) else 1 + sub x.2.2
def msT (t : ByteArray) : (d : Nat) → Tree d → Nat
  | 0, _ => 0
  | d + 1, l => (l.list.map fun x => msS t (msT t d) x 0).sum
def msI (t : ByteArray) (x : It) : Nat := msS t (msT t x.d) x.s x.i
def msL (t : ByteArray) (l : List It) : Nat := (l.map (msI t)).sum

theorem msL_nil (t : ByteArray) : msL t [] = 0 := rfl
theorem msL_cons (t : ByteArray) (x : It) (l : List It) : msL t (x :: l) = msI t x + msL t l := by unfold msL; simp
theorem msL_append (t : ByteArray) (l m : List It) : msL t (l ++ m) = msL t l + msL t m := by unfold msL; simp
theorem msL_its (t : ByteArray) (d : Nat) (x : Tree d) : msL t (itsOf d x) = msT t d x := by
  cases d with
  | zero => rfl
  | succ d => unfold msL itsOf msT; rw [List.map_map]; rfl

/-- A run of a text: what is told of it (its registers are none), what is to be done when it is answered, and when not. -/
structure TR where
  p : Pr
  yes : List It
  no : List It

/-- What is to be done is done, till the run stops or ends: the queue, the run, has it ended. -/
def doT (t : ByteArray) (now : Int) : Nat → List It → List Msg → TR → List Msg × TR × Bool
  | 0, _, q, r => (q, r, true)
  | _ + 1, [], q, r => (q, r, true)
  | f + 1, x :: l, q, r =>
    if bytesOf t x.s.1.p = kSend then doT t now f l (sendP q r.p x.s.1.key).1 { r with p := (sendP q r.p x.s.1.key).2.1 }
    else if bytesOf t x.s.1.p = kWait then (q, { r with p := stopP r.p now x.s.1.n 0, no := l }, false)
    else if bytesOf t x.s.1.p = kStop then (q, r, true)
    else if bytesOf t x.s.1.p = kAsk then
      (if (sendP q r.p x.s.1.key).2.2 = 0 then doT t now f (itsOf x.d x.s.2.2 ++ l) (sendP q r.p x.s.1.key).1 { r with p := (sendP q r.p x.s.1.key).2.1 }
       else ((sendP q r.p x.s.1.key).1, ⟨stopP (sendP q r.p x.s.1.key).2.1 now x.s.1.n (sendP q r.p x.s.1.key).2.2, itsOf x.d x.s.2.1 ++ l, itsOf x.d x.s.2.2 ++ l⟩, false))
    else if bytesOf t x.s.1.p = kRetry then
      (if (x.i : Int) = x.s.1.m then doT t now f (itsOf x.d x.s.2.2 ++ l) q r
       else ((sendP q r.p x.s.1.key).1, ⟨stopP (sendP q r.p x.s.1.key).2.1 now (x.s.1.n * 2 ^ x.i) (sendP q r.p x.s.1.key).2.2, itsOf x.d x.s.2.1 ++ l, ⟨x.d, x.s, x.i + 1⟩ :: l⟩, false))
    else if bytesOf t x.s.1.p = kRepeat then
      (if (x.i : Int) < x.s.1.n then doT t now f (itsOf x.d x.s.2.1 ++ ⟨x.d, x.s, x.i + 1⟩ :: l) q r
       else doT t now f l q r)
    else (q, r, true)

/-- A stopped run of a text goes on. -/
def onT (t : ByteArray) (now : Int) (yes : Bool) (q : List Msg) (r : TR) : List Msg × TR × Bool :=
  if yes then doT t now (msL t r.yes + 1) r.yes q { r with p := { r.p with num := 0 } }
  else if 0 < r.p.num then doT t now (msL t r.no + 1) r.no (takeQ q r.p.id r.p.num) { r with p := { r.p with num := 0 } }
  else doT t now (msL t r.no + 1) r.no q { r with p := { r.p with num := 0 } }

def pubP (p : Pr) : Rn := ⟨p.id, p.dev, p.sent, p.til, p.num⟩
def freshP (id dev : Int) : Pr := ⟨id, dev, 0, 0, 0, List.replicate 12 0, 0, 0⟩

/-- Runs of code. -/
def codeE (cs : List Ins) : Eng Pr := ⟨pubP, freshP, fun now q p => runP now cs 10000 0 q p, fun now yes q p => onP now cs yes q p⟩
/-- Runs of a text. -/
def textE (t : ByteArray) (tr : Tree 5) : Eng TR :=
  ⟨fun r => pubP r.p, fun id dev => ⟨freshP id dev, [], []⟩, fun now q r => doT t now (msT t 5 tr + 1) (itsOf 5 tr) q r, fun now yes q r => onT t now yes q r⟩

end Go.Proofs.Herald
