/- The program's reader: blocks and statements, as plain functions; blk: what reads the statements up to a closing brace. -/
import Derived.Test.YtiaibigmbflpiaaPureL
namespace Go.Proofs.Herald

def heavierI (a b : Int) : Int := if 64 < a * b then 65 else a * b

/-- A block in braces: how many statements are in it. -/
def bracedR (t : ByteArray) (blk : RSt → Bool × RSt) (st : RSt) : Nat × Bool × RSt :=
  if ¬ bytesR t st = kOpen then (0, false, st)
  else
    let st1 := if 4 ≤ st.deep then noteR st 4 (atR t st.us : Nat) else st
    let r := blk (advR { st1 with deep := st1.deep + 1 })
    if r.1 then (r.2.fl.length - st.fl.length, true, advR { r.2 with deep := r.2.deep - 1 }) else (0, false, r.2)

def setBody (l : List Nd) (i n : Nat) : List Nd := l.modify i fun x => { x with body := n }
def setEls (l : List Nd) (i n : Nat) : List Nd := l.modify i fun x => { x with els := n }

/-- The block of an ask or a retry, and its else block, if it has one. -/
def branchesR (t : ByteArray) (blk : RSt → Bool × RSt) (st : RSt) (i : Nat) : Bool × RSt :=
  let a := bracedR t blk st
  if a.2.1 then
    let st1 := { a.2.2 with fl := setBody a.2.2.fl i a.1 }
    if bytesR t st1 = kElse then
      let b := bracedR t blk (advR st1)
      (b.2.1, { b.2.2 with fl := setEls b.2.2.fl i b.1 })
    else (true, st1)
  else (false, a.2.2)

/-- The block of a repeat. -/
def repeatedR (t : ByteArray) (blk : RSt → Bool × RSt) (st : RSt) (i : Nat) (times p : Int) : Bool × RSt :=
  let st1 := { st with heavy := heavierI st.heavy times }
  let st2 := if 64 < st1.heavy then noteR st1 5 p else st1
  let a := bracedR t blk st2
  (a.2.1, { a.2.2 with fl := setBody a.2.2.fl i a.1, heavy := st.heavy })

/-- One statement. -/
def statementR (t : ByteArray) (blk : RSt → Bool × RSt) (st : RSt) : Bool × RSt :=
  let kind := kindI (bytesR t st)
  if kind = 0 then (false, st)
  else
    let a := timesR t (advR st) kind
    if a.2.1 then
      let b := keyR t a.2.2 kind
      if b.2.1 then
        let c := ticksR t b.2.2 kind
        if c.2.1 then
          let st5 := { c.2.2 with fl := c.2.2.fl ++ [{ kind := kind, key := b.1, times := a.1, ticks := c.1, body := 0, els := 0 }] }
          if kind = 4 ∨ kind = 5 then branchesR t blk st5 c.2.2.fl.length
          else if kind = 6 then repeatedR t blk st5 c.2.2.fl.length a.1 (atR t st.us : Nat)
          else (true, st5)
        else (false, c.2.2)
      else (false, b.2.2)
    else (false, a.2.2)

/-- Statements up to the word behind them. -/
def loopR (t : ByteArray) (stm : RSt → Bool × RSt) (behind : List UInt8) : Nat → RSt → Bool × RSt
  | 0, st => (false, st)
  | f + 1, st => if bytesR t st = behind then (true, st) else if (stm st).1 then loopR t stm behind f (stm st).2 else (false, (stm st).2)

/-- n: how many blocks may be within one another. -/
def blockR (t : ByteArray) : Nat → List UInt8 → RSt → Bool × RSt
  | 0, _, st => (false, st)
  | n + 1, behind, st => loopR t (statementR t (blockR t n kShut)) behind (st.us.length + 1) st

/-- What reading keeps, where it goes well. -/
structure Keeps (a b : RSt) : Prop where
  deep : b.deep = a.deep
  heavy : b.heavy = a.heavy
  grows : a.fl.length ≤ b.fl.length
  mass : b.fl.length + b.us.length ≤ a.fl.length + a.us.length
  less : b.us.length ≤ a.us.length

/-- What reading keeps in any case. -/
def Grows (a b : RSt) : Prop := a.fl.length ≤ b.fl.length ∧ b.fl.length + b.us.length ≤ a.fl.length + a.us.length

theorem Grows.refl (a : RSt) : Grows a a := ⟨Nat.le_refl _, Nat.le_refl _⟩
theorem Grows.trans {a b c : RSt} (h : Grows a b) (k : Grows b c) : Grows a c := ⟨Nat.le_trans h.1 k.1, Nat.le_trans k.2 h.2⟩
theorem Keeps.grown {a b : RSt} (h : Keeps a b) : Grows a b := ⟨h.grows, h.mass⟩
theorem Keeps.trans {a b c : RSt} (h : Keeps a b) (k : Keeps b c) : Keeps a c :=
  ⟨k.deep.trans h.deep, k.heavy.trans h.heavy, Nat.le_trans h.grows k.grows, Nat.le_trans k.mass h.mass, Nat.le_trans k.less h.less⟩

theorem noteR_keeps (st : RSt) (f p : Int) : (noteR st f p).deep = st.deep ∧ (noteR st f p).heavy = st.heavy ∧ (noteR st f p).fl = st.fl ∧ (noteR st f p).us = st.us := by
  unfold noteR; split <;> exact ⟨rfl, rfl, rfl, rfl⟩

/-- All but the words that are left and the fault is as it was; no word has come. -/
structure Same4 (a b : RSt) : Prop where
  fl : b.fl = a.fl
  deep : b.deep = a.deep
  heavy : b.heavy = a.heavy
  less : b.us.length ≤ a.us.length

theorem Same4.refl (a : RSt) : Same4 a a := ⟨rfl, rfl, rfl, Nat.le_refl _⟩
theorem Same4.trans {a b c : RSt} (h : Same4 a b) (k : Same4 b c) : Same4 a c := ⟨k.fl.trans h.fl, k.deep.trans h.deep, k.heavy.trans h.heavy, Nat.le_trans k.less h.less⟩
theorem Same4.adv (a : RSt) : Same4 a (advR a) := ⟨rfl, rfl, rfl, by show a.us.tail.length ≤ _; rw [List.length_tail]; omega⟩
theorem Same4.note (a : RSt) (f p : Int) : Same4 a (noteR a f p) := by
  obtain ⟨h1, h2, h3, h4⟩ := noteR_keeps a f p
  exact ⟨h3, h1, h2, by rw [h4]; exact Nat.le_refl _⟩

theorem nV_bound (l : List UInt8) : 0 ≤ nV l ∧ nV l ≤ 9999 := by
  have := numL_bound l
  unfold nV; split <;> omega

theorem numberR_same (t : ByteArray) (st : RSt) (m : Int) : Same4 st (numberR t st m).2.2 ∧ 0 ≤ (numberR t st m).1 ∧ (numberR t st m).1 ≤ 9999 := by
  have hb := nV_bound (bytesR t st)
  unfold numberR
  split
  · refine ⟨?_, hb.1, hb.2⟩
    show Same4 st (advR _)
    split
    · exact (Same4.note st 3 _).trans (Same4.adv _)
    · exact Same4.adv _
  · exact ⟨Same4.refl _, by simp, by simp⟩

theorem timesR_same (t : ByteArray) (st : RSt) (k : Int) : Same4 st (timesR t st k).2.2 ∧ 0 ≤ (timesR t st k).1 ∧ (timesR t st k).1 ≤ 9999 := by
  unfold timesR
  split
  · exact numberR_same t st 6
  · split
    · exact numberR_same t st 9
    · exact ⟨Same4.refl _, by simp, by simp⟩

theorem ticksR_same (t : ByteArray) (st : RSt) (k : Int) : Same4 st (ticksR t st k).2.2 := by
  unfold ticksR
  split
  · exact (numberR_same t st 999).1
  · exact Same4.refl _

theorem keyR_same (t : ByteArray) (st : RSt) (k : Int) : Same4 st (keyR t st k).2.2 := by
  unfold keyR
  split
  · show Same4 st (if _ then _ else _)
    split
    · exact Same4.adv _
    · exact Same4.refl _
  · exact Same4.refl _

theorem kindI_range (s : List UInt8) : kindI s = 0 ∨ kindI s = 1 ∨ kindI s = 2 ∨ kindI s = 3 ∨ kindI s = 4 ∨ kindI s = 5 ∨ kindI s = 6 := by
  unfold kindI
  repeat (first | split | omega)

end Go.Proofs.Herald
