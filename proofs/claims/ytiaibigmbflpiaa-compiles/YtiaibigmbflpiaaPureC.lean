/- Words as bytes; how deep blocks go; where a brace is closed. -/
import Derived.Test.YtiaibigmbflpiaaPureB
namespace Go.Proofs.Herald

/-- A word's bytes. -/
def bytesOf (t : ByteArray) (p : Nat × Nat) : List UInt8 := (t.extract p.1 p.2).data.toList

/-- The place of the first brace that opens one block too many; -1: none. n: how many are open. -/
def deepL (t : ByteArray) : List (Nat × Nat) → Int → Int
  | [], _ => -1
  | p :: r, n =>
    if bytesOf t p = [123] then (if 4 < n + 1 then (p.1 : Int) else deepL t r (n + 1))
    else if bytesOf t p = [125] then deepL t r (n - 1)
    else deepL t r n

/-- How many are open behind a word. -/
def openB (t : ByteArray) (p : Nat × Nat) (n : Int) : Int :=
  if bytesOf t p = [123] then n + 1 else if bytesOf t p = [125] then n - 1 else n

/-- Of the words from a place on, where n are open ahead of it: how many words further the count comes to 0 first; none: it never does. -/
def shutL (t : ByteArray) : List (Nat × Nat) → Int → Option Nat
  | [], _ => none
  | p :: r, n => if openB t p n = 0 then some 0 else (shutL t r (openB t p n)).map (· + 1)

theorem drop_cons_of {α : Type} (l : List α) (k : Nat) (h : k < l.length) : l.drop k = l[k] :: l.drop (k + 1) := List.drop_eq_getElem_cons h

theorem shutL_lt (t : ByteArray) : ∀ (l : List (Nat × Nat)) (n : Int) (j : Nat), shutL t l n = some j → j < l.length := by
  intro l
  induction l with
  | nil => intro n j h; simp [shutL] at h
  | cons p r ih =>
    intro n j h
    simp only [shutL] at h
    split at h
    · simp at h; subst h; simp
    · cases e : shutL t r (openB t p n) with
      | none => rw [e] at h; simp at h
      | some i => rw [e] at h; simp at h; have := ih _ _ e; simp; omega

end Go.Proofs.Herald
