/- The program's reader, as a plain function over the words that are left. -/
import Derived.Test.YtiaibigmbflpiaaPureJ
namespace Go.Proofs.Herald

/-- The reader: the words that are left, the one at hand first; the statements so far; how many braces are open; the repeats around, multiplied; the fault and its place. -/
structure RSt where
  us : List (Nat × Nat)
  fl : List Nd
  deep : Int
  heavy : Int
  fault : Int
  place : Int

/-- Where the word at hand begins. -/
def atR (t : ByteArray) (us : List (Nat × Nat)) : Nat :=
  match us with
  | [] => t.size
  | p :: _ => p.1

/-- The word at hand. -/
def wordR (t : ByteArray) (us : List (Nat × Nat)) : ByteArray :=
  match us with
  | [] => ByteArray.empty
  | p :: _ => t.extract p.1 p.2

/-- The words that are left are all words of the text from there on. -/
def SufR (t : ByteArray) (us : List (Nat × Nat)) : Prop := ∀ p r, us = p :: r → r = wordsFrom t p.2 ∧ p.1 ≤ p.2 ∧ p.2 ≤ t.size

theorem SufR.of_from (t : ByteArray) (i : Nat) (hi : i ≤ t.size) : SufR t (wordsFrom t i) := by
  intro p r h
  rcases wordsFrom_next t i hi with ⟨h1, _⟩ | ⟨a, b, _, _, h3, h4, _, h6⟩
  · rw [h1] at h; cases h
  · rw [h6] at h
    simp at h
    obtain ⟨rfl, rfl⟩ := h
    exact ⟨rfl, Nat.le_of_lt h3, h4⟩

theorem SufR.tail {t : ByteArray} {us : List (Nat × Nat)} (h : SufR t us) : SufR t us.tail := by
  cases us with
  | nil => exact h
  | cons p r =>
    obtain ⟨h1, _, h3⟩ := h p r rfl
    rw [List.tail_cons, h1]
    exact SufR.of_from t p.2 h3

/-- Where the next word begins and ends, from the end of the one at hand. -/
theorem SufR.next {t : ByteArray} {us : List (Nat × Nat)} (h : SufR t us) :
    startL (t.data.toList.drop (atR t us + (wordR t us).size)) (atR t us + (wordR t us).size) = atR t us.tail ∧ endL (t.data.toList.drop (atR t us.tail)) (atR t us.tail) = atR t us.tail + (wordR t us.tail).size ∧
      atR t us + (wordR t us).size ≤ t.size ∧ atR t us.tail ≤ t.size ∧ atR t us.tail + (wordR t us.tail).size ≤ t.size ∧ t.extract (atR t us.tail) (atR t us.tail + (wordR t us.tail).size) = wordR t us.tail := by
  have hend : endL (t.data.toList.drop t.size) t.size = t.size := by
    rw [endL_end t t.size (Nat.le_refl _), stopL_end t t.size (Nat.le_refl _)]
  have hext : t.extract t.size (t.size + 0) = ByteArray.empty := by
    apply ByteArray.ext; simp
  have key : ∀ i, i ≤ t.size → startL (t.data.toList.drop i) i = atR t (wordsFrom t i) ∧ endL (t.data.toList.drop (atR t (wordsFrom t i))) (atR t (wordsFrom t i)) = atR t (wordsFrom t i) + (wordR t (wordsFrom t i)).size ∧
      atR t (wordsFrom t i) ≤ t.size ∧ atR t (wordsFrom t i) + (wordR t (wordsFrom t i)).size ≤ t.size ∧ t.extract (atR t (wordsFrom t i)) (atR t (wordsFrom t i) + (wordR t (wordsFrom t i)).size) = wordR t (wordsFrom t i) := by
    intro i hi
    rcases wordsFrom_next t i hi with ⟨h1, h2⟩ | ⟨a, b, h1, h2, h3, h4, h5, h6⟩
    · rw [h1]
      refine ⟨h2, ?_, Nat.le_refl _, Nat.le_refl _, hext⟩
      exact hend
    · rw [h6]
      have hsz : (t.extract a b).size = b - a := by simp; omega
      refine ⟨h1, ?_, by show a ≤ _; omega, ?_, ?_⟩
      · show endL (t.data.toList.drop a) a = a + (t.extract a b).size
        rw [h2, hsz]; omega
      · show a + (t.extract a b).size ≤ _
        rw [hsz]; omega
      · show t.extract a (a + (t.extract a b).size) = t.extract a b
        rw [hsz, show a + (b - a) = b from by omega]
  cases us with
  | nil =>
    have e : atR t [] + (wordR t []).size = t.size := rfl
    have hs : startL (t.data.toList.drop t.size) t.size = t.size := startL_end t t.size (Nat.le_refl _)
    refine ⟨?_, hend, Nat.le_refl _, Nat.le_refl _, Nat.le_refl _, hext⟩
    rw [e]; exact hs
  | cons p r =>
    obtain ⟨h1, h2, h3⟩ := h p r rfl
    have hsz : (t.extract p.1 p.2).size = p.2 - p.1 := by simp; omega
    have e : atR t (p :: r) + (wordR t (p :: r)).size = p.2 := by show p.1 + (t.extract p.1 p.2).size = _; rw [hsz]; omega
    rw [e, List.tail_cons, h1]
    have := key p.2 h3
    exact ⟨this.1, this.2.1, h3, this.2.2.1, this.2.2.2.1, this.2.2.2.2⟩

def noteR (st : RSt) (f p : Int) : RSt := if st.fault = 0 ∨ f < st.fault then { st with fault := f, place := p } else st
def advR (st : RSt) : RSt := { st with us := st.us.tail }

end Go.Proofs.Herald
