/- The acceptor over all words: which error, and where. -/
import Derived.Test.YtiaibigmbflpiaaPureD
namespace Go.Proofs.Herald

/-- All words, one behind the other; the place of the first that cannot stand there. -/
def runF (t : ByteArray) : List (Nat × Nat) → FSt → FSt ⊕ Nat
  | [], st => .inl st
  | p :: r, st => if (readF (bytesOf t p) p st).2 = true then runF t r (readF (bytesOf t p) p st).1 else .inr p.1

def initF : FSt := { want := [0], elses := [], next := false, nums := [], sorts := [] }

/-- The first number that may not be. -/
def numsF (t : ByteArray) : List (Nat × Nat) → List Int → Int × Int
  | p :: r, s :: q => if numL (bytesOf t p) < 1 ∨ mostI s < numL (bytesOf t p) then (3, (p.1 : Int)) else numsF t r q
  | _, _ => (0, 0)

def endF (t : ByteArray) (st : FSt) : Int × Int :=
  if 0 < st.elses.length ∨ 1 < st.want.headD 0 then (2, (t.size : Int)) else numsF t st.nums st.sorts

def formedL (t : ByteArray) : Int × Int :=
  match runF t (wordsL t.data.toList) initF with
  | .inr a => (2, (a : Int))
  | .inl st => endF t st

/-- What must come next ends in statements or a brace. -/
def OkW (l : List Int) : Prop := ∃ a l', l = l' ++ [a] ∧ (a = 0 ∨ a = 1 ∨ a = 6)

structure OkF (st : FSt) (k : Nat) : Prop where
  want : OkW st.want
  short : st.want.length ≤ 10
  elses : st.elses.length ≤ k
  nums : st.nums.length ≤ k
  same : st.sorts.length = st.nums.length

theorem OkW.ne {l : List Int} (h : OkW l) : l ≠ [] := by obtain ⟨a, l', rfl, _⟩ := h; simp

theorem OkW.tail {m : Int} {r : List Int} (h : OkW (m :: r)) (h0 : ¬ (m = 0 ∨ m = 1)) (h6 : ¬ m = 6) : OkW r := by
  obtain ⟨a, l', e, ha⟩ := h
  cases l' with
  | nil => simp at e; omega
  | cons b l'' => simp at e; exact ⟨a, l'', e.2, ha⟩

theorem okw (l : List Int) (a : Int) (ha : a = 0 ∨ a = 1 ∨ a = 6) : OkW (l ++ [a]) := ⟨a, l, rfl, ha⟩

theorem OkF.init : OkF initF 0 := ⟨okw [] 0 (by omega), by simp [initF], by simp [initF], by simp [initF], by simp [initF]⟩

theorem OkF.first {s : List UInt8} {m : Int} {st : FSt} {k : Nat} (h : OkF st k) : OkF (firstF s m st).1 (k + 1) := by
  have he := h.elses
  have hn := h.nums
  have hs := h.same
  unfold firstF
  split
  · exact ⟨okw [2] 0 (by omega), by simp, by simp; omega, by simp; omega, hs⟩
  split
  · exact ⟨okw [3] 0 (by omega), by simp, by simp; omega, by simp; omega, hs⟩
  split
  · exact ⟨okw [] 0 (by omega), by simp, by simp; omega, by simp; omega, hs⟩
  split
  · exact ⟨okw [2, 3] 6 (by omega), by simp, by simp; omega, by simp; omega, hs⟩
  split
  · exact ⟨okw [4, 2, 3] 6 (by omega), by simp, by simp; omega, by simp; omega, hs⟩
  split
  · exact ⟨okw [5] 6 (by omega), by simp, by simp; omega, by simp; omega, hs⟩
  split
  · exact ⟨okw [] 6 (by omega), by simp, by simp; omega, by simp; omega, hs⟩
  split
  · split
    · exact ⟨h.want, h.short, by simp; omega, by simp; omega, hs⟩
    · rename_i e r hr
      rw [hr] at he
      simp at he
      refine ⟨?_, ?_, by simp; omega, by simp; omega, hs⟩
      · cases e
        · exact okw [] 0 (by omega)
        · exact okw [] 1 (by omega)
      · cases e <;> simp
  · exact ⟨h.want, h.short, by simp; omega, by simp; omega, hs⟩

theorem OkF.read {s : List UInt8} {p : Nat × Nat} {st : FSt} {k : Nat} (h : OkF st k) : OkF (readF s p st).1 (k + 1) := by
  have he := h.elses
  have hn := h.nums
  have hs := h.same
  have hw := h.want
  have hsh := h.short
  unfold readF
  split
  · rename_i e; rw [e] at hw; exact absurd rfl hw.ne
  · rename_i m r e
    rw [e] at hw hsh
    simp at hsh
    split
    · exact h.first
    · rename_i h01
      split
      · exact ⟨okw [] 0 (by omega), by simp, by simp; omega, by simp; omega, hs⟩
      · rename_i h6
        have ht := hw.tail h01 h6
        split
        · exact ⟨ht, by simp; omega, by simp; omega, by simp; omega, hs⟩
        · exact ⟨ht, by simp; omega, by simp; omega, by simp; omega, by simp; omega⟩

end Go.Proofs.Herald
