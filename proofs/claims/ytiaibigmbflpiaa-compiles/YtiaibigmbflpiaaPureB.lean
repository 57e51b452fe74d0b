/- The words of a text, as pairs of places: where each begins, and where it ends. -/
import Derived.Test.YtiaibigmbflpiaaPureA
namespace Go.Proofs.Herald

def isBr (c : UInt8) : Bool := c.toNat == 123 || c.toNat == 125
def isGp (c : UInt8) : Bool := c.toNat == 32 || c.toNat == 10

/-- The word that was begun at f, if there is one, ends at i. -/
def shutW (f : Option Nat) (i : Nat) : List (Nat × Nat) :=
  match f with
  | some b => [(b, i)]
  | none => []

/-- The words of the bytes from place i on, where a word was begun at f. -/
def scanW : Nat → Option Nat → List UInt8 → List (Nat × Nat)
  | i, f, [] => shutW f i
  | i, f, c :: r =>
    if isBr c then shutW f i ++ (i, i + 1) :: scanW (i + 1) none r
    else if isGp c then shutW f i ++ scanW (i + 1) none r
    else scanW (i + 1) (some (f.getD i)) r

def wordsL (t : List UInt8) : List (Nat × Nat) := scanW 0 none t

def fromI (f : Option Nat) : Int :=
  match f with
  | some b => (b : Int)
  | none => -1

theorem fromI_none : fromI none = -1 := rfl
theorem fromI_some (b : Nat) : fromI (some b) = (b : Int) := rfl

/-- How many words at most: no more than bytes. -/
theorem scanW_length : ∀ (t : List UInt8) (i : Nat) (f : Option Nat), (scanW i f t).length ≤ t.length + (if f.isSome then 1 else 0) := by
  intro t
  induction t with
  | nil => intro i f; cases f <;> simp [scanW, shutW]
  | cons c r ih =>
    intro i f
    simp only [scanW]
    split
    · have := ih (i + 1) none
      cases f <;> simp [shutW] at * <;> omega
    · split
      · have := ih (i + 1) none
        cases f <;> simp [shutW] at * <;> omega
      · have := ih (i + 1) (some (f.getD i))
        cases f <;> simp at * <;> omega

theorem wordsL_length (t : List UInt8) : (wordsL t).length ≤ t.length := by
  have := scanW_length t 0 none
  simpa [wordsL] using this

/-- Each word begins ahead of where it ends, within the text. -/
theorem scanW_bounds : ∀ (t : List UInt8) (i : Nat) (f : Option Nat), (∀ b, f = some b → b < i) →
    ∀ p ∈ scanW i f t, p.1 < p.2 ∧ p.2 ≤ i + t.length := by
  intro t
  induction t with
  | nil =>
    intro i f hf p hp
    cases f with
    | none => simp [scanW, shutW] at hp
    | some b => simp [scanW, shutW] at hp; subst hp; exact ⟨hf b rfl, by simp⟩
  | cons c r ih =>
    intro i f hf p hp
    simp only [scanW] at hp
    split at hp
    · simp only [List.mem_append, List.mem_cons] at hp
      rcases hp with hp | hp | hp
      · cases f with
        | none => simp [shutW] at hp
        | some b => simp [shutW] at hp; subst hp; exact ⟨hf b rfl, by simp⟩
      · subst hp; exact ⟨by simp, by simp⟩
      · have := ih (i + 1) none (by simp) p hp
        simp; omega
    · split at hp
      · simp only [List.mem_append] at hp
        rcases hp with hp | hp
        · cases f with
          | none => simp [shutW] at hp
          | some b => simp [shutW] at hp; subst hp; exact ⟨hf b rfl, by simp⟩
        · have := ih (i + 1) none (by simp) p hp
          simp; omega
      · have := ih (i + 1) (some (f.getD i)) (by intro b hb; simp at hb; subst hb; cases f with | none => simp | some b => have := hf b rfl; simp; omega) p hp
        simp; omega

theorem wordsL_bounds (t : List UInt8) : ∀ p ∈ wordsL t, p.1 < p.2 ∧ p.2 ≤ t.length := by
  intro p hp
  have := scanW_bounds t 0 none (by simp) p hp
  simpa using this

/-- One byte more. -/
theorem scanW_brace (t : ByteArray) (k : Nat) (h : k < t.size) (f : Option Nat) (hc : ((t[k]).toNat : Int) = 123 ∨ ((t[k]).toNat : Int) = 125) :
    scanW k f (t.data.toList.drop k) = shutW f k ++ (k, k + 1) :: scanW (k + 1) none (t.data.toList.drop (k + 1)) := by
  rw [drop_cons t k h, scanW, if_pos]
  simp only [isBr, Bool.or_eq_true, beq_iff_eq]; omega

theorem scanW_gap (t : ByteArray) (k : Nat) (h : k < t.size) (f : Option Nat) (hc : ((t[k]).toNat : Int) = 32 ∨ ((t[k]).toNat : Int) = 10) :
    scanW k f (t.data.toList.drop k) = shutW f k ++ scanW (k + 1) none (t.data.toList.drop (k + 1)) := by
  rw [drop_cons t k h, scanW, if_neg, if_pos]
  · simp only [isGp, Bool.or_eq_true, beq_iff_eq]; omega
  · simp only [isBr, Bool.or_eq_true, beq_iff_eq]; omega

theorem scanW_other (t : ByteArray) (k : Nat) (h : k < t.size) (f : Option Nat) (h1 : ¬ ((t[k]).toNat : Int) = 123) (h2 : ¬ ((t[k]).toNat : Int) = 125) (h3 : ¬ ((t[k]).toNat : Int) = 32) (h4 : ¬ ((t[k]).toNat : Int) = 10) :
    scanW k f (t.data.toList.drop k) = scanW (k + 1) (some (f.getD k)) (t.data.toList.drop (k + 1)) := by
  rw [drop_cons t k h, scanW, if_neg, if_neg]
  · simp only [isGp, Bool.or_eq_true, beq_iff_eq]; omega
  · simp only [isBr, Bool.or_eq_true, beq_iff_eq]; omega

theorem scanW_end (t : ByteArray) (k : Nat) (h : t.size ≤ k) (f : Option Nat) : scanW k f (t.data.toList.drop k) = shutW f k := by
  rw [List.drop_of_length_le (by simpa using h)]; rfl

end Go.Proofs.Herald
