/- Words found one by one: where the next one begins, where it ends. -/
import Derived.Test.YtiaibigmbflpiaaPureE
namespace Go.Proofs.Herald

/-- Where the first byte that is no gap lies. -/
def startL : List UInt8 → Nat → Nat
  | [], i => i
  | c :: r, i => if isGp c then startL r (i + 1) else i

/-- Where the first gap or brace lies. -/
def stopL : List UInt8 → Nat → Nat
  | [], i => i
  | c :: r, i => if isGp c || isBr c then i else stopL r (i + 1)

/-- Where the word that begins at a place ends. -/
def endL (l : List UInt8) (i : Nat) : Nat :=
  match l with
  | [] => i
  | c :: _ => if isBr c then i + 1 else stopL l i

/-- The kind of a statement by its word: 0: none. -/
def kindI (s : List UInt8) : Int :=
  if s = kSend then 1 else if s = kWait then 2 else if s = kStop then 3 else if s = kAsk then 4 else if s = kRetry then 5 else if s = kRepeat then 6 else 0

/-- The words from a place on, where no word has been begun. -/
def wordsFrom (t : ByteArray) (i : Nat) : List (Nat × Nat) := scanW i none (t.data.toList.drop i)

theorem startL_le : ∀ (l : List UInt8) (i : Nat), i ≤ startL l i ∧ startL l i ≤ i + l.length := by
  intro l
  induction l with
  | nil => intro i; simp [startL]
  | cons c r ih =>
    intro i
    have := ih (i + 1)
    simp only [startL, List.length_cons]
    split <;> omega

theorem stopL_le : ∀ (l : List UInt8) (i : Nat), i ≤ stopL l i ∧ stopL l i ≤ i + l.length := by
  intro l
  induction l with
  | nil => intro i; simp [stopL]
  | cons c r ih =>
    intro i
    have := ih (i + 1)
    simp only [stopL, List.length_cons]
    split <;> omega

/-- Gaps count for nothing. -/
theorem scan_start : ∀ (l : List UInt8) (i : Nat), scanW i none l = scanW (startL l i) none (l.drop (startL l i - i)) := by
  intro l
  induction l with
  | nil => intro i; simp [startL]
  | cons c r ih =>
    intro i
    by_cases hg : isGp c = true
    · have hb : isBr c = false := by
        simp only [isGp, isBr, Bool.or_eq_true, beq_iff_eq, Bool.or_eq_false_iff, beq_eq_false_iff_ne] at *; omega
      have h1 : startL (c :: r) i = startL r (i + 1) := by rw [startL, if_pos hg]
      have h2 := (startL_le r (i + 1)).1
      rw [h1, show startL r (i + 1) - i = (startL r (i + 1) - (i + 1)) + 1 from by omega, List.drop_succ_cons, ← ih (i + 1)]
      rw [scanW, if_neg (by rw [hb]; decide), if_pos hg]
      rfl
    · have h1 : startL (c :: r) i = i := by rw [startL, if_neg hg]
      rw [h1]; simp

/-- A word that was begun goes on to where it stops. -/
theorem scan_stop : ∀ (l : List UInt8) (i b : Nat), scanW i (some b) l = (b, stopL l i) :: scanW (stopL l i) none (l.drop (stopL l i - i)) := by
  intro l
  induction l with
  | nil => intro i b; simp [scanW, stopL, shutW]
  | cons c r ih =>
    intro i b
    by_cases hb : isBr c = true
    · have h1 : stopL (c :: r) i = i := by rw [stopL, if_pos (by rw [hb]; simp)]
      rw [h1, Nat.sub_self, List.drop_zero, scanW, if_pos hb, scanW, if_pos hb]
      rfl
    · by_cases hg : isGp c = true
      · have h1 : stopL (c :: r) i = i := by rw [stopL, if_pos (by rw [hg]; simp)]
        rw [h1, Nat.sub_self, List.drop_zero, scanW, if_neg hb, if_pos hg, scanW, if_neg hb, if_pos hg]
        rfl
      · have h1 : stopL (c :: r) i = stopL r (i + 1) := by rw [stopL, if_neg (by simp [hb, hg])]
        have h2 := (stopL_le r (i + 1)).1
        rw [h1, show stopL r (i + 1) - i = (stopL r (i + 1) - (i + 1)) + 1 from by omega, List.drop_succ_cons, ← ih (i + 1) b]
        rw [scanW, if_neg hb, if_neg hg]
        rfl

/-- At a place where no gap is: the next word. -/
theorem scan_word (l : List UInt8) (i : Nat) (h : startL l i = i) (hl : l ≠ []) : i < endL l i ∧ scanW i none l = (i, endL l i) :: scanW (endL l i) none (l.drop (endL l i - i)) := by
  cases l with
  | nil => exact absurd rfl hl
  | cons c r =>
    have hg : ¬ isGp c = true := fun hg => by
      rw [startL, if_pos hg] at h
      have := (startL_le r (i + 1)).1
      omega
    by_cases hb : isBr c = true
    · have h1 : endL (c :: r) i = i + 1 := by simp only [endL]; rw [if_pos hb]
      rw [h1]
      refine ⟨by omega, ?_⟩
      rw [show i + 1 - i = 1 from by omega, List.drop_succ_cons, List.drop_zero, scanW, if_pos hb]
      rfl
    · have h1 : endL (c :: r) i = stopL r (i + 1) := by simp only [endL]; rw [if_neg hb, stopL, if_neg (by simp [hb, hg])]
      have h2 := (stopL_le r (i + 1)).1
      rw [h1]
      refine ⟨by omega, ?_⟩
      rw [show stopL r (i + 1) - i = (stopL r (i + 1) - (i + 1)) + 1 from by omega, List.drop_succ_cons, ← scan_stop r (i + 1) i, scanW, if_neg hb, if_neg hg]
      rfl

/-- Where the next word begins, where it ends, and the words behind it. -/
theorem wordsFrom_next (t : ByteArray) (i : Nat) (hi : i ≤ t.size) :
    (wordsFrom t i = [] ∧ startL (t.data.toList.drop i) i = t.size) ∨
    (∃ a b, startL (t.data.toList.drop i) i = a ∧ endL (t.data.toList.drop a) a = b ∧ a < b ∧ b ≤ t.size ∧ i ≤ a ∧ wordsFrom t i = (a, b) :: wordsFrom t b) := by
  have hb := startL_le (t.data.toList.drop i) i
  have hlen : (t.data.toList.drop i).length = t.size - i := by simp
  rw [hlen] at hb
  have h1 := scan_start (t.data.toList.drop i) i
  rw [List.drop_drop, show i + (startL (t.data.toList.drop i) i - i) = startL (t.data.toList.drop i) i from by omega] at h1
  obtain ⟨a, ha⟩ : ∃ a, a = startL (t.data.toList.drop i) i := ⟨_, rfl⟩
  rw [← ha] at h1 hb
  by_cases hend : a = t.size
  · left
    refine ⟨?_, by rw [← ha, hend]⟩
    unfold wordsFrom
    rw [h1, List.drop_of_length_le (by simp; omega)]; rfl
  · right
    have hs : startL (t.data.toList.drop a) a = a := by
      have : ∀ (l : List UInt8) (j : Nat), startL (l.drop (startL l j - j)) (startL l j) = startL l j := by
        intro l
        induction l with
        | nil => intro j; simp [startL]
        | cons c r ih =>
          intro j
          by_cases hg : isGp c = true
          · have e : startL (c :: r) j = startL r (j + 1) := by rw [startL, if_pos hg]
            have h2 := (startL_le r (j + 1)).1
            rw [e, show startL r (j + 1) - j = (startL r (j + 1) - (j + 1)) + 1 from by omega, List.drop_succ_cons]
            exact ih (j + 1)
          · have e : startL (c :: r) j = j := by rw [startL, if_neg hg]
            rw [e, Nat.sub_self, List.drop_zero, e]
      have h3 := this (t.data.toList.drop i) i
      rw [List.drop_drop, ← ha, show i + (a - i) = a from by omega] at h3
      exact h3
    have hw := scan_word (t.data.toList.drop a) a hs (by intro h; have := congrArg List.length h; simp at this; omega)
    have hle : endL (t.data.toList.drop a) a ≤ t.size := by
      have hl2 : (t.data.toList.drop a).length = t.size - a := by simp
      cases hc : t.data.toList.drop a with
      | nil => simp only [endL]; omega
      | cons c r =>
        rw [hc] at hl2
        simp only [endL]
        split
        · simp at hl2; omega
        · have := (stopL_le (c :: r) a).2; omega
    refine ⟨a, _, ha.symm, rfl, hw.1, hle, by omega, ?_⟩
    unfold wordsFrom
    rw [h1, hw.2, List.drop_drop, show a + (endL (t.data.toList.drop a) a - a) = endL (t.data.toList.drop a) a from by omega]

theorem wordsFrom_zero (t : ByteArray) : wordsFrom t 0 = wordsL t.data.toList := rfl

theorem startL_step (t : ByteArray) (k : Nat) (h : k < t.size) (hg : ((t[k]).toNat : Int) = 32 ∨ ((t[k]).toNat : Int) = 10) : startL (t.data.toList.drop k) k = startL (t.data.toList.drop (k + 1)) (k + 1) := by
  rw [drop_cons t k h, startL, if_pos]; simp only [isGp, Bool.or_eq_true, beq_iff_eq]; omega
theorem startL_here (t : ByteArray) (k : Nat) (h : k < t.size) (h1 : ¬ ((t[k]).toNat : Int) = 32) (h2 : ¬ ((t[k]).toNat : Int) = 10) : startL (t.data.toList.drop k) k = k := by
  rw [drop_cons t k h, startL, if_neg]; simp only [isGp, Bool.or_eq_true, beq_iff_eq]; omega
theorem startL_end (t : ByteArray) (k : Nat) (h : t.size ≤ k) : startL (t.data.toList.drop k) k = k := by
  rw [List.drop_of_length_le (by simpa using h)]; rfl
theorem stopL_step (t : ByteArray) (k : Nat) (h : k < t.size) (h1 : ¬ ((t[k]).toNat : Int) = 32) (h2 : ¬ ((t[k]).toNat : Int) = 10) (h3 : ¬ ((t[k]).toNat : Int) = 123) (h4 : ¬ ((t[k]).toNat : Int) = 125) : stopL (t.data.toList.drop k) k = stopL (t.data.toList.drop (k + 1)) (k + 1) := by
  rw [drop_cons t k h, stopL, if_neg]; simp only [isGp, isBr, Bool.or_eq_true, beq_iff_eq]; omega
theorem stopL_here (t : ByteArray) (k : Nat) (h : k < t.size) (h1 : ((t[k]).toNat : Int) = 32 ∨ ((t[k]).toNat : Int) = 10 ∨ ((t[k]).toNat : Int) = 123 ∨ ((t[k]).toNat : Int) = 125) : stopL (t.data.toList.drop k) k = k := by
  rw [drop_cons t k h, stopL, if_pos]; simp only [isGp, isBr, Bool.or_eq_true, beq_iff_eq]; omega
theorem stopL_end (t : ByteArray) (k : Nat) (h : t.size ≤ k) : stopL (t.data.toList.drop k) k = k := by
  rw [List.drop_of_length_le (by simpa using h)]; rfl
theorem endL_brace (t : ByteArray) (k : Nat) (h : k < t.size) (h1 : ((t[k]).toNat : Int) = 123 ∨ ((t[k]).toNat : Int) = 125) : endL (t.data.toList.drop k) k = k + 1 := by
  rw [drop_cons t k h]; simp only [endL]; rw [if_pos]; simp only [isBr, Bool.or_eq_true, beq_iff_eq]; omega
theorem endL_other (t : ByteArray) (k : Nat) (h : k < t.size) (h1 : ¬ ((t[k]).toNat : Int) = 123) (h2 : ¬ ((t[k]).toNat : Int) = 125) : endL (t.data.toList.drop k) k = stopL (t.data.toList.drop k) k := by
  rw [drop_cons t k h]; simp only [endL]; rw [if_neg]; simp only [isBr, Bool.or_eq_true, beq_iff_eq]; omega
theorem endL_end (t : ByteArray) (k : Nat) (h : t.size ≤ k) : endL (t.data.toList.drop k) k = stopL (t.data.toList.drop k) k := by
  rw [List.drop_of_length_le (by simpa using h)]; rfl

end Go.Proofs.Herald
