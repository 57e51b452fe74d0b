/- Plain functions on bytes and integers: what the words' small readers answer. -/
namespace Go.Proofs.Herald

/-- The value of a list of digits, behind a value that was read already; none: a byte that is no digit. -/
def digs : Int → List UInt8 → Option Int
  | n, [] => some n
  | n, c :: r => if 48 ≤ c.toNat ∧ c.toNat ≤ 57 then digs (10 * n + (c.toNat - 48)) r else none

/-- The value of a number's word; -1: it is none. -/
def numL (l : List UInt8) : Int :=
  if l.length = 0 ∨ 4 < l.length then -1 else (digs 0 l).getD (-1)

/-- The number of a key's word; -1: it is none. -/
def keyL (l : List UInt8) : Int :=
  match l with
  | [c] => if 97 ≤ c.toNat ∧ c.toNat < 105 then (c.toNat : Int) - 97 else -1
  | _ => -1

def maxI (a b : Int) : Int := if b < a then a else b
def behindI (a b : Int) : Int := if a < 0 ∨ b < 0 then -1 else a + b
def mostI (s : Int) : Int := if s = 4 then 6 else if s = 5 then 9 else 999

theorem digs_bound : ∀ (l : List UInt8) (n v : Int), 0 ≤ n → digs n l = some v → n * 10 ^ l.length ≤ v ∧ v < (n + 1) * 10 ^ l.length := by
  intro l
  induction l with
  | nil => intro n v h e; simp [digs] at e; subst e; simp; omega
  | cons c r ih =>
    intro n v h e
    simp only [digs] at e
    split at e
    · rename_i hc
      have := ih (10 * n + (c.toNat - 48)) v (by omega) e
      have hp : (0 : Int) < 10 ^ r.length := Int.pow_pos (by omega)
      have e1 : (10 : Int) ^ (c :: r).length = 10 ^ r.length * 10 := by simp [Int.pow_succ]
      rw [e1]
      generalize (10 : Int) ^ r.length = P at *
      have hd0 : (0 : Int) ≤ c.toNat - 48 := by omega
      have hd9 : (c.toNat : Int) - 48 ≤ 9 := by omega
      generalize (c.toNat : Int) - 48 = d at *
      constructor
      · have h1 : n * (P * 10) ≤ (10 * n + d) * P := by
          have : (10 * n + d) * P = n * (P * 10) + d * P := by
            rw [Int.add_mul, Int.mul_comm 10 n, Int.mul_assoc, Int.mul_comm 10 P]
          rw [this]
          have := Int.mul_nonneg hd0 (Int.le_of_lt hp)
          omega
        omega
      · have h1 : (10 * n + d + 1) * P ≤ (n + 1) * (P * 10) := by
          have e2 : (n + 1) * (P * 10) = (10 * n + 10) * P := by
            rw [Int.mul_comm P 10, ← Int.mul_assoc, Int.add_mul n 1 10, Int.mul_comm n 10]; simp
          rw [e2]
          exact Int.mul_le_mul_of_nonneg_right (by omega) (Int.le_of_lt hp)
        omega
    · simp at e

theorem numL_bound (l : List UInt8) : -1 ≤ numL l ∧ numL l ≤ 9999 := by
  unfold numL
  split
  · omega
  · rename_i h
    cases e : digs 0 l with
    | none => simp
    | some v =>
      have := digs_bound l 0 v (by omega) e
      have h4 : l.length = 1 ∨ l.length = 2 ∨ l.length = 3 ∨ l.length = 4 := by omega
      rcases h4 with h4 | h4 | h4 | h4 <;> rw [h4] at this <;> simp at this ⊢ <;> omega

theorem keyL_bound (l : List UInt8) : -1 ≤ keyL l ∧ keyL l ≤ 7 := by
  unfold keyL
  split
  · split <;> omega
  · omega

theorem keyL_one (s : ByteArray) (h : s.size = 1) (hp : 0 < s.size) :
    keyL s.data.toList = if (97 : Int) ≤ ((s[0]'hp).toNat : Int) ∧ ((s[0]'hp).toNat : Int) < 105 then ((s[0]'hp).toNat : Int) - 97 else -1 := by
  obtain ⟨⟨l⟩⟩ := s
  match l, h with
  | [c], _ =>
    have e : (ByteArray.mk ⟨[c]⟩)[0]'hp = c := rfl
    rw [e]
    simp only [keyL]
    by_cases h : 97 ≤ c.toNat ∧ c.toNat < 105
    · rw [if_pos h, if_pos (by omega)]
    · rw [if_neg h, if_neg (by omega)]

theorem keyL_not (s : ByteArray) (h : s.size ≠ 1) : keyL s.data.toList = -1 := by
  obtain ⟨⟨l⟩⟩ := s
  unfold keyL
  split
  · rename_i e; simp at e; subst e; exact absurd rfl h
  · rfl

theorem numL_long (s : ByteArray) (h : s.size = 0 ∨ 4 < s.size) : numL s.data.toList = -1 := by
  have e : s.data.toList.length = s.size := by simp
  unfold numL
  rw [if_pos (by rw [e]; exact h)]

theorem numL_short (s : ByteArray) (h0 : s.size ≠ 0) (h : s.size ≤ 4) : numL s.data.toList = (digs 0 s.data.toList).getD (-1) := by
  have e : s.data.toList.length = s.size := by simp
  unfold numL
  rw [if_neg (by rw [e]; omega)]

theorem digs_append : ∀ (a b : List UInt8) (n : Int), digs n (a ++ b) = (digs n a).bind fun m => digs m b := by
  intro a
  induction a with
  | nil => intro b n; simp [digs]
  | cons c r ih =>
    intro b n
    simp only [List.cons_append, digs]
    split
    · exact ih b _
    · rfl

theorem take_snoc (s : ByteArray) (k : Nat) (h : k < s.size) : s.data.toList.take (k + 1) = s.data.toList.take k ++ [s[k]] := by
  rw [List.take_succ_eq_append_getElem (by simpa using h)]; rfl

theorem drop_cons (s : ByteArray) (k : Nat) (h : k < s.size) : s.data.toList.drop k = s[k] :: s.data.toList.drop (k + 1) := by
  rw [List.drop_eq_getElem_cons (by simpa using h)]; rfl

theorem digs_no (s : ByteArray) (k : Nat) (h : k < s.size) (m : Int) (hm : digs 0 (s.data.toList.take k) = some m) (hc : ((s[k]).toNat : Int) < 48 ∨ 57 < ((s[k]).toNat : Int)) :
    digs 0 s.data.toList = none := by
  rw [← List.take_append_drop k s.data.toList, digs_append, hm, drop_cons s k h]
  simp only [Option.bind_some, digs]
  rw [if_neg (by omega)]

theorem digs_yes (s : ByteArray) (k : Nat) (h : k < s.size) (m : Int) (hm : digs 0 (s.data.toList.take k) = some m) (h1 : (48 : Int) ≤ ((s[k]).toNat : Int)) (h2 : ((s[k]).toNat : Int) ≤ 57) :
    digs 0 (s.data.toList.take (k + 1)) = some (10 * m + (((s[k]).toNat : Int) - 48)) := by
  rw [take_snoc s k h, digs_append, hm]
  simp only [Option.bind_some, digs]
  rw [if_pos (by omega)]

theorem digs_take_bound (s : ByteArray) (k : Nat) (hk : k ≤ 4) (m : Int) (hm : digs 0 (s.data.toList.take k) = some m) : 0 ≤ m ∧ m ≤ 9999 := by
  have := digs_bound _ 0 m (by omega) hm
  have hl : (s.data.toList.take k).length ≤ 4 := by simp; omega
  generalize (s.data.toList.take k).length = n at *
  have h4 : n = 0 ∨ n = 1 ∨ n = 2 ∨ n = 3 ∨ n = 4 := by omega
  rcases h4 with h4 | h4 | h4 | h4 | h4 <;> rw [h4] at this <;> simp at this ⊢ <;> omega

end Go.Proofs.Herald
