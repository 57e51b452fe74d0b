/- Bounds on how long a run can take: no sum of ticks outgrows a number. -/
import Derived.Test.YtiaibigmbflpiaaPureG
namespace Go.Proofs.Herald

def capC (d : Nat) : Int := 62937 * 9 ^ d

theorem capC_succ (d : Nat) : capC (d + 1) = 9 * capC d := by unfold capC; rw [Int.pow_succ]; omega
theorem capC_pos (d : Nat) : 62937 ≤ capC d := by
  induction d with
  | zero => decide
  | succ d ih => rw [capC_succ]; omega

theorem behindI_le {a b x y : Int} (ha : a ≤ x) (hb : b ≤ y) (hx : 0 ≤ x) (hy : 0 ≤ y) : -1 ≤ behindI a b ∧ behindI a b ≤ x + y := by
  unfold behindI; split <;> omega

theorem maxI_le {a b x : Int} (ha : a ≤ x) (hb : b ≤ x) : maxI a b ≤ x := by unfold maxI; split <;> omega
theorem maxI_ge {a b : Int} (ha : -1 ≤ a) : -1 ≤ maxI a b := by unfold maxI; split <;> omega

/-- A pair of ticks is at most c. -/
def AtMost (a : Int × Int) (c : Int) : Prop := -1 ≤ a.1 ∧ a.1 ≤ c ∧ -1 ≤ a.2 ∧ a.2 ≤ c

theorem AtMost.step {acc a : Int × Int} {c e : Int} (h1 : AtMost acc c) (h2 : AtMost a e) (hc : 0 ≤ c) (he : 0 ≤ e) : AtMost (behindI acc.1 a.1, maxI acc.2 (behindI acc.1 a.2)) (c + e) := by
  obtain ⟨a1, a2, a3, a4⟩ := h1
  obtain ⟨b1, b2, b3, b4⟩ := h2
  have h3 := behindI_le a2 b2 hc he
  have h4 := behindI_le a2 b4 hc he
  exact ⟨h3.1, h3.2, maxI_ge a3, maxI_le (by omega) h4.2⟩

theorem rounds_atMost {a : Int × Int} {e : Int} (h2 : AtMost a e) (he : 0 ≤ e) : ∀ (k : Nat) (acc : Int × Int) (c : Int), AtMost acc c → 0 ≤ c → AtMost (rounds k acc a) (c + k * e) := by
  intro k
  induction k with
  | zero => intro acc c h hc; simpa [rounds] using h
  | succ k ih =>
    intro acc c h hc
    have := ih _ _ (h.step h2 hc he) (by omega)
    rw [rounds]
    have e1 : c + ((k + 1 : Nat) : Int) * e = c + e + k * e := by push_cast; rw [Int.add_mul]; omega
    rw [e1]; exact this

theorem triesI_bound (n : Int) (h0 : 0 ≤ n) (hn : n ≤ 999) : ∀ (k : Nat), k ≤ 5 → 0 ≤ triesI n k ∧ triesI n k ≤ 62937 := by
  intro k hk
  have h : k = 0 ∨ k = 1 ∨ k = 2 ∨ k = 3 ∨ k = 4 ∨ k = 5 := by omega
  rcases h with rfl | rfl | rfl | rfl | rfl | rfl <;> simp only [triesI] <;> omega

theorem oneI_atMost (t : ByteArray) (h : Hd) (a b : Int × Int) (sa sb : Nat) (C : Int) (hC : 62937 ≤ C) (ha : AtMost a (sa * C)) (hb : AtMost b (sb * C)) (h1 : 0 ≤ h.n) (h2 : h.n ≤ 999) (h4 : h.m ≤ 6)
    (h5 : bytesOf t h.p = kRepeat → 1 ≤ h.n ∧ h.n ≤ 9) : AtMost (oneI t h a b) ((1 + sa + sb : Nat) * (9 * C)) := by
  have pa : (0 : Int) ≤ sa * C := Int.mul_nonneg (by omega) (by omega)
  have pb : (0 : Int) ≤ sb * C := Int.mul_nonneg (by omega) (by omega)
  have e0 : ((1 + sa + sb : Nat) : Int) * (9 * C) = 9 * C + 9 * (sa * C) + 9 * (sb * C) := by
    push_cast
    rw [Int.add_mul, Int.add_mul, Int.one_mul, Int.mul_left_comm, Int.mul_left_comm (sb : Int)]
  rw [e0]
  unfold oneI
  split
  · exact ⟨by simp; omega, by simp; omega, by simp, by simp; omega⟩
  split
  · exact ⟨by simp, by simp; omega, by simp, by simp; omega⟩
  split
  · exact ⟨by simp, by simp; omega, by simp, by simp; omega⟩
  split
  · rename_i hr
    have := h5 hr
    have hk := rounds_atMost ha pa h.n.toNat (0, -1) 0 ⟨by simp, by simp, by simp, by simp⟩ (by omega)
    have e1 : ((h.n.toNat : Nat) : Int) = h.n := by omega
    rw [e1] at hk
    have hm : h.n * (sa * C) ≤ 9 * (sa * C) := Int.mul_le_mul_of_nonneg_right (by omega) pa
    obtain ⟨k1, k2, k3, k4⟩ := hk
    exact ⟨k1, by omega, k3, by omega⟩
  · obtain ⟨a1, a2, a3, a4⟩ := ha
    obtain ⟨b1, b2, b3, b4⟩ := hb
    have ht := triesI_bound h.n h1 h2 (h.m - 1).toNat (by omega)
    generalize triesI h.n (h.m - 1).toNat = T at *
    have q1 := behindI_le (show T - 1 ≤ 62937 by omega) a2 (by omega) pa
    have q2 := behindI_le (show T ≤ 62937 by omega) b2 (by omega) pb
    have q3 := behindI_le (show T - 1 ≤ 62937 by omega) a4 (by omega) pa
    have q4 := behindI_le (show T ≤ 62937 by omega) b4 (by omega) pb
    exact ⟨maxI_ge q1.1, maxI_le (by omega) (by omega), maxI_ge q3.1, maxI_le (by omega) (by omega)⟩

theorem foldI_atMost (D : Int) (hD : 0 ≤ D) {α : Type} (f : α → Int × Int) (s : α → Nat) : ∀ (l : List α) (acc : Int × Int) (c : Int), (∀ x ∈ l, AtMost (f x) (s x * D)) → AtMost acc c → 0 ≤ c → AtMost (foldI acc (l.map f)) (c + (l.map s).sum * D) := by
  intro l
  induction l with
  | nil => intro acc c _ h _; simpa [foldI] using h
  | cons x r ih =>
    intro acc c hx h hc
    have hp : (0 : Int) ≤ s x * D := Int.mul_nonneg (by omega) hD
    have := ih _ _ (fun y hy => hx y (by simp [hy])) (h.step (hx x (by simp)) hc hp) (by omega)
    rw [List.map_cons, foldI]
    have e1 : c + (((x :: r).map s).sum : Nat) * D = c + s x * D + ((r.map s).sum : Nat) * D := by
      simp only [List.map_cons, List.sum_cons]; push_cast; rw [Int.add_mul]; omega
    rw [e1]; exact this

theorem lastsT_atMost (t : ByteArray) : ∀ (d : Nat) (tr : Tree d), OkT t d tr → AtMost (lastsT t d tr) (sizeT d tr * capC d) := by
  intro d
  induction d with
  | zero => intro tr _; exact ⟨by simp [lastsT], by simp [lastsT, sizeT], by simp [lastsT], by simp [lastsT, sizeT]⟩
  | succ d ih =>
    intro tr hok
    have hp := capC_pos d
    have := foldI_atMost (capC (d + 1)) (by have := capC_pos (d + 1); omega) (fun x : Hd × Tree d × Tree d => oneI t x.1 (lastsT t d x.2.1) (lastsT t d x.2.2)) (fun x => 1 + sizeT d x.2.1 + sizeT d x.2.2) tr.list (0, -1) 0
      (fun x hx => by
        have h := hok x hx
        rw [capC_succ]
        exact oneI_atMost t x.1 _ _ _ _ _ hp (ih _ h.2.2.2.2.2.1) (ih _ h.2.2.2.2.2.2) h.1 h.2.1 h.2.2.2.1 h.2.2.2.2.1) ⟨by simp, by simp, by simp, by simp⟩ (by omega)
    rw [Int.zero_add] at this
    exact this

theorem foldI_snoc : ∀ (l : List (Int × Int)) (acc a : Int × Int), foldI acc (l ++ [a]) = (behindI (foldI acc l).1 a.1, maxI (foldI acc l).2 (behindI (foldI acc l).1 a.2)) := by
  intro l
  induction l with
  | nil => intro acc a; rfl
  | cons x r ih => intro acc a; rw [List.cons_append, foldI, ih, foldI]

theorem sum_take_le {α : Type} (f : α → Nat) : ∀ (l : List α) (k : Nat), ((l.take k).map f).sum ≤ (l.map f).sum := by
  intro l
  induction l with
  | nil => intro k; simp
  | cons x r ih =>
    intro k
    cases k with
    | zero => simp
    | succ k =>
      have := ih k
      simp only [List.take_succ_cons, List.map_cons, List.sum_cons]
      omega

/-- No text of 400 bytes comes to more. -/
theorem atMost_big {a : Int × Int} {n d : Nat} (h : AtMost a (n * capC d)) (hn : n ≤ 400) (hd : d ≤ 5) : AtMost a 10000000000000 := by
  have hc : capC d ≤ 3716366913 := by
    have : d = 0 ∨ d = 1 ∨ d = 2 ∨ d = 3 ∨ d = 4 ∨ d = 5 := by omega
    rcases this with rfl | rfl | rfl | rfl | rfl | rfl <;> decide
  have h0 := capC_pos d
  have : (n : Int) * capC d ≤ 400 * 3716366913 := Int.mul_le_mul (by omega) hc (by omega) (by omega)
  obtain ⟨a1, a2, a3, a4⟩ := h
  exact ⟨a1, by omega, a3, by omega⟩

end Go.Proofs.Herald
