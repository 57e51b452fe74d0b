/- Statements in one flat list, as the program keeps them, and trees. -/
import Derived.Test.YtiaibigmbflpiaaPureH
import Derived.Test.YtiaibigmbflpiaaPureI
namespace Go.Proofs.Herald

structure Nd where
  kind : Int
  key : Int
  times : Int
  ticks : Int
  body : Nat
  els : Nat

/-- A head's numbers may be, by its kind. -/
def GoodHd (t : ByteArray) (h : Hd) : Prop :=
  (bytesOf t h.p = kSend ∧ h.n = 0 ∧ h.m = 0) ∨
  (bytesOf t h.p = kWait ∧ 1 ≤ h.n ∧ h.n ≤ 999 ∧ h.m = 0 ∧ h.key = 0) ∨
  (bytesOf t h.p = kStop ∧ h.n = 0 ∧ h.m = 0 ∧ h.key = 0) ∨
  (bytesOf t h.p = kAsk ∧ 1 ≤ h.n ∧ h.n ≤ 999 ∧ h.m = 0) ∨
  (bytesOf t h.p = kRetry ∧ 1 ≤ h.n ∧ h.n ≤ 999 ∧ 1 ≤ h.m ∧ h.m ≤ 6) ∨
  (bytesOf t h.p = kRepeat ∧ 1 ≤ h.n ∧ h.n ≤ 9 ∧ h.m = 0 ∧ h.key = 0)

/-- The program's record of a statement. -/
def ndOf (t : ByteArray) (h : Hd) (b e : Nat) : Nd :=
  { kind := kindI (bytesOf t h.p), key := h.key,
    times := if bytesOf t h.p = kRetry then h.m else if bytesOf t h.p = kRepeat then h.n else 0,
    ticks := if bytesOf t h.p = kWait ∨ bytesOf t h.p = kAsk ∨ bytesOf t h.p = kRetry then h.n else 0,
    body := b, els := e }

/-- A tree's statements in one list, each ahead of those of its blocks. -/
def flatT (t : ByteArray) : (d : Nat) → Tree d → List Nd
  | 0, _ => []
  | d + 1, l => l.flatMap fun x : Hd × Tree d × Tree d => ndOf t x.1 (flatT t d x.2.1).length (flatT t d x.2.2).length :: (flatT t d x.2.1 ++ flatT t d x.2.2)

/-- All heads' numbers may be. -/
def GoodT (t : ByteArray) : (d : Nat) → Tree d → Prop
  | 0, _ => True
  | d + 1, l => ∀ x : Hd × Tree d × Tree d, x ∈ l.list → GoodHd t x.1 ∧ GoodT t d x.2.1 ∧ GoodT t d x.2.2

theorem GoodT.ok {t : ByteArray} : ∀ (d : Nat) (tr : Tree d), GoodT t d tr → OkT t d tr := by
  intro d
  induction d with
  | zero => intro tr _; trivial
  | succ d ih =>
    intro tr h x hx
    obtain ⟨h1, h2, h3⟩ := h x hx
    have key : 0 ≤ x.1.n ∧ x.1.n ≤ 999 ∧ 0 ≤ x.1.m ∧ x.1.m ≤ 6 ∧ (bytesOf t x.1.p = kRepeat → 1 ≤ x.1.n ∧ x.1.n ≤ 9) := by
      rcases h1 with ⟨hk, h⟩ | ⟨hk, h⟩ | ⟨hk, h⟩ | ⟨hk, h⟩ | ⟨hk, h⟩ | ⟨hk, h⟩
      all_goals
        refine ⟨by omega, by omega, by omega, by omega, fun hr => ?_⟩
        first | omega | (rw [hk] at hr; exact absurd hr (by decide))
    exact ⟨key.1, key.2.1, key.2.2.1, key.2.2.2.1, key.2.2.2.2, ih _ h2, ih _ h3⟩

theorem flatT_size (t : ByteArray) : ∀ (d : Nat) (tr : Tree d), (flatT t d tr).length = sizeT d tr := by
  intro d
  induction d with
  | zero => intro tr; rfl
  | succ d ih =>
    intro tr
    have : ∀ l : List (Hd × Tree d × Tree d), (l.flatMap fun x : Hd × Tree d × Tree d => ndOf t x.1 (flatT t d x.2.1).length (flatT t d x.2.2).length :: (flatT t d x.2.1 ++ flatT t d x.2.2)).length =
        (l.map fun x => 1 + sizeT d x.2.1 + sizeT d x.2.2).sum := by
      intro l
      induction l with
      | nil => rfl
      | cons x r ihr =>
        rw [List.flatMap_cons, List.length_append, ihr, List.map_cons, List.sum_cons, List.length_cons, List.length_append, ih, ih]
        omega
    exact this tr

theorem ndOf_send {t : ByteArray} {h : Hd} (b e : Nat) (hk : bytesOf t h.p = kSend) : ndOf t h b e = { kind := 1, key := h.key, times := 0, ticks := 0, body := b, els := e } := by unfold ndOf; rw [hk]; rfl
theorem ndOf_wait {t : ByteArray} {h : Hd} (b e : Nat) (hk : bytesOf t h.p = kWait) : ndOf t h b e = { kind := 2, key := h.key, times := 0, ticks := h.n, body := b, els := e } := by unfold ndOf; rw [hk]; rfl
theorem ndOf_stop {t : ByteArray} {h : Hd} (b e : Nat) (hk : bytesOf t h.p = kStop) : ndOf t h b e = { kind := 3, key := h.key, times := 0, ticks := 0, body := b, els := e } := by unfold ndOf; rw [hk]; rfl
theorem ndOf_ask {t : ByteArray} {h : Hd} (b e : Nat) (hk : bytesOf t h.p = kAsk) : ndOf t h b e = { kind := 4, key := h.key, times := 0, ticks := h.n, body := b, els := e } := by unfold ndOf; rw [hk]; rfl
theorem ndOf_retry {t : ByteArray} {h : Hd} (b e : Nat) (hk : bytesOf t h.p = kRetry) : ndOf t h b e = { kind := 5, key := h.key, times := h.m, ticks := h.n, body := b, els := e } := by unfold ndOf; rw [hk]; rfl
theorem ndOf_repeat {t : ByteArray} {h : Hd} (b e : Nat) (hk : bytesOf t h.p = kRepeat) : ndOf t h b e = { kind := 6, key := h.key, times := h.n, ticks := 0, body := b, els := e } := by unfold ndOf; rw [hk]; rfl
theorem oneI_send {t : ByteArray} {h : Hd} (x y : Int × Int) (hk : bytesOf t h.p = kSend) : oneI t h x y = (0, -1) := by unfold oneI; rw [hk]; rfl
theorem oneI_wait {t : ByteArray} {h : Hd} (x y : Int × Int) (hk : bytesOf t h.p = kWait) : oneI t h x y = (h.n, -1) := by unfold oneI; rw [hk]; rfl
theorem oneI_stop {t : ByteArray} {h : Hd} (x y : Int × Int) (hk : bytesOf t h.p = kStop) : oneI t h x y = (-1, 0) := by unfold oneI; rw [hk]; rfl
theorem oneI_repeat {t : ByteArray} {h : Hd} (x y : Int × Int) (hk : bytesOf t h.p = kRepeat) : oneI t h x y = rounds h.n.toNat (0, -1) x := by unfold oneI; rw [hk]; rfl
theorem oneI_ask {t : ByteArray} {h : Hd} (x y : Int × Int) (hk : bytesOf t h.p = kAsk) (hm : h.m = 0) : oneI t h x y = (maxI (behindI (h.n - 1) x.1) (behindI h.n y.1), maxI (behindI (h.n - 1) x.2) (behindI h.n y.2)) := by unfold oneI; rw [hk, hm]; rfl
theorem oneI_retry {t : ByteArray} {h : Hd} (x y : Int × Int) (hk : bytesOf t h.p = kRetry) : oneI t h x y = (maxI (behindI (triesI h.n (h.m - 1).toNat - 1) x.1) (behindI (triesI h.n (h.m - 1).toNat) y.1), maxI (behindI (triesI h.n (h.m - 1).toNat - 1) x.2) (behindI (triesI h.n (h.m - 1).toNat) y.2)) := by unfold oneI; rw [hk]; rfl

end Go.Proofs.Herald
