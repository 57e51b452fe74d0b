import Derived.Test.YtmmmnghiegajmaaM01
import Derived.Test.YtmmmnghiegajmaaM02
import Derived.Test.YtmmmnghiegajmaaM03
import Derived.Test.YtmmmnghiegajmaaM04
import Derived.Test.YtmmmnghiegajmaaM05
import Derived.Test.YtmmmnghiegajmaaM06
import Derived.Test.YtmmmnghiegajmaaM07
import Derived.Test.YtmmmnghiegajmaaM08
import Derived.Test.YtmmmnghiegajmaaM09
import Derived.Test.YtmmmnghiegajmaaM10
import Derived.Test.YtmmmnghiegajmaaM11
import Derived.Test.YtmmmnghiegajmaaM12
import Derived.Test.YtmmmnghiegajmaaM13
import Derived.Test.YtmmmnghiegajmaaM14
import Derived.Test.YtmmmnghiegajmaaM15
import Derived.Test.YtmmmnghiegajmaaM16
import Derived.Test.YtmmmnghiegajmaaM17
import Derived.Test.YtmmmnghiegajmaaM19
import Derived.Test.YtmmmnghiegajmaaM20
import Derived.Test.YtmmmnghiegajmaaM21
import Derived.Test.YtmmmnghiegajmaaM22
import Derived.Test.YtmmmnghiegajmaaM23
import Derived.Test.YtmmmnghiegajmaaM24
import Derived.Test.YtmmmnghiegajmaaM25
import Derived.Test.YtmmmnghiegajmaaM26
import Derived.Test.YtmmmnghiegajmaaM27
import Derived.Test.YtmmmnghiegajmaaM28
import Derived.Test.YtmmmnghiegajmaaM29
import Derived.Test.YtmmmnghiegajmaaM30
import Derived.Test.YtmmmnghiegajmaaM31
import Derived.Test.YtmmmnghiegajmaaM32
import Derived.Test.YtmmmnghiegajmaaM33
import Derived.Test.YtmmmnghiegajmaaM34
import Derived.Test.YtmmmnghiegajmaaE01
import Derived.Test.YtmmmnghiegajmaaE02
import Derived.Test.YtmmmnghiegajmaaE03
import Derived.Test.YtmmmnghiegajmaaE04
namespace Go.Proofs.Herald
def seqI (a b : Int × Int) : Int × Int := (behindI a.1 b.1, maxI a.2 (behindI a.1 b.2))
def orI (a b : Int × Int) : Int × Int := (maxI a.1 b.1, maxI a.2 b.2)
structure Nm (a : Int × Int) : Prop where
  l1 : -1 ≤ a.1
  l2 : -1 ≤ a.2
  pos : 0 ≤ a.1 ∨ 0 ≤ a.2
theorem behind_cases (a b : Int) : ((a < 0 ∨ b < 0) ∧ behindI a b = -1) ∨ (0 ≤ a ∧ 0 ≤ b ∧ behindI a b = a + b) := by
  unfold behindI
  split
  · rename_i h; exact .inl ⟨h, rfl⟩
  · rename_i h; exact .inr ⟨by omega, by omega, rfl⟩
theorem max_cases (a b : Int) : (b < a ∧ maxI a b = a) ∨ (a ≤ b ∧ maxI a b = b) := by
  unfold maxI
  split
  · rename_i h; exact .inl ⟨h, rfl⟩
  · rename_i h; exact .inr ⟨by omega, rfl⟩
theorem seqI_unit {a : Int × Int} (h : -1 ≤ a.1) (h2 : -1 ≤ a.2) : seqI (0, -1) a = a := by
  obtain ⟨x, y⟩ := a
  simp only [seqI] at *
  have h3 := behind_cases 0 x
  have h4 := behind_cases 0 y
  have h5 := max_cases (-1) (behindI 0 y)
  refine Prod.ext ?_ ?_ <;> simp only <;> omega
theorem seqI_end {a : Int × Int} (h : -1 ≤ a.1) (h2 : -1 ≤ a.2) : seqI a (0, -1) = a := by
  obtain ⟨x, y⟩ := a
  simp only [seqI] at *
  have h3 := behind_cases x 0
  have h4 := behind_cases x (-1)
  have h5 := max_cases y (behindI x (-1))
  refine Prod.ext ?_ ?_ <;> simp only <;> omega
theorem seqI_assoc {a b c : Int × Int} (h : -1 ≤ a.2) (hb : -1 ≤ b.2) (hc : -1 ≤ c.2) : seqI (seqI a b) c = seqI a (seqI b c) := by
  obtain ⟨a1, a2⟩ := a
  obtain ⟨b1, b2⟩ := b
  obtain ⟨c1, c2⟩ := c
  simp only [seqI] at *
  have h1 := behind_cases a1 b1
  have h2 := behind_cases b1 c1
  have h3 := behind_cases (behindI a1 b1) c1
  have h4 := behind_cases a1 (behindI b1 c1)
  have h5 := behind_cases a1 b2
  have h6 := behind_cases b1 c2
  have h7 := behind_cases (behindI a1 b1) c2
  have h8 := max_cases a2 (behindI a1 b2)
  have h9 := max_cases (maxI a2 (behindI a1 b2)) (behindI (behindI a1 b1) c2)
  have h10 := max_cases b2 (behindI b1 c2)
  have h11 := behind_cases a1 (maxI b2 (behindI b1 c2))
  have h12 := max_cases a2 (behindI a1 (maxI b2 (behindI b1 c2)))
  refine Prod.ext ?_ ?_ <;> simp only <;> omega
theorem behind_max {a b c : Int} (ha : -1 ≤ a) (hb : -1 ≤ b) : behindI (maxI a b) c = maxI (behindI a c) (behindI b c) := by
  have h1 := max_cases a b
  have h2 := behind_cases (maxI a b) c
  have h3 := behind_cases a c
  have h4 := behind_cases b c
  have h5 := max_cases (behindI a c) (behindI b c)
  omega
theorem max_max (a b x y : Int) : maxI (maxI a b) (maxI x y) = maxI (maxI a x) (maxI b y) := by
  have h1 := max_cases a b
  have h2 := max_cases x y
  have h3 := max_cases (maxI a b) (maxI x y)
  have h4 := max_cases a x
  have h5 := max_cases b y
  have h6 := max_cases (maxI a x) (maxI b y)
  omega
theorem seqI_or {a b c : Int × Int} (ha : -1 ≤ a.1) (hb : -1 ≤ b.1) : seqI (orI a b) c = orI (seqI a c) (seqI b c) := by
  unfold seqI orI
  rw [behind_max ha hb, behind_max ha hb, max_max]
theorem Nm.seq {a b : Int × Int} (ha : Nm a) (hb : Nm b) : Nm (seqI a b) := by
  obtain ⟨a1, a2⟩ := a
  obtain ⟨b1, b2⟩ := b
  obtain ⟨h1, h2, h3⟩ := ha
  obtain ⟨h4, h5, h6⟩ := hb
  have h7 := behind_cases a1 b1
  have h8 := behind_cases a1 b2
  have h9 := max_cases a2 (behindI a1 b2)
  simp only at *
  refine ⟨?_, ?_, ?_⟩ <;> simp only [seqI] <;> omega
theorem Nm.or {a b : Int × Int} (ha : Nm a) (hb : Nm b) : Nm (orI a b) := by
  obtain ⟨a1, a2⟩ := a
  obtain ⟨b1, b2⟩ := b
  obtain ⟨h1, h2, h3⟩ := ha
  obtain ⟨h4, h5, h6⟩ := hb
  have h7 := max_cases a1 b1
  have h8 := max_cases a2 b2
  simp only at *
  refine ⟨?_, ?_, ?_⟩ <;> simp only [orI] <;> omega
theorem Nm.time {n : Int} (h : 0 ≤ n) : Nm (n, -1) := ⟨by show -1 ≤ n; omega, by show (-1 : Int) ≤ -1; omega, .inl h⟩
theorem LB.time {b n : Int} {p : Int × Int} (h : LB b (seqI (n, -1) p)) (hn : 0 ≤ n) (hp : Nm p) : LB (b - n) p := by
  obtain ⟨p1, p2⟩ := p
  obtain ⟨h1, h2, h3⟩ := hp
  obtain ⟨h4, h5⟩ := h
  have h7 := behind_cases n p1
  have h8 := behind_cases n p2
  have h9 := max_cases (-1) (behindI n p2)
  simp only [seqI] at *
  refine ⟨?_, ?_⟩ <;> simp only <;> omega
theorem LB.or {b : Int} {p q : Int × Int} (h : LB b (orI p q)) : LB b p ∧ LB b q := by
  obtain ⟨p1, p2⟩ := p
  obtain ⟨q1, q2⟩ := q
  obtain ⟨h4, h5⟩ := h
  have h7 := max_cases p1 q1
  have h8 := max_cases p2 q2
  simp only [orI] at *
  refine ⟨⟨?_, ?_⟩, ?_, ?_⟩ <;> simp only <;> omega
theorem LB.le {b : Int} {p : Int × Int} (h : LB b p) (hp : Nm p) : 0 ≤ b := by
  obtain ⟨h1, h2, h3⟩ := hp
  obtain ⟨h4, h5⟩ := h
  omega
theorem fold_seq : ∀ (l : List (Int × Int)) (acc : Int × Int), (∀ a ∈ l, -1 ≤ a.1 ∧ -1 ≤ a.2) → -1 ≤ acc.1 → -1 ≤ acc.2 → foldI acc l = seqI acc (foldI (0, -1) l) ∧ -1 ≤ (foldI (0, -1) l).1 ∧ -1 ≤ (foldI (0, -1) l).2 := by
  intro l
  induction l with
  | nil => intro acc _ h1 h2; exact ⟨(seqI_end h1 h2).symm, by show (-1 : Int) ≤ 0; omega, by show (-1 : Int) ≤ -1; omega⟩
  | cons a r ih =>
    intro acc hl h1 h2
    obtain ⟨ha1, ha2⟩ := hl a (List.mem_cons_self ..)
    have hr : ∀ x ∈ r, -1 ≤ x.1 ∧ -1 ≤ x.2 := fun x hx => hl x (List.mem_cons_of_mem _ hx)
    have lo : ∀ x y : Int × Int, -1 ≤ x.2 → -1 ≤ (seqI x y).1 ∧ -1 ≤ (seqI x y).2 := fun x y hx => by
      have h3 := behind_cases x.1 y.1
      have h4 := max_cases x.2 (behindI x.1 y.2)
      refine ⟨?_, ?_⟩ <;> simp only [seqI] <;> omega
    have e1 : ∀ x, foldI x (a :: r) = foldI (seqI x a) r := fun x => rfl
    have i1 := ih (seqI acc a) hr (lo _ _ h2).1 (lo _ _ h2).2
    have i2 := ih (seqI (0, -1) a) hr (lo _ _ (by show (-1 : Int) ≤ -1; omega)).1 (lo _ _ (by show (-1 : Int) ≤ -1; omega)).2
    have e2 : foldI (0, -1) (a :: r) = seqI a (foldI (0, -1) r) := by rw [e1, i2.1, seqI_unit ha1 ha2]
    rw [e1, e2, i1.1, seqI_assoc h2 ha2 i1.2.2]
    exact ⟨rfl, lo _ _ ha2⟩
/-- The ticks of k tries from the i-th on. -/
def tI (n : Int) : Nat → Nat → Int
  | _, 0 => 0
  | i, k + 1 => n * 2 ^ i + tI n (i + 1) k
theorem tI_closed (n : Int) : ∀ (k i : Nat), tI n i k + n * 2 ^ i = n * 2 ^ (i + k) := by
  intro k
  induction k with
  | zero => intro i; simp [tI]
  | succ k ih =>
    intro i
    have h1 := ih (i + 1)
    have e1 : n * 2 ^ (i + 1) = 2 * (n * 2 ^ i) := by rw [Int.pow_succ, ← Int.mul_assoc, Int.mul_comm _ 2]
    rw [tI, show i + (k + 1) = i + 1 + k from by omega, ← h1, e1]
    omega
theorem tries_tI (n : Int) (k : Nat) : triesI n k = tI n 0 (k + 1) := by
  have h1 : triesI n k + n = n * 2 ^ (k + 1) := by
    induction k with
    | zero => show n + n = n * 2 ^ 1; omega
    | succ k ih =>
      have e1 : n * 2 ^ (k + 1 + 1) = 2 * (n * 2 ^ (k + 1)) := by rw [show (2 : Int) ^ (k + 1 + 1) = 2 ^ (k + 1) * 2 from Int.pow_succ .., ← Int.mul_assoc, Int.mul_comm _ 2]
      rw [e1, ← ih]
      show 2 * triesI n k + n + n = _
      omega
  have h2 := tI_closed n (k + 1) 0
  rw [Nat.zero_add] at h2
  simp only [Int.pow_zero, Int.mul_one] at h2
  omega
theorem tI_pos {n : Int} (hn : 1 ≤ n) : ∀ (k i : Nat), 0 ≤ tI n i k := by
  intro k
  induction k with
  | zero => intro i; exact Int.le_refl _
  | succ k ih =>
    intro i
    have h1 := ih (i + 1)
    have h2 : (0 : Int) < 2 ^ i := Int.pow_pos (by omega)
    have h3 : 0 ≤ n * 2 ^ i := Int.mul_nonneg (by omega) (by omega)
    rw [tI]
    omega
theorem pow_ge {n : Int} (hn : 1 ≤ n) (i : Nat) : 1 ≤ n * 2 ^ i := by
  have h2 : (0 : Int) < 2 ^ i := Int.pow_pos (by omega)
  have h3 := Int.mul_le_mul hn (show (1 : Int) ≤ 2 ^ i by omega) (by omega) (by omega)
  omega
/-- How long one that is left to do lasts. -/
def laI (t : ByteArray) (x : It) : Int × Int :=
  if bytesOf t x.s.1.p = kRepeat then rounds (x.s.1.n.toNat - x.i) (0, -1) (lastsT t x.d x.s.2.1)
  else if bytesOf t x.s.1.p = kRetry then
    (if x.s.1.m.toNat - x.i = 0 then lastsT t x.d x.s.2.2
     else orI (seqI (tI x.s.1.n x.i (x.s.1.m.toNat - x.i) - 1, -1) (lastsT t x.d x.s.2.1)) (seqI (tI x.s.1.n x.i (x.s.1.m.toNat - x.i), -1) (lastsT t x.d x.s.2.2)))
  else oneI t x.s.1 (lastsT t x.d x.s.2.1) (lastsT t x.d x.s.2.2)
def laL (t : ByteArray) (l : List It) : Int × Int := foldI (0, -1) (l.map (laI t))
theorem two_or {T : Int} {a b : Int × Int} (hT : 1 ≤ T) (ha : Nm a) (hb : Nm b) : (maxI (behindI (T - 1) a.1) (behindI T b.1), maxI (behindI (T - 1) a.2) (behindI T b.2)) = orI (seqI (T - 1, -1) a) (seqI (T, -1) b) := by
  obtain ⟨a1, a2⟩ := a
  obtain ⟨b1, b2⟩ := b
  have h1 := behind_cases (T - 1) a2
  have h2 := behind_cases T b2
  have h3 := max_cases (-1) (behindI (T - 1) a2)
  have h4 := max_cases (-1) (behindI T b2)
  have e1 : maxI (-1) (behindI (T - 1) a2) = behindI (T - 1) a2 := by omega
  have e2 : maxI (-1) (behindI T b2) = behindI T b2 := by omega
  simp only [orI, seqI, e1, e2]
theorem rounds_seq {a : Int × Int} (ha : Nm a) : ∀ (n : Nat) (acc : Int × Int), -1 ≤ acc.1 → -1 ≤ acc.2 → rounds n acc a = seqI acc (rounds n (0, -1) a) ∧ Nm (rounds n (0, -1) a) := by
  intro n
  induction n with
  | zero => intro acc h1 h2; exact ⟨(seqI_end h1 h2).symm, Nm.time (Int.le_refl _)⟩
  | succ n ih =>
    intro acc h1 h2
    have lo : -1 ≤ (seqI acc a).1 ∧ -1 ≤ (seqI acc a).2 := by
      have h3 := behind_cases acc.1 a.1
      have h4 := max_cases acc.2 (behindI acc.1 a.2)
      refine ⟨?_, ?_⟩ <;> simp only [seqI] <;> omega
    have i1 := ih (seqI acc a) lo.1 lo.2
    have i2 := ih a ha.l1 ha.l2
    have e : rounds (n + 1) (0, -1) a = seqI a (rounds n (0, -1) a) := by
      show rounds n (seqI (0, -1) a) a = _
      rw [seqI_unit ha.l1 ha.l2, i2.1]
    rw [e]
    refine ⟨?_, ha.seq i1.2⟩
    show rounds n (seqI acc a) a = _
    rw [i1.1, seqI_assoc h2 ha.l2 i1.2.l2]
/-- What a good statement lasts is a time. -/
theorem one_nm {t : ByteArray} {h : Hd} {a b : Int × Int} (g : GoodHd t h) (ha : Nm a) (hb : Nm b) : Nm (oneI t h a b) := by
  rcases g with ⟨hk, _⟩ | ⟨hk, h1, h2, _⟩ | ⟨hk, _⟩ | ⟨hk, h1, h2, hm⟩ | ⟨hk, h1, h2, h3, h4⟩ | ⟨hk, h1, h2, _⟩
  · rw [oneI_send _ _ hk]; exact Nm.time (Int.le_refl _)
  · rw [oneI_wait _ _ hk]; exact Nm.time (by omega)
  · rw [oneI_stop _ _ hk]; exact ⟨by show (-1 : Int) ≤ -1; omega, by show (-1 : Int) ≤ 0; omega, .inr (Int.le_refl _)⟩
  · rw [oneI_ask _ _ hk (by first | exact hm | exact hm.1 | exact hm.2), two_or h1 ha hb]
    exact ((Nm.time (by omega)).seq ha).or ((Nm.time (by omega)).seq hb)
  · rw [oneI_retry _ _ hk, tries_tI]
    have h5 := tI_pos h1 ((h.m - 1).toNat) 1
    have h6 := pow_ge h1 0
    have e : tI h.n 0 ((h.m - 1).toNat + 1) = h.n * 2 ^ 0 + tI h.n 1 (h.m - 1).toNat := rfl
    rw [two_or (by omega) ha hb]
    exact ((Nm.time (by omega)).seq ha).or ((Nm.time (by omega)).seq hb)
  · rw [oneI_repeat _ _ hk]; exact (rounds_seq ha _ (0, -1) (by show (-1 : Int) ≤ 0; omega) (by show (-1 : Int) ≤ -1; omega)).2
theorem fold_nm : ∀ (l : List (Int × Int)), (∀ a ∈ l, Nm a) → Nm (foldI (0, -1) l) := by
  intro l
  induction l with
  | nil => intro _; exact Nm.time (Int.le_refl _)
  | cons a r ih =>
    intro h
    have ha := h a (List.mem_cons_self ..)
    have e : foldI (0, -1) (a :: r) = foldI (seqI (0, -1) a) r := rfl
    rw [e, seqI_unit ha.l1 ha.l2, (fold_seq r a (fun x hx => ⟨(h x (List.mem_cons_of_mem _ hx)).l1, (h x (List.mem_cons_of_mem _ hx)).l2⟩) ha.l1 ha.l2).1]
    exact ha.seq (ih fun x hx => h x (List.mem_cons_of_mem _ hx))
theorem lasts_nm (t : ByteArray) : ∀ (d : Nat) (x : Tree d), FineT t d x → Nm (lastsT t d x) := by
  intro d
  induction d with
  | zero => intro x _; exact Nm.time (Int.le_refl _)
  | succ d ih =>
    intro x h
    refine fold_nm _ fun a ha => ?_
    obtain ⟨y, hy, rfl⟩ := List.mem_map.mp ha
    obtain ⟨h1, _, h3, h4⟩ := h y hy
    exact one_nm h1 (ih _ h3) (ih _ h4)
theorem la_one {t : ByteArray} {x : It} (h : ItOk t x) (h0 : x.i = 0) : laI t x = oneI t x.s.1 (lastsT t x.d x.s.2.1) (lastsT t x.d x.s.2.2) := by
  unfold laI
  rw [h0]
  split
  · rename_i hk; rw [oneI_repeat _ _ hk]; rfl
  · split
    · rename_i hk
      obtain ⟨h1, h2, h3, h4⟩ := h.hd.retry_m hk
      have e : x.s.1.m.toNat - 0 = (x.s.1.m - 1).toNat + 1 := by omega
      rw [if_neg (by omega), oneI_retry _ _ hk, tries_tI, e]
      have h5 := tI_pos h1 ((x.s.1.m - 1).toNat) 1
      have h6 := pow_ge h1 0
      have e2 : tI x.s.1.n 0 ((x.s.1.m - 1).toNat + 1) = x.s.1.n * 2 ^ 0 + tI x.s.1.n 1 (x.s.1.m - 1).toNat := rfl
      rw [two_or (by omega) (lasts_nm t _ _ h.a) (lasts_nm t _ _ h.b)]
    · rfl
theorem la_nm {t : ByteArray} {x : It} (h : ItOk t x) : Nm (laI t x) := by
  have ha := lasts_nm t _ _ h.a
  have hb := lasts_nm t _ _ h.b
  unfold laI
  split
  · exact (rounds_seq ha _ (0, -1) (by show (-1 : Int) ≤ 0; omega) (by show (-1 : Int) ≤ -1; omega)).2
  · split
    · rename_i hk
      obtain ⟨h1, h2, h3, h4⟩ := h.hd.retry_m hk
      split
      · exact hb
      · rename_i hz
        obtain ⟨k, hk2⟩ : ∃ k, x.s.1.m.toNat - x.i = k + 1 := ⟨x.s.1.m.toNat - x.i - 1, by omega⟩
        have h5 := tI_pos h1 k (x.i + 1)
        have h6 := pow_ge h1 x.i
        have e2 : tI x.s.1.n x.i (k + 1) = x.s.1.n * 2 ^ x.i + tI x.s.1.n (x.i + 1) k := rfl
        rw [hk2]
        exact ((Nm.time (by omega)).seq ha).or ((Nm.time (by omega)).seq hb)
    · exact one_nm h.hd ha hb
theorem laL_nm {t : ByteArray} {l : List It} (h : ∀ x ∈ l, ItOk t x) : Nm (laL t l) := fold_nm _ fun a ha => by
  obtain ⟨y, hy, rfl⟩ := List.mem_map.mp ha
  exact la_nm (h y hy)
theorem laL_cons {t : ByteArray} {x : It} {l : List It} (hx : ItOk t x) (h : ∀ x ∈ l, ItOk t x) : laL t (x :: l) = seqI (laI t x) (laL t l) := by
  have ha := la_nm hx
  have e : laL t (x :: l) = foldI (seqI (0, -1) (laI t x)) (l.map (laI t)) := rfl
  rw [e, seqI_unit ha.l1 ha.l2]
  refine (fold_seq _ _ (fun a hm => ?_) ha.l1 ha.l2).1
  obtain ⟨y, hy, rfl⟩ := List.mem_map.mp hm
  exact ⟨(la_nm (h y hy)).l1, (la_nm (h y hy)).l2⟩
theorem laL_append {t : ByteArray} : ∀ {l m : List It}, (∀ x ∈ l, ItOk t x) → (∀ x ∈ m, ItOk t x) → laL t (l ++ m) = seqI (laL t l) (laL t m) := by
  intro l
  induction l with
  | nil => intro m _ hm; exact (seqI_unit (laL_nm hm).l1 (laL_nm hm).l2).symm
  | cons x l ih =>
    intro m hl hm
    have hx := hl x (List.mem_cons_self ..)
    have hl2 : ∀ y ∈ l, ItOk t y := fun y hy => hl y (List.mem_cons_of_mem _ hy)
    have hlm : ∀ y ∈ l ++ m, ItOk t y := fun y hy => (List.mem_append.mp hy).elim (hl2 y) (hm y)
    rw [List.cons_append, laL_cons hx hlm, ih hl2 hm, laL_cons hx hl2, seqI_assoc (la_nm hx).l2 (laL_nm hl2).l2 (laL_nm hm).l2]
theorem laL_its {t : ByteArray} {d : Nat} {x : Tree d} (h : FineT t d x) : laL t (itsOf d x) = lastsT t d x := by
  cases d with
  | zero => rfl
  | succ d =>
    unfold laL itsOf lastsT
    rw [List.map_map]
    congr 1
    refine List.map_congr_left fun y hy => ?_
    obtain ⟨h1, h2, h3, h4⟩ := h y hy
    exact la_one (x := ⟨d, y, 0⟩) (its_ok h ⟨d, y, 0⟩ (List.mem_map.mpr ⟨y, hy, rfl⟩)) rfl
/-- A stopped run ends by the time en, whatever is answered. -/
structure EB (t : ByteArray) (en : Int) (r : TR) : Prop where
  no : ∀ x ∈ r.no, ItOk t x
  til : LB (en - r.p.til) (laL t r.no)
  yes : r.p.num ≠ 0 → (∀ x ∈ r.yes, ItOk t x) ∧ LB (en - (r.p.til - 1)) (laL t r.yes)
theorem doT_end {t : ByteArray} {now en : Int} : ∀ (f : Nat) (l : List It) (q : List Msg) (r : TR), (∀ x ∈ l, ItOk t x) → LB (en - now) (laL t l) → (doT t now f l q r).2.2 = false → EB t en (doT t now f l q r).2.1 := by
  intro f
  induction f with
  | zero => intro l q r _ _ h; cases h
  | succ f ih =>
    intro l q r hl hb hd
    cases l with
    | nil => cases hd
    | cons x l =>
      have hx := hl x (List.mem_cons_self ..)
      have hl2 : ∀ y ∈ l, ItOk t y := fun y hy => hl y (List.mem_cons_of_mem _ hy)
      have hA := its_ok hx.a
      have hB := its_ok hx.b
      have nl := laL_nm hl2
      have na := lasts_nm t _ _ hx.a
      have nb := lasts_nm t _ _ hx.b
      have both : ∀ {m : List It}, (∀ y ∈ m, ItOk t y) → ∀ y ∈ m ++ l, ItOk t y := fun hm y hy => (List.mem_append.mp hy).elim (hm y) (hl2 y)
      have ea : laL t (itsOf x.d x.s.2.1 ++ l) = seqI (lastsT t x.d x.s.2.1) (laL t l) := by rw [laL_append hA hl2, laL_its hx.a]
      have eb : laL t (itsOf x.d x.s.2.2 ++ l) = seqI (lastsT t x.d x.s.2.2) (laL t l) := by rw [laL_append hB hl2, laL_its hx.b]
      rw [laL_cons hx hl2] at hb
      rw [doT] at hd ⊢
      by_cases k1 : bytesOf t x.s.1.p = kSend
      · rw [if_pos k1] at hd ⊢
        refine ih _ _ _ hl2 ?_ hd
        have e : laI t x = (0, -1) := by
          unfold laI
          rw [if_neg (by rw [k1]; decide), if_neg (by rw [k1]; decide), oneI_send _ _ k1]
        rw [e, seqI_unit nl.l1 nl.l2] at hb
        exact hb
      rw [if_neg k1] at hd ⊢
      by_cases k2 : bytesOf t x.s.1.p = kWait
      · rw [if_pos k2] at hd ⊢
        obtain ⟨h1, h2⟩ := hx.hd.wait_n k2
        have e : laI t x = (x.s.1.n, -1) := by
          unfold laI
          rw [if_neg (by rw [k2]; decide), if_neg (by rw [k2]; decide), oneI_wait _ _ k2]
        rw [e] at hb
        refine ⟨hl2, ?_, fun h => absurd rfl h⟩
        have h3 := hb.time (by omega) nl
        have e2 : en - (stopP r.p now x.s.1.n 0).til = en - now - x.s.1.n := by show en - (now + x.s.1.n) = _; omega
        show LB (en - (stopP r.p now x.s.1.n 0).til) (laL t l)
        rw [e2]
        exact h3
      rw [if_neg k2] at hd ⊢
      by_cases k3 : bytesOf t x.s.1.p = kStop
      · rw [if_pos k3] at hd
        cases hd
      rw [if_neg k3] at hd ⊢
      by_cases k4 : bytesOf t x.s.1.p = kAsk
      · rw [if_pos k4] at hd ⊢
        obtain ⟨h1, h2⟩ := hx.hd.ask_n k4
        have hm : x.s.1.m = 0 := by
          rcases hx.hd with ⟨h1, _⟩ | ⟨h1, _⟩ | ⟨h1, _⟩ | ⟨_, _, _, hm⟩ | ⟨h1, _⟩ | ⟨h1, _⟩
          · rw [k4] at h1; cases h1
          · rw [k4] at h1; cases h1
          · rw [k4] at h1; cases h1
          · first | exact hm | exact hm.1 | exact hm.2
          · rw [k4] at h1; cases h1
          · rw [k4] at h1; cases h1
        have e : laI t x = orI (seqI (x.s.1.n - 1, -1) (lastsT t x.d x.s.2.1)) (seqI (x.s.1.n, -1) (lastsT t x.d x.s.2.2)) := by
          unfold laI
          rw [if_neg (by rw [k4]; decide), if_neg (by rw [k4]; decide), oneI_ask _ _ k4 hm, two_or h1 na nb]
        have n1 := (Nm.time (n := x.s.1.n - 1) (by omega)).seq na
        have n2 := (Nm.time (n := x.s.1.n) (by omega)).seq nb
        rw [e, seqI_or n1.l1 n2.l1] at hb
        obtain ⟨b1, b2⟩ := hb.or
        rw [seqI_assoc (by show (-1 : Int) ≤ -1; omega) na.l2 nl.l2, ← ea] at b1
        rw [seqI_assoc (by show (-1 : Int) ≤ -1; omega) nb.l2 nl.l2, ← eb] at b2
        have c1 := b1.time (by omega) (laL_nm (both hA))
        have c2 := b2.time (by omega) (laL_nm (both hB))
        split at hd
        · rename_i hz
          rw [if_pos hz]
          exact ih _ _ _ (both hB) (c2.mono (by omega)) hd
        · rename_i hz
          rw [if_neg hz]
          refine ⟨both hB, ?_, fun _ => ⟨both hA, ?_⟩⟩
          · refine c2.mono ?_
            show en - now - x.s.1.n ≤ en - (now + x.s.1.n)
            omega
          · refine c1.mono ?_
            show en - now - (x.s.1.n - 1) ≤ en - (now + x.s.1.n - 1)
            omega
      rw [if_neg k4] at hd ⊢
      by_cases k5 : bytesOf t x.s.1.p = kRetry
      · rw [if_pos k5] at hd ⊢
        obtain ⟨h1, h2, h3, h4⟩ := hx.hd.retry_m k5
        have hi := hx.retry k5
        by_cases hz : (x.i : Int) = x.s.1.m
        · rw [if_pos hz] at hd ⊢
          have e : laI t x = lastsT t x.d x.s.2.2 := by
            unfold laI
            rw [if_neg (by rw [k5]; decide), if_pos k5, if_pos (by omega)]
          rw [e, ← eb] at hb
          exact ih _ _ _ (both hB) hb hd
        · rw [if_neg hz]
          obtain ⟨k, hk2⟩ : ∃ k, x.s.1.m.toNat - x.i = k + 1 := ⟨x.s.1.m.toNat - x.i - 1, by omega⟩
          have p5 := tI_pos h1 k (x.i + 1)
          have p6 := pow_ge h1 x.i
          have e2 : tI x.s.1.n x.i (k + 1) = x.s.1.n * 2 ^ x.i + tI x.s.1.n (x.i + 1) k := rfl
          have e : laI t x = orI (seqI (tI x.s.1.n x.i (k + 1) - 1, -1) (lastsT t x.d x.s.2.1)) (seqI (tI x.s.1.n x.i (k + 1), -1) (lastsT t x.d x.s.2.2)) := by
            unfold laI
            rw [if_neg (by rw [k5]; decide), if_pos k5, if_neg (by omega), hk2]
          generalize hD : x.s.1.n * 2 ^ x.i = D at *
          have n1 := (Nm.time (n := tI x.s.1.n x.i (k + 1) - 1) (by omega)).seq na
          have n2 := (Nm.time (n := tI x.s.1.n x.i (k + 1)) (by omega)).seq nb
          rw [e, seqI_or n1.l1 n2.l1] at hb
          obtain ⟨b1, b2⟩ := hb.or
          rw [seqI_assoc (by show (-1 : Int) ≤ -1; omega) na.l2 nl.l2, ← ea] at b1
          rw [seqI_assoc (by show (-1 : Int) ≤ -1; omega) nb.l2 nl.l2, ← eb] at b2
          have c1 := b1.time (by omega) (laL_nm (both hA))
          have c2 := b2.time (by omega) (laL_nm (both hB))
          have hx' : ItOk t ⟨x.d, x.s, x.i + 1⟩ := ⟨hx.hd, hx.leaf, hx.a, hx.b, fun _ => (by show ((x.i + 1 : Nat) : Int) ≤ x.s.1.m; omega), fun hk => (by rw [k5] at hk; cases hk)⟩
          have hl' : ∀ y ∈ (⟨x.d, x.s, x.i + 1⟩ : It) :: l, ItOk t y := fun y hy => by
            rcases List.mem_cons.mp hy with rfl | hy
            · exact hx'
            · exact hl2 y hy
          refine ⟨hl', ?_, fun _ => ⟨both hA, ?_⟩⟩
          · show LB (en - (now + D)) (laL t ((⟨x.d, x.s, x.i + 1⟩ : It) :: l))
            rw [laL_cons hx' hl2]
            have e3 : laI t (⟨x.d, x.s, x.i + 1⟩ : It) = if x.s.1.m.toNat - (x.i + 1) = 0 then lastsT t x.d x.s.2.2 else orI (seqI (tI x.s.1.n (x.i + 1) (x.s.1.m.toNat - (x.i + 1)) - 1, -1) (lastsT t x.d x.s.2.1)) (seqI (tI x.s.1.n (x.i + 1) (x.s.1.m.toNat - (x.i + 1)), -1) (lastsT t x.d x.s.2.2)) := by
              show (if bytesOf t x.s.1.p = kRepeat then _ else if bytesOf t x.s.1.p = kRetry then _ else _) = _
              rw [if_neg (by rw [k5]; decide), if_pos k5]
            have e4 : x.s.1.m.toNat - (x.i + 1) = k := by omega
            rw [e3, e4]
            by_cases hk0 : k = 0
            · rw [if_pos hk0, ← eb]
              exact c2.mono (by omega)
            · rw [if_neg hk0]
              have k1' : 1 ≤ tI x.s.1.n (x.i + 1) k := by
                obtain ⟨j, rfl⟩ : ∃ j, k = j + 1 := ⟨k - 1, by omega⟩
                have := tI_pos h1 j (x.i + 1 + 1)
                have := pow_ge h1 (x.i + 1)
                have e5 : tI x.s.1.n (x.i + 1) (j + 1) = x.s.1.n * 2 ^ (x.i + 1) + tI x.s.1.n (x.i + 1 + 1) j := rfl
                omega
              have m1 := (Nm.time (n := tI x.s.1.n (x.i + 1) k - 1) (by omega)).seq na
              have m2 := (Nm.time (n := tI x.s.1.n (x.i + 1) k) (by omega)).seq nb
              rw [seqI_or m1.l1 m2.l1, seqI_assoc (by show (-1 : Int) ≤ -1; omega) na.l2 nl.l2, seqI_assoc (by show (-1 : Int) ≤ -1; omega) nb.l2 nl.l2, ← ea, ← eb]
              have up : ∀ {n b : Int} {p : Int × Int}, 0 ≤ n → 0 ≤ b - n → LB (b - n) p → LB b (seqI (n, -1) p) := fun {n b p} hn hbn hp => by
                have g1 := behind_le (Int.le_refl n) hp.1 hn hbn
                have g2 := behind_le (Int.le_refl n) hp.2 hn hbn
                refine ⟨?_, max_le ?_ ?_⟩
                · show behindI n p.1 ≤ b
                  omega
                · show (-1 : Int) ≤ b
                  omega
                · show behindI n p.2 ≤ b
                  omega
              have orUp : ∀ {b : Int} {p q : Int × Int}, LB b p → LB b q → LB b (orI p q) := fun hp hq => ⟨max_le hp.1 hq.1, max_le hp.2 hq.2⟩
              have z1 := c1.le (laL_nm (both hA))
              have z2 := c2.le (laL_nm (both hB))
              exact orUp (up (by omega) (by omega) (c1.mono (by omega))) (up (by omega) (by omega) (c2.mono (by omega)))
          · refine c1.mono ?_
            show en - now - (tI x.s.1.n x.i (k + 1) - 1) ≤ en - (now + D - 1)
            omega
      rw [if_neg k5] at hd ⊢
      by_cases k6 : bytesOf t x.s.1.p = kRepeat
      · rw [if_pos k6] at hd ⊢
        obtain ⟨h1, h2⟩ := hx.hd.repeat_n k6
        have hi := hx.repeat' k6
        have e : laI t x = rounds (x.s.1.n.toNat - x.i) (0, -1) (lastsT t x.d x.s.2.1) := by
          unfold laI
          rw [if_pos k6]
        by_cases hz : (x.i : Int) < x.s.1.n
        · rw [if_pos hz] at hd ⊢
          have hx' : ItOk t ⟨x.d, x.s, x.i + 1⟩ := ⟨hx.hd, hx.leaf, hx.a, hx.b, fun hk => (by rw [k6] at hk; cases hk), fun _ => by show ((x.i + 1 : Nat) : Int) ≤ x.s.1.n; omega⟩
          have hl' : ∀ y ∈ (⟨x.d, x.s, x.i + 1⟩ : It) :: l, ItOk t y := fun y hy => by
            rcases List.mem_cons.mp hy with rfl | hy
            · exact hx'
            · exact hl2 y hy
          refine ih _ _ _ (fun y hy => (List.mem_append.mp hy).elim (hA y) (hl' y)) ?_ hd
          rw [laL_append hA hl', laL_cons hx' hl2, laL_its hx.a]
          have e3 : laI t (⟨x.d, x.s, x.i + 1⟩ : It) = rounds (x.s.1.n.toNat - (x.i + 1)) (0, -1) (lastsT t x.d x.s.2.1) := by
            show (if bytesOf t x.s.1.p = kRepeat then _ else _) = _
            rw [if_pos k6]
          have e4 : x.s.1.n.toNat - x.i = x.s.1.n.toNat - (x.i + 1) + 1 := by omega
          have r1 := rounds_seq na (x.s.1.n.toNat - (x.i + 1)) (lastsT t x.d x.s.2.1) na.l1 na.l2
          have e5 : rounds (x.s.1.n.toNat - (x.i + 1) + 1) (0, -1) (lastsT t x.d x.s.2.1) = seqI (lastsT t x.d x.s.2.1) (rounds (x.s.1.n.toNat - (x.i + 1)) (0, -1) (lastsT t x.d x.s.2.1)) := by
            show rounds _ (seqI (0, -1) (lastsT t x.d x.s.2.1)) _ = _
            rw [seqI_unit na.l1 na.l2, r1.1]
          rw [e, e4, e5, seqI_assoc na.l2 r1.2.l2 nl.l2] at hb
          rw [e3]
          exact hb
        · rw [if_neg hz] at hd ⊢
          have e4 : x.s.1.n.toNat - x.i = 0 := by omega
          rw [e, e4, show rounds 0 (0, -1) (lastsT t x.d x.s.2.1) = (0, -1) from rfl, seqI_unit nl.l1 nl.l2] at hb
          exact ih _ _ _ hl2 hb hd
      · rw [if_neg k6] at hd
        cases hd
/-- All runs end by the time en. -/
def HE (t : ByteArray) (en : Int) (h : Her TR) : Prop := ∀ r ∈ h.rs, EB t en r ∧ h.now < r.p.til
theorem HE.none {t : ByteArray} {en : Int} {h : Her TR} (H : HE t en h) (hn : en ≤ h.now) : h.rs = [] := by
  cases hr : h.rs with
  | nil => rfl
  | cons r l =>
    obtain ⟨h1, h2⟩ := H r (by rw [hr]; exact List.mem_cons_self ..)
    have := h1.til.le (laL_nm h1.no)
    omega
theorem on_no {t : ByteArray} {en : Int} {q : List Msg} {r : TR} (h : EB t en r) (hd : (onT t r.p.til false q r).2.2 = false) : EB t en (onT t r.p.til false q r).2.1 := by
  unfold onT at hd ⊢
  simp only [Bool.false_eq_true, if_false] at hd ⊢
  split at hd
  · rename_i hz
    rw [if_pos hz]
    exact doT_end _ _ _ _ h.no h.til hd
  · rename_i hz
    rw [if_neg hz]
    exact doT_end _ _ _ _ h.no h.til hd
theorem on_yes {t : ByteArray} {en now : Int} {q : List Msg} {r : TR} (h : EB t en r) (hn : now < r.p.til) (h0 : r.p.num ≠ 0) (hd : (onT t now true q r).2.2 = false) : EB t en (onT t now true q r).2.1 := by
  unfold onT at hd ⊢
  simp only [if_true] at hd ⊢
  obtain ⟨h1, h2⟩ := h.yes h0
  exact doT_end _ _ _ _ h1 (h2.mono (by omega)) hd
theorem HE.start {t : ByteArray} {tr : Tree 5} {en now : Int} {q : List Msg} {r : TR} (hf : FineT t 5 tr) (hl : now + maxI (lastsT t 5 tr).1 (lastsT t 5 tr).2 ≤ en) (hd : (doT t now (msT t 5 tr + 1) (itsOf 5 tr) q r).2.2 = false) : EB t en (doT t now (msT t 5 tr + 1) (itsOf 5 tr) q r).2.1 := by
  refine doT_end _ _ _ _ (its_ok hf) ?_ hd
  rw [laL_its hf]
  have h1 := max_cases (lastsT t 5 tr).1 (lastsT t 5 tr).2
  exact ⟨by omega, by omega⟩
theorem HE.trig {t : ByteArray} {tr : Tree 5} {G : TR → Prop} (hE : EngOk (textE t tr) G) {C en : Int} {h : Her TR} (hf : FineT t 5 tr) (K : HOk (textE t tr) G C h) (H : HE t en h) (hl : h.now + maxI (lastsT t 5 tr).1 (lastsT t 5 tr).2 ≤ en) (dev : Int) : HE t en (trigH (textE t tr) h dev).2.2 := by
  unfold trigH
  split
  · exact H
  · split
    · exact H
    · intro y hy
      have ho := hE.start h.now (h.qs dev.toNat) (h.last + 1) dev (K.qlen _)
      rcases mem_after hy with ⟨hd, rfl⟩ | ⟨hy, hne⟩
      · exact ⟨HE.start hf hl hd, (ho.stop hd).2.1⟩
      · rcases List.mem_append.mp hy with hy | hy
        · exact H y hy
        · rw [List.mem_singleton.mp hy] at hne
          exact absurd ho.id.symm hne
theorem tickN_end {t : ByteArray} {tr : Tree 5} {en : Int} (e : Int) : ∀ (f : Nat) (h : Her TR), (∀ r ∈ h.rs, EB t en r) → ∀ r ∈ (tickN (textE t tr) e f h).rs, EB t en r := by
  intro f
  induction f with
  | zero => intro h H; exact H
  | succ f ih =>
    intro h H
    rw [tickN]
    cases hd : dueR (textE t tr) e h.rs with
    | none => exact H
    | some r =>
      obtain ⟨hr, _, _⟩ := dueR_some hd
      refine ih _ fun y hy => ?_
      rcases mem_after hy with ⟨hd, rfl⟩ | ⟨hy, _⟩
      · exact on_no (H r hr) hd
      · exact H y hy
theorem HE.tick {t : ByteArray} {tr : Tree 5} {G : TR → Prop} (hE : EngOk (textE t tr) G) {C en : Int} {h : Her TR} (K : HOk (textE t tr) G C h) (H : HE t en h) (n : Int) : HE t en (tickH (textE t tr) h n).2 := by
  unfold tickH
  split
  · exact H
  · rename_i hn
    have h3 : h.now + n ≤ 1000000000 := by omega
    have h0 := K.now0
    have hms : msR (textE t tr) (h.now + n) h.rs ≤ 5000 := by
      have h1 := msR_small (E := textE t tr) (en := h.now + n) (t := h.now) 1000 (by omega) h.rs (fun r hr => (K.til r hr).1)
      have h2 := K.len
      have : h.rs.length * 1000 ≤ 5 * 1000 := Nat.mul_le_mul_right _ h2
      omega
    obtain ⟨k1, k2, k3⟩ := HOk.tickN hE (h.now + n) h3 5000 K (by omega) hms
    have hd := dueR_none k2
    exact fun r hr => ⟨tickN_end (h.now + n) 5000 h (fun r hr => (H r hr).1) r hr, hd r hr⟩
theorem HE.ack {t : ByteArray} {tr : Tree 5} {G : TR → Prop} (hE : EngOk (textE t tr) G) {C en : Int} {h : Her TR} (K : HOk (textE t tr) G C h) (H : HE t en h) (id num : Int) : HE t en (ackH (textE t tr) h id num).2 := by
  unfold ackH
  cases hf : findR (textE t tr) h.rs id with
  | none => exact H
  | some r =>
    have hr : r ∈ h.rs := List.mem_of_find?_eq_some hf
    simp only
    split
    · exact H
    · rename_i hn
      split
      · exact H
      · have hz : r.p.num ≠ 0 := fun hh => hn (by
          by_cases h0 : num = 0
          · exact .inl h0
          · right
            intro e
            exact h0 (e.symm.trans hh))
        have ho := hE.on h.now true (h.qs ((textE t tr).pub r).dev.toNat) r (K.good r hr) (K.qlen _) (fun _ => hz)
        intro y hy
        rcases mem_after hy with ⟨hd, rfl⟩ | ⟨hy, _⟩
        · exact ⟨on_yes (H r hr).1 (H r hr).2 hz hd, (ho.stop hd).2.1⟩
        · exact H y hy
theorem HE.cancel {t : ByteArray} {tr : Tree 5} {en : Int} {h : Her TR} (H : HE t en h) (id : Int) : HE t en (cancelH (textE t tr) h id).2 := by
  unfold cancelH
  cases hf : findR (textE t tr) h.rs id with
  | none => exact H
  | some r => exact fun y hy => H y (List.mem_filter.mp hy).1
theorem HE.drain {t : ByteArray} {en : Int} {h : Her TR} (H : HE t en h) (dev : Int) : HE t en (drainH h dev).2.2 := by
  unfold drainH
  split
  · exact H
  · cases hq : h.qs dev.toNat with
    | nil => exact H
    | cons m r => exact H
end Go.Proofs.Herald
