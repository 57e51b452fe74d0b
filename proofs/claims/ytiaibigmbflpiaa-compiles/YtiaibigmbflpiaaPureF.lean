/- Texts as trees: what the words of a text that has the form spell. -/
import Derived.Test.YtiaibigmbflpiaaPureE
namespace Go.Proofs.Herald

/-- A statement without its blocks: its word's place, its key, its numbers. -/
structure Hd where
  p : Nat × Nat
  key : Int
  n : Int
  m : Int

/-- Lists of statements with blocks at most d deep. -/
def Tree : Nat → Type
  | 0 => Unit
  | d + 1 => List (Hd × Tree d × Tree d)

def nilT : (d : Nat) → Tree d
  | 0 => ()
  | _ + 1 => []

/-- How a statement's first words spell its head; f: 0: no block follows, 1: one, 2: one, and perhaps another behind else. -/
def HdOk (t : ByteArray) (wo : List (Nat × Nat)) (h : Hd) (f : Nat) : Prop :=
  (∃ p q, wo = [p, q] ∧ f = 0 ∧ bytesOf t p = kSend ∧ h = { p := p, key := keyL (bytesOf t q), n := 0, m := 0 }) ∨
  (∃ p q, wo = [p, q] ∧ f = 0 ∧ bytesOf t p = kWait ∧ h = { p := p, key := 0, n := numL (bytesOf t q), m := 0 }) ∨
  (∃ p, wo = [p] ∧ f = 0 ∧ bytesOf t p = kStop ∧ h = { p := p, key := 0, n := 0, m := 0 }) ∨
  (∃ p q r, wo = [p, q, r] ∧ f = 2 ∧ bytesOf t p = kAsk ∧ h = { p := p, key := keyL (bytesOf t q), n := numL (bytesOf t r), m := 0 }) ∨
  (∃ p q r s, wo = [p, q, r, s] ∧ f = 2 ∧ bytesOf t p = kRetry ∧ h = { p := p, key := keyL (bytesOf t r), n := numL (bytesOf t s), m := numL (bytesOf t q) }) ∨
  (∃ p q, wo = [p, q] ∧ f = 1 ∧ bytesOf t p = kRepeat ∧ h = { p := p, key := 0, n := numL (bytesOf t q), m := 0 })

/-- No word of a statement's head is a brace; none that comes first in what follows is one that goes on with it. -/
def plainW (t : ByteArray) (l : List (Nat × Nat)) : Prop := ∀ p ∈ l, ¬ bytesOf t p = kOpen ∧ ¬ bytesOf t p = kShut

def headIsnt (t : ByteArray) (l : List (Nat × Nat)) (s : List UInt8) : Prop := ∀ p, l.head? = some p → ¬ bytesOf t p = s

/-- Statements, one behind the other: the words, and what they spell. sub: of the words within braces. -/
def GL (t : ByteArray) {T : Type} (sub : List (Nat × Nat) → T → Prop) (nil : T) : List (Nat × Nat) → List (Hd × T × T) → Prop
  | ws, [] => ws = []
  | ws, x :: r => ∃ wo wb wr f, ws = wo ++ (wb ++ wr) ∧ HdOk t wo x.1 f ∧ plainW t wo ∧ GL t sub nil wr r ∧
      ((f = 0 ∧ wb = [] ∧ x.2.1 = nil ∧ x.2.2 = nil ∧ headIsnt t wr kOpen) ∨
       (∃ o wa c, ¬ f = 0 ∧ wb = o :: (wa ++ [c]) ∧ bytesOf t o = kOpen ∧ bytesOf t c = kShut ∧ sub wa x.2.1 ∧ x.2.2 = nil ∧ headIsnt t wr kElse) ∨
       (∃ o wa c e o2 wa2 c2, f = 2 ∧ wb = o :: (wa ++ c :: e :: o2 :: (wa2 ++ [c2])) ∧ bytesOf t o = kOpen ∧ bytesOf t c = kShut ∧ bytesOf t e = kElse ∧ bytesOf t o2 = kOpen ∧ bytesOf t c2 = kShut ∧ sub wa x.2.1 ∧ sub wa2 x.2.2))

/-- The words spell the tree. -/
def GT (t : ByteArray) : (d : Nat) → List (Nat × Nat) → Tree d → Prop
  | 0, ws, _ => ws = []
  | d + 1, ws, l => GL t (GT t d) (nilT d) ws l

theorem shutL_cons (t : ByteArray) (p : Nat × Nat) (r : List (Nat × Nat)) (n : Int) (h : ¬ openB t p n = 0) : shutL t (p :: r) n = (shutL t r (openB t p n)).map (· + 1) := by
  rw [shutL, if_neg h]

theorem openB_open {t : ByteArray} {p : Nat × Nat} (n : Int) (h : bytesOf t p = kOpen) : openB t p n = n + 1 := by unfold openB; exact if_pos h
theorem openB_shut {t : ByteArray} {p : Nat × Nat} (n : Int) (h : bytesOf t p = kShut) : openB t p n = n - 1 := by unfold openB; exact (if_neg (by rw [h]; decide)).trans (if_pos h)
theorem openB_other {t : ByteArray} {p : Nat × Nat} (n : Int) (h : ¬ bytesOf t p = kOpen ∧ ¬ bytesOf t p = kShut) : openB t p n = n := by unfold openB; exact (if_neg h.1).trans (if_neg h.2)

/-- Words without a count that comes to 0 within them are passed over. -/
def Passes (t : ByteArray) (ws : List (Nat × Nat)) : Prop := ∀ (u : List (Nat × Nat)) (n : Int), 1 ≤ n → shutL t (ws ++ u) n = (shutL t u n).map (· + ws.length)

theorem Passes.nil (t : ByteArray) : Passes t [] := fun u n _ => by simp

theorem Passes.append {t : ByteArray} {a b : List (Nat × Nat)} (ha : Passes t a) (hb : Passes t b) : Passes t (a ++ b) := fun u n hn => by
  rw [List.append_assoc, ha _ n hn, hb u n hn, Option.map_map]
  congr 1
  funext i
  simp; omega

theorem Passes.plain {t : ByteArray} : ∀ {l : List (Nat × Nat)}, plainW t l → Passes t l := by
  intro l
  induction l with
  | nil => intro _; exact Passes.nil t
  | cons p r ih =>
    intro h u n hn
    have hp := h p (by simp)
    rw [List.cons_append, shutL_cons _ _ _ _ (by rw [openB_other n hp]; omega), openB_other n hp, ih (fun q hq => h q (by simp [hq])) u n hn, Option.map_map]
    congr 1

theorem Passes.one {t : ByteArray} {p : Nat × Nat} (h : ¬ bytesOf t p = kOpen ∧ ¬ bytesOf t p = kShut) : Passes t [p] := Passes.plain (fun q hq => by simp at hq; subst hq; exact h)

theorem Passes.brace {t : ByteArray} {o c : Nat × Nat} {wa : List (Nat × Nat)} (ho : bytesOf t o = kOpen) (hc : bytesOf t c = kShut) (ha : Passes t wa) : Passes t (o :: (wa ++ [c])) := fun u n hn => by
  rw [List.cons_append, shutL_cons _ _ _ _ (by rw [openB_open n ho]; omega), openB_open n ho, List.append_assoc, ha _ (n + 1) (by omega), List.cons_append, List.nil_append,
    shutL_cons _ _ _ _ (by rw [openB_shut (n + 1) hc]; omega), openB_shut (n + 1) hc, show n + 1 - 1 = n from by omega, Option.map_map, Option.map_map]
  congr 1
  funext i
  simp; omega

theorem plain_else {t : ByteArray} {e : Nat × Nat} (h : bytesOf t e = kElse) : ¬ bytesOf t e = kOpen ∧ ¬ bytesOf t e = kShut := by rw [h]; decide

theorem GL.passes {t : ByteArray} {T : Type} {sub : List (Nat × Nat) → T → Prop} {nil : T} (hs : ∀ ws x, sub ws x → Passes t ws) : ∀ (l : List (Hd × T × T)) (ws : List (Nat × Nat)), GL t sub nil ws l → Passes t ws := by
  intro l
  induction l with
  | nil => intro ws h; rw [GL] at h; subst h; exact Passes.nil t
  | cons x r ih =>
    intro ws h
    rw [GL] at h
    obtain ⟨wo, wb, wr, f, rfl, _, hp, hr, hb⟩ := h
    refine (Passes.plain hp).append (Passes.append ?_ (ih wr hr))
    rcases hb with ⟨_, rfl, _⟩ | ⟨o, wa, c, _, rfl, ho, hc, ha, _⟩ | ⟨o, wa, c, e, o2, wa2, c2, _, rfl, ho, hc, he, ho2, hc2, ha, ha2⟩
    · exact Passes.nil t
    · exact Passes.brace ho hc (hs _ _ ha)
    · have h1 := Passes.brace ho hc (hs _ _ ha)
      have h2 := Passes.brace ho2 hc2 (hs _ _ ha2)
      have := h1.append ((Passes.one (plain_else he)).append h2)
      simpa using this

theorem GT.passes {t : ByteArray} : ∀ (d : Nat) (ws : List (Nat × Nat)) (x : Tree d), GT t d ws x → Passes t ws := by
  intro d
  induction d with
  | zero => intro ws x h; rw [GT] at h; subst h; exact Passes.nil t
  | succ d ih => intro ws x h; rw [GT] at h; exact GL.passes ih x ws h

/-- Where the brace that opens a block is closed. -/
theorem shutL_block {t : ByteArray} {o c : Nat × Nat} {wa u : List (Nat × Nat)} (ho : bytesOf t o = kOpen) (hc : bytesOf t c = kShut) (ha : Passes t wa) :
    shutL t (o :: (wa ++ c :: u)) 0 = some (wa.length + 1) := by
  rw [shutL_cons _ _ _ _ (by rw [openB_open 0 ho]; omega), openB_open 0 ho, ha _ (0 + 1) (by omega), shutL, openB_shut (0 + 1) hc, if_pos (by omega)]
  simp

end Go.Proofs.Herald
