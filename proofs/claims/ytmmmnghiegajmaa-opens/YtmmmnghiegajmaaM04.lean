/- Plain functions on bytes and integers: what the words' small readers answer. The words of a text, as pairs of places: where each begins, and where it ends. Words as bytes; how deep blocks go; where a brace is closed. The acceptor of a text's form, as the document's own answer goes through the words. The acceptor over all words: which error, and where. Texts as trees: what the words of a text that has the form spell. How heavy a tree of statements is, and how long a run of it can take. Bounds on how long a run can take: no sum of ticks outgrows a number. Words found one by one: where the next one begins, where it ends. Statements in one flat list, as the program keeps them, and trees. The program's reader, as a plain function over the words that are left. The program's reader: numbers, keys, and what stands ahead of the blocks. The program's reader: blocks and statements, as plain functions; blk: what reads the statements up to a closing brace. Reader and acceptor side by side: faults as they are noted, and the small steps. Reader and acceptor side by side: blocks in braces. Reader and acceptor side by side: statements, and whole texts. What Longest answers, as the document's own answer has it and as the program has it: the same. -/
namespace Go.Proofs.Herald
/-- The value of a list of digits, behind a value that was read already; none: a byte that is no digit. -/
def digs : Int → List UInt8 → Option Int
  | n, [] => some n
  | n, c :: r => if 48 ≤ c.toNat ∧ c.toNat ≤ 57 then digs (10 * n + (c.toNat - 48)) r else none
/-- The value of a number's word; -1: it is none. -/
def numL (l : List UInt8) : Int :=
  if l.length = 0 ∨ 4 < l.length then -1 else (digs 0 l).getD (-1)
/-- The number of a key's word; -1: it is none. -/
def keyL (l : List UInt8) : Int :=
  match l with
  | [c] => if 97 ≤ c.toNat ∧ c.toNat < 105 then (c.toNat : Int) - 97 else -1
  | _ => -1
def maxI (a b : Int) : Int := if b < a then a else b
def behindI (a b : Int) : Int := if a < 0 ∨ b < 0 then -1 else a + b
def mostI (s : Int) : Int := if s = 4 then 6 else if s = 5 then 9 else 999
def isBr (c : UInt8) : Bool := c.toNat == 123 || c.toNat == 125
def isGp (c : UInt8) : Bool := c.toNat == 32 || c.toNat == 10
/-- The word that was begun at f, if there is one, ends at i. -/
def shutW (f : Option Nat) (i : Nat) : List (Nat × Nat) :=
  match f with
  | some b => [(b, i)]
  | none => []
/-- The words of the bytes from place i on, where a word was begun at f. -/
def scanW : Nat → Option Nat → List UInt8 → List (Nat × Nat)
  | i, f, [] => shutW f i
  | i, f, c :: r =>
    if isBr c then shutW f i ++ (i, i + 1) :: scanW (i + 1) none r
    else if isGp c then shutW f i ++ scanW (i + 1) none r
    else scanW (i + 1) (some (f.getD i)) r
def wordsL (t : List UInt8) : List (Nat × Nat) := scanW 0 none t
/-- How many words at most: no more than bytes. -/
theorem scanW_length : ∀ (t : List UInt8) (i : Nat) (f : Option Nat), (scanW i f t).length ≤ t.length + (if f.isSome then 1 else 0) := by
  intro t
  induction t with
  | nil => intro i f; cases f <;> simp [scanW, shutW]
  | cons c r ih =>
    intro i f
    simp only [scanW]
    split
    · have := ih (i + 1) none
      cases f <;> simp [shutW] at * <;> omega
    · split
      · have := ih (i + 1) none
        cases f <;> simp [shutW] at * <;> omega
      · have := ih (i + 1) (some (f.getD i))
        cases f <;> simp at * <;> omega
theorem wordsL_length (t : List UInt8) : (wordsL t).length ≤ t.length := by
  have := scanW_length t 0 none
  simpa [wordsL] using this
/-- Each word begins ahead of where it ends, within the text. -/
theorem scanW_bounds : ∀ (t : List UInt8) (i : Nat) (f : Option Nat), (∀ b, f = some b → b < i) →
    ∀ p ∈ scanW i f t, p.1 < p.2 ∧ p.2 ≤ i + t.length := by
  intro t
  induction t with
  | nil =>
    intro i f hf p hp
    cases f with
    | none => simp [scanW, shutW] at hp
    | some b => simp [scanW, shutW] at hp; subst hp; exact ⟨hf b rfl, by simp⟩
  | cons c r ih =>
    intro i f hf p hp
    simp only [scanW] at hp
    split at hp
    · simp only [List.mem_append, List.mem_cons] at hp
      rcases hp with hp | hp | hp
      · cases f with
        | none => simp [shutW] at hp
        | some b => simp [shutW] at hp; subst hp; exact ⟨hf b rfl, by simp⟩
      · subst hp; exact ⟨by simp, by simp⟩
      · have := ih (i + 1) none (by simp) p hp
        simp; omega
    · split at hp
      · simp only [List.mem_append] at hp
        rcases hp with hp | hp
        · cases f with
          | none => simp [shutW] at hp
          | some b => simp [shutW] at hp; subst hp; exact ⟨hf b rfl, by simp⟩
        · have := ih (i + 1) none (by simp) p hp
          simp; omega
      · have := ih (i + 1) (some (f.getD i)) (by intro b hb; simp at hb; subst hb; cases f with | none => simp | some b => have := hf b rfl; simp; omega) p hp
        simp; omega
theorem wordsL_bounds (t : List UInt8) : ∀ p ∈ wordsL t, p.1 < p.2 ∧ p.2 ≤ t.length := by
  intro p hp
  have := scanW_bounds t 0 none (by simp) p hp
  simpa using this
/-- A word's bytes. -/
def bytesOf (t : ByteArray) (p : Nat × Nat) : List UInt8 := (t.extract p.1 p.2).data.toList
/-- The place of the first brace that opens one block too many; -1: none. n: how many are open. -/
def deepL (t : ByteArray) : List (Nat × Nat) → Int → Int
  | [], _ => -1
  | p :: r, n =>
    if bytesOf t p = [123] then (if 4 < n + 1 then (p.1 : Int) else deepL t r (n + 1))
    else if bytesOf t p = [125] then deepL t r (n - 1)
    else deepL t r n
/-- How many are open behind a word. -/
def openB (t : ByteArray) (p : Nat × Nat) (n : Int) : Int :=
  if bytesOf t p = [123] then n + 1 else if bytesOf t p = [125] then n - 1 else n
def kSend : List UInt8 := [115, 101, 110, 100]
def kWait : List UInt8 := [119, 97, 105, 116]
def kStop : List UInt8 := [115, 116, 111, 112]
def kAsk : List UInt8 := [97, 115, 107]
def kRetry : List UInt8 := [114, 101, 116, 114, 121]
def kRepeat : List UInt8 := [114, 101, 112, 101, 97, 116]
def kElse : List UInt8 := [101, 108, 115, 101]
def kOpen : List UInt8 := [123]
def kShut : List UInt8 := [125]
/-- The acceptor's state: what must come next (the next first), may else follow the blocks that are open (the innermost first), may else follow the next block, the numbers so far and their sorts. -/
structure FSt where
  want : List Int
  elses : List Bool
  next : Bool
  nums : List (Nat × Nat)
  sorts : List Int
/-- A word where a statement may begin. -/
def firstF (s : List UInt8) (mode : Int) (st : FSt) : FSt × Bool :=
  if s = kSend then ({ st with want := [2, 0] }, true)
  else if s = kWait then ({ st with want := [3, 0] }, true)
  else if s = kStop then ({ st with want := [0] }, true)
  else if s = kAsk then ({ st with want := [2, 3, 6], next := true }, true)
  else if s = kRetry then ({ st with want := [4, 2, 3, 6], next := true }, true)
  else if s = kRepeat then ({ st with want := [5, 6], next := false }, true)
  else if s = kElse then ({ st with want := [6], next := false }, mode == 1)
  else if s = kShut then
    match st.elses with
    | [] => (st, false)
    | e :: r => ({ st with want := if e then [1] else [0], elses := r }, true)
  else (st, false)
/-- One word more. -/
def readF (s : List UInt8) (p : Nat × Nat) (st : FSt) : FSt × Bool :=
  match st.want with
  | [] => (st, false)
  | m :: r =>
    if m = 0 ∨ m = 1 then firstF s m st
    else if m = 6 then ({ st with elses := st.next :: st.elses, want := [0] }, s == kOpen)
    else if m = 2 then ({ st with want := r }, decide (0 ≤ keyL s))
    else ({ st with want := r, nums := st.nums ++ [p], sorts := st.sorts ++ [m] }, decide (0 ≤ numL s))
/-- All words, one behind the other; the place of the first that cannot stand there. -/
def runF (t : ByteArray) : List (Nat × Nat) → FSt → FSt ⊕ Nat
  | [], st => .inl st
  | p :: r, st => if (readF (bytesOf t p) p st).2 = true then runF t r (readF (bytesOf t p) p st).1 else .inr p.1
def initF : FSt := { want := [0], elses := [], next := false, nums := [], sorts := [] }
/-- The first number that may not be. -/
def numsF (t : ByteArray) : List (Nat × Nat) → List Int → Int × Int
  | p :: r, s :: q => if numL (bytesOf t p) < 1 ∨ mostI s < numL (bytesOf t p) then (3, (p.1 : Int)) else numsF t r q
  | _, _ => (0, 0)
def endF (t : ByteArray) (st : FSt) : Int × Int :=
  if 0 < st.elses.length ∨ 1 < st.want.headD 0 then (2, (t.size : Int)) else numsF t st.nums st.sorts
def formedL (t : ByteArray) : Int × Int :=
  match runF t (wordsL t.data.toList) initF with
  | .inr a => (2, (a : Int))
  | .inl st => endF t st
/-- A statement without its blocks: its word's place, its key, its numbers. -/
structure Hd where
  p : Nat × Nat
  key : Int
  n : Int
  m : Int
/-- Lists of statements with blocks at most d deep. -/
def Tree : Nat → Type
  | 0 => Unit
  | d + 1 => List (Hd × Tree d × Tree d)
def nilT : (d : Nat) → Tree d
  | 0 => ()
  | _ + 1 => []
/-- How a statement's first words spell its head; f: 0: no block follows, 1: one, 2: one, and perhaps another behind else. -/
def HdOk (t : ByteArray) (wo : List (Nat × Nat)) (h : Hd) (f : Nat) : Prop :=
  (∃ p q, wo = [p, q] ∧ f = 0 ∧ bytesOf t p = kSend ∧ h = { p := p, key := keyL (bytesOf t q), n := 0, m := 0 }) ∨
  (∃ p q, wo = [p, q] ∧ f = 0 ∧ bytesOf t p = kWait ∧ h = { p := p, key := 0, n := numL (bytesOf t q), m := 0 }) ∨
  (∃ p, wo = [p] ∧ f = 0 ∧ bytesOf t p = kStop ∧ h = { p := p, key := 0, n := 0, m := 0 }) ∨
  (∃ p q r, wo = [p, q, r] ∧ f = 2 ∧ bytesOf t p = kAsk ∧ h = { p := p, key := keyL (bytesOf t q), n := numL (bytesOf t r), m := 0 }) ∨
  (∃ p q r s, wo = [p, q, r, s] ∧ f = 2 ∧ bytesOf t p = kRetry ∧ h = { p := p, key := keyL (bytesOf t r), n := numL (bytesOf t s), m := numL (bytesOf t q) }) ∨
  (∃ p q, wo = [p, q] ∧ f = 1 ∧ bytesOf t p = kRepeat ∧ h = { p := p, key := 0, n := numL (bytesOf t q), m := 0 })
/-- No word of a statement's head is a brace; none that comes first in what follows is one that goes on with it. -/
def plainW (t : ByteArray) (l : List (Nat × Nat)) : Prop := ∀ p ∈ l, ¬ bytesOf t p = kOpen ∧ ¬ bytesOf t p = kShut
def headIsnt (t : ByteArray) (l : List (Nat × Nat)) (s : List UInt8) : Prop := ∀ p, l.head? = some p → ¬ bytesOf t p = s
/-- Statements, one behind the other: the words, and what they spell. sub: of the words within braces. -/
def GL (t : ByteArray) {T : Type} (sub : List (Nat × Nat) → T → Prop) (nil : T) : List (Nat × Nat) → List (Hd × T × T) → Prop
  | ws, [] => ws = []
  | ws, x :: r => ∃ wo wb wr f, ws = wo ++ (wb ++ wr) ∧ HdOk t wo x.1 f ∧ plainW t wo ∧ GL t sub nil wr r ∧
      ((f = 0 ∧ wb = [] ∧ x.2.1 = nil ∧ x.2.2 = nil ∧ headIsnt t wr kOpen) ∨
       (∃ o wa c, ¬ f = 0 ∧ wb = o :: (wa ++ [c]) ∧ bytesOf t o = kOpen ∧ bytesOf t c = kShut ∧ sub wa x.2.1 ∧ x.2.2 = nil ∧ headIsnt t wr kElse) ∨
       (∃ o wa c e o2 wa2 c2, f = 2 ∧ wb = o :: (wa ++ c :: e :: o2 :: (wa2 ++ [c2])) ∧ bytesOf t o = kOpen ∧ bytesOf t c = kShut ∧ bytesOf t e = kElse ∧ bytesOf t o2 = kOpen ∧ bytesOf t c2 = kShut ∧ sub wa x.2.1 ∧ sub wa2 x.2.2))
/-- The words spell the tree. -/
def GT (t : ByteArray) : (d : Nat) → List (Nat × Nat) → Tree d → Prop
  | 0, ws, _ => ws = []
  | d + 1, ws, l => GL t (GT t d) (nilT d) ws l
theorem openB_open {t : ByteArray} {p : Nat × Nat} (n : Int) (h : bytesOf t p = kOpen) : openB t p n = n + 1 := by unfold openB; exact if_pos h
theorem openB_shut {t : ByteArray} {p : Nat × Nat} (n : Int) (h : bytesOf t p = kShut) : openB t p n = n - 1 := by unfold openB; exact (if_neg (by rw [h]; decide)).trans (if_pos h)
theorem openB_other {t : ByteArray} {p : Nat × Nat} (n : Int) (h : ¬ bytesOf t p = kOpen ∧ ¬ bytesOf t p = kShut) : openB t p n = n := by unfold openB; exact (if_neg h.1).trans (if_neg h.2)
theorem plain_else {t : ByteArray} {e : Nat × Nat} (h : bytesOf t e = kElse) : ¬ bytesOf t e = kOpen ∧ ¬ bytesOf t e = kShut := by rw [h]; decide
/-- The place of the first repeat that is too much, within others that come to n; -1: none. -/
def heavyL (t : ByteArray) {T : Type} (sub : T → Int → Int) : List (Hd × T × T) → Int → Int
  | [], _ => -1
  | x :: r, n =>
    if bytesOf t x.1.p = kRepeat then
      (if 64 < n * x.1.n then (x.1.p.1 : Int)
       else if 0 ≤ sub x.2.1 (n * x.1.n) then sub x.2.1 (n * x.1.n)
       else if 0 ≤ sub x.2.2 (n * x.1.n) then sub x.2.2 (n * x.1.n)
       else heavyL t sub r n)
    else
      (if 0 ≤ sub x.2.1 n then sub x.2.1 n
       else if 0 ≤ sub x.2.2 n then sub x.2.2 n
       else heavyL t sub r n)
def heavyT (t : ByteArray) : (d : Nat) → Tree d → Int → Int
  | 0, _, _ => -1
  | d + 1, l, n => heavyL t (heavyT t d) l n
/-- n times, behind one another. -/
def rounds : Nat → Int × Int → Int × Int → Int × Int
  | 0, acc, _ => acc
  | k + 1, acc, a => rounds k (behindI acc.1 a.1, maxI acc.2 (behindI acc.1 a.2)) a
/-- All tries' ticks. -/
def triesI (n : Int) : Nat → Int
  | 0 => n
  | k + 1 => 2 * triesI n k + n
/-- The ticks through one statement, and to a stop in it, out of those of its blocks. -/
def oneI (t : ByteArray) (h : Hd) (a b : Int × Int) : Int × Int :=
  if bytesOf t h.p = kWait then (h.n, -1)
  else if bytesOf t h.p = kStop then (-1, 0)
  else if bytesOf t h.p = kSend then (0, -1)
  else if bytesOf t h.p = kRepeat then rounds h.n.toNat (0, -1) a
  else (maxI (behindI (triesI h.n (h.m - 1).toNat - 1) a.1) (behindI (triesI h.n (h.m - 1).toNat) b.1),
        maxI (behindI (triesI h.n (h.m - 1).toNat - 1) a.2) (behindI (triesI h.n (h.m - 1).toNat) b.2))
def foldI : Int × Int → List (Int × Int) → Int × Int
  | acc, [] => acc
  | acc, a :: r => foldI (behindI acc.1 a.1, maxI acc.2 (behindI acc.1 a.2)) r
/-- The ticks through a block, and to a stop in it; -1: no way. -/
def lastsT (t : ByteArray) : (d : Nat) → Tree d → Int × Int
  | 0, _ => (0, -1)
  | d + 1, l => foldI (0, -1) (l.map fun x => oneI t x.1 (lastsT t d x.2.1) (lastsT t d x.2.2))
/-- How many statements there are, those within blocks too. -/
def sizeT : (d : Nat) → Tree d → Nat
  | 0, _ => 0
  | d + 1, l => (l.map fun x => 1 + sizeT d x.2.1 + sizeT d x.2.2).sum
def Tree.list {d : Nat} (l : Tree (d + 1)) : List (Hd × Tree d × Tree d) := l
/-- Every number may be. -/
def OkT (t : ByteArray) : (d : Nat) → Tree d → Prop
  | 0, _ => True
  | d + 1, l => ∀ x : Hd × Tree d × Tree d, x ∈ l.list → 0 ≤ x.1.n ∧ x.1.n ≤ 999 ∧ 0 ≤ x.1.m ∧ x.1.m ≤ 6 ∧ (bytesOf t x.1.p = kRepeat → 1 ≤ x.1.n ∧ x.1.n ≤ 9) ∧ OkT t d x.2.1 ∧ OkT t d x.2.2
/-- The kind of a statement by its word: 0: none. -/
def kindI (s : List UInt8) : Int :=
  if s = kSend then 1 else if s = kWait then 2 else if s = kStop then 3 else if s = kAsk then 4 else if s = kRetry then 5 else if s = kRepeat then 6 else 0
structure Nd where
  kind : Int
  key : Int
  times : Int
  ticks : Int
  body : Nat
  els : Nat
/-- A head's numbers may be, by its kind. -/
def GoodHd (t : ByteArray) (h : Hd) : Prop :=
  (bytesOf t h.p = kSend ∧ h.n = 0 ∧ h.m = 0) ∨
  (bytesOf t h.p = kWait ∧ 1 ≤ h.n ∧ h.n ≤ 999 ∧ h.m = 0 ∧ h.key = 0) ∨
  (bytesOf t h.p = kStop ∧ h.n = 0 ∧ h.m = 0 ∧ h.key = 0) ∨
  (bytesOf t h.p = kAsk ∧ 1 ≤ h.n ∧ h.n ≤ 999 ∧ h.m = 0) ∨
  (bytesOf t h.p = kRetry ∧ 1 ≤ h.n ∧ h.n ≤ 999 ∧ 1 ≤ h.m ∧ h.m ≤ 6) ∨
  (bytesOf t h.p = kRepeat ∧ 1 ≤ h.n ∧ h.n ≤ 9 ∧ h.m = 0 ∧ h.key = 0)
/-- The program's record of a statement. -/
def ndOf (t : ByteArray) (h : Hd) (b e : Nat) : Nd :=
  { kind := kindI (bytesOf t h.p), key := h.key,
    times := if bytesOf t h.p = kRetry then h.m else if bytesOf t h.p = kRepeat then h.n else 0,
    ticks := if bytesOf t h.p = kWait ∨ bytesOf t h.p = kAsk ∨ bytesOf t h.p = kRetry then h.n else 0,
    body := b, els := e }
/-- A tree's statements in one list, each ahead of those of its blocks. -/
def flatT (t : ByteArray) : (d : Nat) → Tree d → List Nd
  | 0, _ => []
  | d + 1, l => l.flatMap fun x : Hd × Tree d × Tree d => ndOf t x.1 (flatT t d x.2.1).length (flatT t d x.2.2).length :: (flatT t d x.2.1 ++ flatT t d x.2.2)
/-- All heads' numbers may be. -/
def GoodT (t : ByteArray) : (d : Nat) → Tree d → Prop
  | 0, _ => True
  | d + 1, l => ∀ x : Hd × Tree d × Tree d, x ∈ l.list → GoodHd t x.1 ∧ GoodT t d x.2.1 ∧ GoodT t d x.2.2
theorem GoodT.ok {t : ByteArray} : ∀ (d : Nat) (tr : Tree d), GoodT t d tr → OkT t d tr := by
  intro d
  induction d with
  | zero => intro tr _; trivial
  | succ d ih =>
    intro tr h x hx
    obtain ⟨h1, h2, h3⟩ := h x hx
    have key : 0 ≤ x.1.n ∧ x.1.n ≤ 999 ∧ 0 ≤ x.1.m ∧ x.1.m ≤ 6 ∧ (bytesOf t x.1.p = kRepeat → 1 ≤ x.1.n ∧ x.1.n ≤ 9) := by
      rcases h1 with ⟨hk, h⟩ | ⟨hk, h⟩ | ⟨hk, h⟩ | ⟨hk, h⟩ | ⟨hk, h⟩ | ⟨hk, h⟩
      all_goals
        refine ⟨by omega, by omega, by omega, by omega, fun hr => ?_⟩
        first | omega | (rw [hk] at hr; exact absurd hr (by decide))
    exact ⟨key.1, key.2.1, key.2.2.1, key.2.2.2.1, key.2.2.2.2, ih _ h2, ih _ h3⟩
theorem ndOf_send {t : ByteArray} {h : Hd} (b e : Nat) (hk : bytesOf t h.p = kSend) : ndOf t h b e = { kind := 1, key := h.key, times := 0, ticks := 0, body := b, els := e } := by unfold ndOf; rw [hk]; rfl
theorem ndOf_wait {t : ByteArray} {h : Hd} (b e : Nat) (hk : bytesOf t h.p = kWait) : ndOf t h b e = { kind := 2, key := h.key, times := 0, ticks := h.n, body := b, els := e } := by unfold ndOf; rw [hk]; rfl
theorem ndOf_stop {t : ByteArray} {h : Hd} (b e : Nat) (hk : bytesOf t h.p = kStop) : ndOf t h b e = { kind := 3, key := h.key, times := 0, ticks := 0, body := b, els := e } := by unfold ndOf; rw [hk]; rfl
theorem ndOf_ask {t : ByteArray} {h : Hd} (b e : Nat) (hk : bytesOf t h.p = kAsk) : ndOf t h b e = { kind := 4, key := h.key, times := 0, ticks := h.n, body := b, els := e } := by unfold ndOf; rw [hk]; rfl
theorem ndOf_retry {t : ByteArray} {h : Hd} (b e : Nat) (hk : bytesOf t h.p = kRetry) : ndOf t h b e = { kind := 5, key := h.key, times := h.m, ticks := h.n, body := b, els := e } := by unfold ndOf; rw [hk]; rfl
theorem ndOf_repeat {t : ByteArray} {h : Hd} (b e : Nat) (hk : bytesOf t h.p = kRepeat) : ndOf t h b e = { kind := 6, key := h.key, times := h.n, ticks := 0, body := b, els := e } := by unfold ndOf; rw [hk]; rfl
/-- The reader: the words that are left, the one at hand first; the statements so far; how many braces are open; the repeats around, multiplied; the fault and its place. -/
structure RSt where
  us : List (Nat × Nat)
  fl : List Nd
  deep : Int
  heavy : Int
  fault : Int
  place : Int
/-- Where the word at hand begins. -/
def atR (t : ByteArray) (us : List (Nat × Nat)) : Nat :=
  match us with
  | [] => t.size
  | p :: _ => p.1
/-- The word at hand. -/
def wordR (t : ByteArray) (us : List (Nat × Nat)) : ByteArray :=
  match us with
  | [] => ByteArray.empty
  | p :: _ => t.extract p.1 p.2
def noteR (st : RSt) (f p : Int) : RSt := if st.fault = 0 ∨ f < st.fault then { st with fault := f, place := p } else st
def advR (st : RSt) : RSt := { st with us := st.us.tail }
def nV (l : List UInt8) : Int := if 0 ≤ numL l then numL l else 0
def nB (l : List UInt8) : Bool := decide (0 ≤ numL l)
def kV (l : List UInt8) : Int := if 0 ≤ keyL l then keyL l else 0
def kB (l : List UInt8) : Bool := decide (0 ≤ keyL l)
def bytesR (t : ByteArray) (st : RSt) : List UInt8 := (wordR t st.us).data.toList
/-- A number that may be 1 to most. -/
def numberR (t : ByteArray) (st : RSt) (most : Int) : Int × Bool × RSt :=
  if nB (bytesR t st) then
    (nV (bytesR t st), true, advR (if nV (bytesR t st) < 1 ∨ most < nV (bytesR t st) then noteR st 3 (atR t st.us : Nat) else st))
  else (0, false, st)
def timesR (t : ByteArray) (st : RSt) (kind : Int) : Int × Bool × RSt :=
  if kind = 5 then numberR t st 6 else if kind = 6 then numberR t st 9 else (0, true, st)
def keyR (t : ByteArray) (st : RSt) (kind : Int) : Int × Bool × RSt :=
  if kind = 1 ∨ kind = 4 ∨ kind = 5 then (kV (bytesR t st), kB (bytesR t st), if kB (bytesR t st) then advR st else st) else (0, true, st)
def ticksR (t : ByteArray) (st : RSt) (kind : Int) : Int × Bool × RSt :=
  if kind = 2 ∨ kind = 4 ∨ kind = 5 then numberR t st 999 else (0, true, st)
def heavierI (a b : Int) : Int := if 64 < a * b then 65 else a * b
/-- A block in braces: how many statements are in it. -/
def bracedR (t : ByteArray) (blk : RSt → Bool × RSt) (st : RSt) : Nat × Bool × RSt :=
  if ¬ bytesR t st = kOpen then (0, false, st)
  else
    let st1 := if 4 ≤ st.deep then noteR st 4 (atR t st.us : Nat) else st
    let r := blk (advR { st1 with deep := st1.deep + 1 })
    if r.1 then (r.2.fl.length - st.fl.length, true, advR { r.2 with deep := r.2.deep - 1 }) else (0, false, r.2)
def setBody (l : List Nd) (i n : Nat) : List Nd := l.modify i fun x => { x with body := n }
def setEls (l : List Nd) (i n : Nat) : List Nd := l.modify i fun x => { x with els := n }
/-- The block of an ask or a retry, and its else block, if it has one. -/
def branchesR (t : ByteArray) (blk : RSt → Bool × RSt) (st : RSt) (i : Nat) : Bool × RSt :=
  let a := bracedR t blk st
  if a.2.1 then
    let st1 := { a.2.2 with fl := setBody a.2.2.fl i a.1 }
    if bytesR t st1 = kElse then
      let b := bracedR t blk (advR st1)
      (b.2.1, { b.2.2 with fl := setEls b.2.2.fl i b.1 })
    else (true, st1)
  else (false, a.2.2)
/-- The block of a repeat. -/
def repeatedR (t : ByteArray) (blk : RSt → Bool × RSt) (st : RSt) (i : Nat) (times p : Int) : Bool × RSt :=
  let st1 := { st with heavy := heavierI st.heavy times }
  let st2 := if 64 < st1.heavy then noteR st1 5 p else st1
  let a := bracedR t blk st2
  (a.2.1, { a.2.2 with fl := setBody a.2.2.fl i a.1, heavy := st.heavy })
/-- One statement. -/
def statementR (t : ByteArray) (blk : RSt → Bool × RSt) (st : RSt) : Bool × RSt :=
  let kind := kindI (bytesR t st)
  if kind = 0 then (false, st)
  else
    let a := timesR t (advR st) kind
    if a.2.1 then
      let b := keyR t a.2.2 kind
      if b.2.1 then
        let c := ticksR t b.2.2 kind
        if c.2.1 then
          let st5 := { c.2.2 with fl := c.2.2.fl ++ [{ kind := kind, key := b.1, times := a.1, ticks := c.1, body := 0, els := 0 }] }
          if kind = 4 ∨ kind = 5 then branchesR t blk st5 c.2.2.fl.length
          else if kind = 6 then repeatedR t blk st5 c.2.2.fl.length a.1 (atR t st.us : Nat)
          else (true, st5)
        else (false, c.2.2)
      else (false, b.2.2)
    else (false, a.2.2)
/-- Statements up to the word behind them. -/
def loopR (t : ByteArray) (stm : RSt → Bool × RSt) (behind : List UInt8) : Nat → RSt → Bool × RSt
  | 0, st => (false, st)
  | f + 1, st => if bytesR t st = behind then (true, st) else if (stm st).1 then loopR t stm behind f (stm st).2 else (false, (stm st).2)
/-- n: how many blocks may be within one another. -/
def blockR (t : ByteArray) : Nat → List UInt8 → RSt → Bool × RSt
  | 0, _, st => (false, st)
  | n + 1, behind, st => loopR t (statementR t (blockR t n kShut)) behind (st.us.length + 1) st
theorem noteR_keeps (st : RSt) (f p : Int) : (noteR st f p).deep = st.deep ∧ (noteR st f p).heavy = st.heavy ∧ (noteR st f p).fl = st.fl ∧ (noteR st f p).us = st.us := by
  unfold noteR; split <;> exact ⟨rfl, rfl, rfl, rfl⟩
/-- How the acceptor ends: the place of the fault, or the numbers and their sorts. -/
def outF (t : ByteArray) (us : List (Nat × Nat)) (st : FSt) : Nat ⊕ (List (Nat × Nat) × List Int) :=
  match runF t us st with
  | .inr a => .inl a
  | .inl s => if 0 < s.elses.length ∨ 1 < s.want.headD 0 then .inl t.size else .inr (s.nums, s.sorts)
theorem outF_cons (t : ByteArray) (p : Nat × Nat) (r : List (Nat × Nat)) (st : FSt) :
    outF t (p :: r) st = if (readF (bytesOf t p) p st).2 = true then outF t r (readF (bytesOf t p) p st).1 else .inl p.1 := by
  unfold outF
  rw [runF]
  by_cases h : (readF (bytesOf t p) p st).2 = true
  · rw [if_pos h, if_pos h]
  · rw [if_neg h, if_neg h]
theorem outF_nil (t : ByteArray) (s : FSt) : outF t [] s = if 0 < s.elses.length ∨ 1 < s.want.headD 0 then .inl t.size else .inr (s.nums, s.sorts) := rfl
theorem formedL_out (t : ByteArray) : formedL t = match outF t (wordsL t.data.toList) initF with
    | .inl a => (2, (a : Int))
    | .inr x => numsF t x.1 x.2 := by
  unfold formedL outF
  cases runF t (wordsL t.data.toList) initF with
  | inr a => rfl
  | inl s =>
    simp only
    unfold endF
    split <;> rfl
/-- Which faults have been noted: of each kind the place of the first. -/
structure Gh where
  f3 : Option Int
  f4 : Option Int
  f5 : Option Int
def Gh.nil : Gh := ⟨none, none, none⟩
def Gh.add (a b : Gh) : Gh := ⟨a.f3.or b.f3, a.f4.or b.f4, a.f5.or b.f5⟩
def ev3 (p : Int) : Gh := ⟨some p, none, none⟩
def ev4 (p : Int) : Gh := ⟨none, some p, none⟩
def ev5 (p : Int) : Gh := ⟨none, none, some p⟩
theorem Gh.add_assoc (a b c : Gh) : (a.add b).add c = a.add (b.add c) := by simp [Gh.add, Option.or_assoc]
theorem Gh.add_nil (a : Gh) : a.add Gh.nil = a := by simp [Gh.add, Gh.nil]
theorem Gh.nil_add (a : Gh) : Gh.nil.add a = a := by simp [Gh.add, Gh.nil]
def encG (g : Gh) : Int × Int :=
  match g.f3 with
  | some p => (3, p)
  | none => match g.f4 with
    | some p => (4, p)
    | none => match g.f5 with
      | some p => (5, p)
      | none => (0, 0)
def Rel (st : RSt) (g : Gh) : Prop := (st.fault, st.place) = encG g
theorem Rel.note3 {st : RSt} {g : Gh} (h : Rel st g) (p : Int) : Rel (noteR st 3 p) (g.add (ev3 p)) := by
  obtain ⟨a, b, c⟩ := g
  unfold Rel at *
  cases a <;> cases b <;> cases c <;> simp [encG, Gh.add, ev3] at * <;> simp [noteR, h]
theorem Rel.note4 {st : RSt} {g : Gh} (h : Rel st g) (p : Int) : Rel (noteR st 4 p) (g.add (ev4 p)) := by
  obtain ⟨a, b, c⟩ := g
  unfold Rel at *
  cases a <;> cases b <;> cases c <;> simp [encG, Gh.add, ev4] at * <;> simp [noteR, h]
theorem Rel.note5 {st : RSt} {g : Gh} (h : Rel st g) (p : Int) : Rel (noteR st 5 p) (g.add (ev5 p)) := by
  obtain ⟨a, b, c⟩ := g
  unfold Rel at *
  cases a <;> cases b <;> cases c <;> simp [encG, Gh.add, ev5] at * <;> simp [noteR, h]
/-- From one reader to a later one just these faults are noted. -/
def Ev (a b : RSt) (e : Gh) : Prop := ∀ g, Rel a g → Rel b (g.add e)
theorem Ev.same {a b : RSt} (hf : b.fault = a.fault) (hp : b.place = a.place) : Ev a b Gh.nil := fun g h => by
  rw [Gh.add_nil]; unfold Rel at *; rw [hf, hp]; exact h
theorem Ev.trans {a b c : RSt} {e f : Gh} (h : Ev a b e) (k : Ev b c f) : Ev a c (e.add f) := fun g hg => by
  rw [← Gh.add_assoc]; exact k _ (h g hg)
/-- The first number that may not be. -/
def badO (t : ByteArray) (p : Nat × Nat) (s : Int) : Option Int := if numL (bytesOf t p) < 1 ∨ mostI s < numL (bytesOf t p) then some (p.1 : Int) else none
def numsO (t : ByteArray) : List (Nat × Nat) → List Int → Option Int
  | p :: r, s :: q => (badO t p s).or (numsO t r q)
  | _, _ => none
theorem numsF_O (t : ByteArray) : ∀ (a : List (Nat × Nat)) (b : List Int), numsF t a b = match numsO t a b with
    | some p => (3, p)
    | none => (0, 0) := by
  intro a
  induction a with
  | nil => intro b; rfl
  | cons p r ih =>
    intro b
    cases b with
    | nil => rfl
    | cons s q =>
      rw [numsF, numsO, badO]
      split
      · rfl
      · rw [ih q]; rfl
theorem numsO_append (t : ByteArray) : ∀ (a : List (Nat × Nat)) (b : List Int) (a' : List (Nat × Nat)) (b' : List Int), a.length = b.length → numsO t (a ++ a') (b ++ b') = (numsO t a b).or (numsO t a' b') := by
  intro a
  induction a with
  | nil => intro b a' b' h; cases b with | nil => simp [numsO] | cons s q => simp at h
  | cons p r ih =>
    intro b a' b' h
    cases b with
    | nil => simp at h
    | cons s q => simp at h; rw [List.cons_append, List.cons_append, numsO, numsO, ih q a' b' h, Option.or_assoc]
/-- The first brace too deep. -/
def deepO (t : ByteArray) : List (Nat × Nat) → Int → Option Int
  | [], _ => none
  | p :: r, n =>
    if bytesOf t p = [123] then (if 4 < n + 1 then some (p.1 : Int) else deepO t r (n + 1))
    else if bytesOf t p = [125] then deepO t r (n - 1)
    else deepO t r n
theorem deepL_O (t : ByteArray) : ∀ (l : List (Nat × Nat)) (n : Int), deepL t l n = (deepO t l n).getD (-1) := by
  intro l
  induction l with
  | nil => intro n; rfl
  | cons p r ih =>
    intro n
    rw [deepL, deepO]
    split
    · split
      · rfl
      · exact ih _
    · split <;> exact ih _
theorem deepO_pos (t : ByteArray) : ∀ (l : List (Nat × Nat)) (n p : Int), deepO t l n = some p → 0 ≤ p := by
  intro l
  induction l with
  | nil => intro n p h; simp [deepO] at h
  | cons q r ih =>
    intro n p h
    rw [deepO] at h
    split at h
    · split at h
      · simp at h; omega
      · exact ih _ _ h
    · split at h <;> exact ih _ _ h
/-- How many braces are open behind some words. -/
def dpt (t : ByteArray) : List (Nat × Nat) → Int → Int
  | [], n => n
  | p :: r, n => dpt t r (openB t p n)
theorem dpt_append (t : ByteArray) : ∀ (a b : List (Nat × Nat)) (n : Int), dpt t (a ++ b) n = dpt t b (dpt t a n) := by
  intro a
  induction a with
  | nil => intro b n; rfl
  | cons p r ih => intro b n; rw [List.cons_append, dpt, dpt, ih]
theorem deepO_append (t : ByteArray) : ∀ (a b : List (Nat × Nat)) (n : Int), deepO t (a ++ b) n = (deepO t a n).or (deepO t b (dpt t a n)) := by
  intro a
  induction a with
  | nil => intro b n; simp [deepO, dpt]
  | cons p r ih =>
    intro b n
    rw [List.cons_append, deepO, deepO, dpt, openB]
    split
    · split
      · rfl
      · exact ih _ _
    · split <;> exact ih _ _
/-- A part of the text was read: which words, which numbers of which sorts, which faults were noted. -/
structure Piece (t : ByteArray) (st st' : RSt) (ws a : List (Nat × Nat)) (b : List Int) (e : Gh) : Prop where
  us : st.us = ws ++ st'.us
  len : a.length = b.length
  ev : Ev st st' e
  e3 : e.f3 = numsO t a b
  e4 : e.f4 = deepO t ws st.deep
  dp : ∀ n, dpt t ws n = n
  deep : st'.deep = st.deep
  heavy : st'.heavy = st.heavy
theorem Piece.trans {t : ByteArray} {x y z : RSt} {w1 w2 a1 a2 : List (Nat × Nat)} {b1 b2 : List Int} {e1 e2 : Gh} (h : Piece t x y w1 a1 b1 e1) (k : Piece t y z w2 a2 b2 e2) :
    Piece t x z (w1 ++ w2) (a1 ++ a2) (b1 ++ b2) (e1.add e2) where
  us := by rw [h.us, k.us, List.append_assoc]
  len := by rw [List.length_append, List.length_append, h.len, k.len]
  ev := h.ev.trans k.ev
  e3 := by rw [numsO_append t _ _ _ _ h.len, ← h.e3, ← k.e3]; rfl
  e4 := by rw [deepO_append, h.dp, ← h.e4, ← h.deep, ← k.e4]; rfl
  dp := fun n => by rw [dpt_append, h.dp, k.dp]
  deep := k.deep.trans h.deep
  heavy := k.heavy.trans h.heavy
theorem deepO_plain {t : ByteArray} {p : Nat × Nat} (n : Int) (h : ¬ bytesOf t p = kOpen ∧ ¬ bytesOf t p = kShut) : deepO t [p] n = none := by
  rw [deepO]; exact (if_neg h.1).trans ((if_neg h.2).trans rfl)
theorem read_num (w : List UInt8) (p : Nat × Nat) {s : Int} (hs : s = 3 ∨ s = 4 ∨ s = 5) (r : List Int) (els : List Bool) (nx : Bool) (ns : List (Nat × Nat)) (ss : List Int) :
    readF w p ⟨s :: r, els, nx, ns, ss⟩ = (⟨r, els, nx, ns ++ [p], ss ++ [s]⟩, decide (0 ≤ numL w)) := by
  rcases hs with rfl | rfl | rfl <;> rfl
theorem read_key (w : List UInt8) (p : Nat × Nat) (r : List Int) (els : List Bool) (nx : Bool) (ns : List (Nat × Nat)) (ss : List Int) :
    readF w p ⟨2 :: r, els, nx, ns, ss⟩ = (⟨r, els, nx, ns, ss⟩, decide (0 ≤ keyL w)) := rfl
theorem Piece.refl (t : ByteArray) (x : RSt) : Piece t x x [] [] [] Gh.nil :=
  ⟨rfl, rfl, Ev.same rfl rfl, rfl, rfl, fun _ => rfl, rfl, rfl⟩
/-- The statements in the list count for nothing here. -/
theorem Piece.fl {t : ByteArray} {x y : RSt} {w a : List (Nat × Nat)} {b : List Int} {e : Gh} (h : Piece t x y w a b e) (l l' : List Nd) : Piece t { x with fl := l } { y with fl := l' } w a b e :=
  ⟨h.us, h.len, h.ev, h.e3, h.e4, h.dp, h.deep, h.heavy⟩
/-- One word that is no brace was passed. -/
theorem Piece.word {t : ByteArray} {x : RSt} {p : Nat × Nat} {r : List (Nat × Nat)} (h : x.us = p :: r) (hp : ¬ bytesOf t p = kOpen ∧ ¬ bytesOf t p = kShut) : Piece t x (advR x) [p] [] [] Gh.nil where
  us := by show x.us = [p] ++ x.us.tail; rw [h]; rfl
  len := rfl
  ev := Ev.same rfl rfl
  e3 := rfl
  e4 := (deepO_plain _ hp).symm
  dp := fun n => by rw [dpt, openB_other n hp]; rfl
  deep := rfl
  heavy := rfl
theorem num_plain {s : List UInt8} (h : 0 ≤ numL s) : ¬ s = kOpen ∧ ¬ s = kShut := by
  constructor <;> (intro e; rw [e] at h; exact absurd h (by decide))
theorem key_plain {s : List UInt8} (h : 0 ≤ keyL s) : ¬ s = kOpen ∧ ¬ s = kShut := by
  constructor <;> (intro e; rw [e] at h; exact absurd h (by decide))
theorem kind_plain {s : List UInt8} (h : ¬ kindI s = 0) : (¬ s = kOpen ∧ ¬ s = kShut) ∧ ¬ s = kElse := by
  refine ⟨⟨?_, ?_⟩, ?_⟩ <;> (intro e; rw [e] at h; exact absurd (by decide) h)
theorem bytesR_cons {t : ByteArray} {st : RSt} {p : Nat × Nat} {r : List (Nat × Nat)} (h : st.us = p :: r) : bytesR t st = bytesOf t p := by
  unfold bytesR; rw [h]; rfl
theorem bytesR_nil {t : ByteArray} {st : RSt} (h : st.us = []) : bytesR t st = [] := by
  unfold bytesR; rw [h]; rfl
theorem us_cons {t : ByteArray} {st : RSt} (h : ¬ bytesR t st = []) : ∃ p r, st.us = p :: r := by
  cases hu : st.us with
  | nil => exact absurd (bytesR_nil hu) h
  | cons p r => exact ⟨p, r, rfl⟩
/-- A number: how the acceptor goes along. -/
theorem number_ok {t : ByteArray} {st : RSt} {s most : Int} (hm : mostI s = most) (hs : s = 3 ∨ s = 4 ∨ s = 5) (h : (numberR t st most).2.1 = true) :
    ∃ p e, Piece t st (numberR t st most).2.2 [p] [p] [s] e ∧ 0 ≤ numL (bytesOf t p) ∧ (numberR t st most).1 = numL (bytesOf t p) ∧ (numberR t st most).2.2.fl = st.fl ∧ e.f5 = none ∧ (e.f3 = none → 1 ≤ numL (bytesOf t p) ∧ numL (bytesOf t p) ≤ most) ∧
      ∀ r els nx ns ss, outF t st.us ⟨s :: r, els, nx, ns, ss⟩ = outF t (numberR t st most).2.2.us ⟨r, els, nx, ns ++ [p], ss ++ [s]⟩ := by
  by_cases hb : nB (bytesR t st) = true
  · have h0 : 0 ≤ numL (bytesR t st) := by unfold nB at hb; exact of_decide_eq_true hb
    obtain ⟨p, r, hu⟩ := us_cons (t := t) (st := st) (by intro e; rw [e] at h0; exact absurd h0 (by decide))
    have hby := bytesR_cons (t := t) hu
    have hv : nV (bytesR t st) = numL (bytesOf t p) := by unfold nV; rw [if_pos h0, hby]
    rw [hby] at h0
    have hE : numberR t st most = (numL (bytesOf t p), true, advR (if numL (bytesOf t p) < 1 ∨ most < numL (bytesOf t p) then noteR st 3 (atR t st.us : Nat) else st)) := by
      unfold numberR; rw [if_pos hb, hv]
    have hat : (atR t st.us : Nat) = p.1 := by rw [hu]; rfl
    rw [hE, hat]
    have hacc : ∀ r' els nx ns ss, outF t st.us ⟨s :: r', els, nx, ns, ss⟩ = outF t r ⟨r', els, nx, ns ++ [p], ss ++ [s]⟩ := by
      intro r' els nx ns ss
      rw [hu, outF_cons, read_num _ _ hs, if_pos (decide_eq_true h0)]
    by_cases hbad : numL (bytesOf t p) < 1 ∨ most < numL (bytesOf t p)
    · rw [if_pos hbad]
      obtain ⟨k1, k2, k3, k4⟩ := noteR_keeps st 3 (p.1 : Nat)
      refine ⟨p, ev3 p.1, ⟨?_, rfl, ?_, ?_, ?_, ?_, k1, k2⟩, h0, rfl, k3, rfl, ?_, ?_⟩
      · show st.us = [p] ++ (noteR st 3 (p.1 : Nat)).us.tail; rw [k4, hu]; rfl
      · exact fun g hg => hg.note3 _
      · show some (p.1 : Int) = ((badO t p s).or (numsO t [] [])); rw [badO, hm, if_pos hbad]; rfl
      · exact (deepO_plain _ (num_plain h0)).symm
      · intro n; rw [dpt, openB_other n (num_plain h0)]; rfl
      · intro e; cases e
      · intro r' els nx ns ss; rw [hacc]; show _ = outF t (noteR st 3 (p.1 : Nat)).us.tail _; rw [k4, hu]; rfl
    · rw [if_neg hbad]
      refine ⟨p, Gh.nil, ⟨?_, rfl, Ev.same rfl rfl, ?_, ?_, ?_, rfl, rfl⟩, h0, rfl, rfl, rfl, fun _ => by omega, ?_⟩
      · show st.us = [p] ++ st.us.tail; rw [hu]; rfl
      · show none = ((badO t p s).or (numsO t [] [])); rw [badO, hm, if_neg hbad]; rfl
      · exact (deepO_plain _ (num_plain h0)).symm
      · intro n; rw [dpt, openB_other n (num_plain h0)]; rfl
      · intro r' els nx ns ss; rw [hacc]; show _ = outF t st.us.tail _; rw [hu]; rfl
  · unfold numberR at h; rw [if_neg hb] at h; exact absurd h (by simp)
theorem number_no {t : ByteArray} {st : RSt} {s most : Int} (hs : s = 3 ∨ s = 4 ∨ s = 5) (h : (numberR t st most).2.1 = false) :
    ∀ r els nx ns ss, outF t st.us ⟨s :: r, els, nx, ns, ss⟩ = .inl (atR t (numberR t st most).2.2.us) := by
  intro r els nx ns ss
  by_cases hb : nB (bytesR t st) = true
  · unfold numberR at h; rw [if_pos hb] at h; exact absurd h (by simp)
  · have hE : numberR t st most = (0, false, st) := by unfold numberR; rw [if_neg hb]
    rw [hE]
    cases hu : st.us with
    | nil => rw [outF_nil, if_pos (Or.inr (by simp; omega))]; rfl
    | cons p q =>
      have h0 : ¬ 0 ≤ numL (bytesOf t p) := by rw [← bytesR_cons hu]; unfold nB at hb; simpa using hb
      rw [outF_cons, read_num _ _ hs, if_neg (by simpa using h0)]; rfl
theorem key_ok {t : ByteArray} {st : RSt} {k : Int} (hk : k = 1 ∨ k = 4 ∨ k = 5) (h : (keyR t st k).2.1 = true) :
    ∃ p, Piece t st (keyR t st k).2.2 [p] [] [] Gh.nil ∧ 0 ≤ keyL (bytesOf t p) ∧ (keyR t st k).1 = keyL (bytesOf t p) ∧ (keyR t st k).2.2.fl = st.fl ∧
      ∀ r els nx ns ss, outF t st.us ⟨2 :: r, els, nx, ns, ss⟩ = outF t (keyR t st k).2.2.us ⟨r, els, nx, ns, ss⟩ := by
  have hE : keyR t st k = (kV (bytesR t st), kB (bytesR t st), if kB (bytesR t st) then advR st else st) := by unfold keyR; rw [if_pos hk]
  rw [hE] at h ⊢
  have hb : kB (bytesR t st) = true := h
  have h0 : 0 ≤ keyL (bytesR t st) := by unfold kB at hb; exact of_decide_eq_true hb
  obtain ⟨p, r, hu⟩ := us_cons (t := t) (st := st) (by intro e; rw [e] at h0; exact absurd h0 (by decide))
  have hby := bytesR_cons (t := t) hu
  have hv : kV (bytesR t st) = keyL (bytesOf t p) := by unfold kV; rw [if_pos h0, hby]
  rw [hby] at h0
  simp only [hb, if_true]
  refine ⟨p, Piece.word hu (key_plain h0), h0, hv, rfl, ?_⟩
  intro r' els nx ns ss
  rw [hu, outF_cons, read_key, if_pos (decide_eq_true h0)]; show _ = outF t st.us.tail _; rw [hu]; rfl
theorem key_no {t : ByteArray} {st : RSt} {k : Int} (hk : k = 1 ∨ k = 4 ∨ k = 5) (h : (keyR t st k).2.1 = false) :
    ∀ r els nx ns ss, outF t st.us ⟨2 :: r, els, nx, ns, ss⟩ = .inl (atR t (keyR t st k).2.2.us) := by
  intro r els nx ns ss
  have hE : keyR t st k = (kV (bytesR t st), kB (bytesR t st), if kB (bytesR t st) then advR st else st) := by unfold keyR; rw [if_pos hk]
  rw [hE] at h ⊢
  have hb : kB (bytesR t st) = false := h
  simp only [hb]
  show _ = Sum.inl (atR t st.us)
  cases hu : st.us with
  | nil => rw [outF_nil, if_pos (Or.inr (by simp))]; rfl
  | cons p q =>
    have h0 : ¬ 0 ≤ keyL (bytesOf t p) := by rw [← bytesR_cons hu]; unfold kB at hb; simpa using hb
    rw [outF_cons, read_key, if_neg (by simpa using h0)]; rfl
/-- The first repeat that is too much, in one statement. -/
def hv1 (t : ByteArray) {T : Type} (sub : T → Int → Option Int) (x : Hd × T × T) (n : Int) : Option Int :=
  if bytesOf t x.1.p = kRepeat then
    (if 64 < n * x.1.n then some (x.1.p.1 : Int) else (sub x.2.1 (n * x.1.n)).or (sub x.2.2 (n * x.1.n)))
  else (sub x.2.1 n).or (sub x.2.2 n)
def hvL (t : ByteArray) {T : Type} (sub : T → Int → Option Int) : List (Hd × T × T) → Int → Option Int
  | [], _ => none
  | x :: r, n => (hv1 t sub x n).or (hvL t sub r n)
def hvT (t : ByteArray) : (d : Nat) → Tree d → Int → Option Int
  | 0, _, _ => none
  | d + 1, l, n => hvL t (hvT t d) l n
theorem hv_step {a b : Int} {x y : Option Int} {c : Int} {z : Option Int} (h1 : a = x.getD (-1)) (p1 : ∀ p, x = some p → 0 ≤ p) (h2 : b = y.getD (-1)) (p2 : ∀ p, y = some p → 0 ≤ p) (h3 : c = z.getD (-1)) :
    (if 0 ≤ a then a else if 0 ≤ b then b else c) = ((x.or y).or z).getD (-1) := by
  subst h1 h2 h3
  cases x with
  | some p => have := p1 p rfl; simp [this]
  | none =>
    cases y with
    | some p => have := p2 p rfl; simp [this]
    | none => simp
theorem hvT_spec (t : ByteArray) : ∀ (d : Nat) (tr : Tree d) (n : Int), heavyT t d tr n = (hvT t d tr n).getD (-1) ∧ ∀ p, hvT t d tr n = some p → 0 ≤ p := by
  intro d
  induction d with
  | zero => intro tr n; exact ⟨rfl, fun p h => by cases h⟩
  | succ d ih =>
    intro tr n
    have key : ∀ (l : List (Hd × Tree d × Tree d)) (n : Int), heavyL t (heavyT t d) l n = (hvL t (hvT t d) l n).getD (-1) ∧ ∀ p, hvL t (hvT t d) l n = some p → 0 ≤ p := by
      intro l
      induction l with
      | nil => intro n; exact ⟨rfl, fun p h => by cases h⟩
      | cons x r ihr =>
        intro n
        rw [heavyL, hvL, hv1]
        by_cases hr : bytesOf t x.1.p = kRepeat
        · rw [if_pos hr, if_pos hr]
          by_cases h6 : 64 < n * x.1.n
          · rw [if_pos h6, if_pos h6]
            exact ⟨rfl, fun p h => by simp at h; omega⟩
          · rw [if_neg h6, if_neg h6]
            obtain ⟨a1, a2⟩ := ih x.2.1 (n * x.1.n)
            obtain ⟨b1, b2⟩ := ih x.2.2 (n * x.1.n)
            obtain ⟨c1, c2⟩ := ihr n
            refine ⟨hv_step a1 a2 b1 b2 c1, fun p h => ?_⟩
            rw [Option.or_eq_some_iff, Option.or_eq_some_iff] at h
            rcases h with (h | h) | h
            · exact a2 p h
            · exact b2 p h.2
            · exact c2 p h.2
        · rw [if_neg hr, if_neg hr]
          obtain ⟨a1, a2⟩ := ih x.2.1 n
          obtain ⟨b1, b2⟩ := ih x.2.2 n
          obtain ⟨c1, c2⟩ := ihr n
          refine ⟨hv_step a1 a2 b1 b2 c1, fun p h => ?_⟩
          rw [Option.or_eq_some_iff, Option.or_eq_some_iff] at h
          rcases h with (h | h) | h
          · exact a2 p h
          · exact b2 p h.2
          · exact c2 p h.2
    exact key tr n
/-- Reading a block went well: what it spells. -/
def BlkYes (t : ByteArray) (st st' : RSt) (behind : List UInt8) : Prop :=
  ∃ ws a b e, Piece t st st' ws a b e ∧ bytesR t st' = behind ∧
    (∀ els nx ns ss, ∃ nx', outF t st.us ⟨[0], els, nx, ns, ss⟩ = outF t st'.us ⟨[0], els, nx', ns ++ a, ss ++ b⟩) ∧
    (e.f4 = none → ∀ d : Nat, (d : Int) + 1 + st.deep = 5 → ∃ tr : Tree (d + 1), GT t (d + 1) ws tr ∧ st'.fl = st.fl ++ flatT t (d + 1) tr ∧
      (e.f3 = none → GoodT t (d + 1) tr ∧ (st.heavy ≤ 64 → e.f5 = hvT t (d + 1) tr st.heavy)))
def BlkIs (t : ByteArray) (blk : RSt → Bool × RSt) (n : Nat) : Prop := ∀ st, st.us.length < n →
  ((blk st).1 = true → BlkYes t st (blk st).2 kShut) ∧
  ((blk st).1 = false → ∀ els nx ns ss, els ≠ [] → outF t st.us ⟨[0], els, nx, ns, ss⟩ = .inl (atR t (blk st).2.us))
def BracedYes (t : ByteArray) (st st' : RSt) (cnt : Nat) : Prop :=
  ∃ o wa c a b e, Piece t st st' (o :: (wa ++ [c])) a b e ∧ bytesOf t o = kOpen ∧ bytesOf t c = kShut ∧
    (∀ els nx ns ss, ∃ nx', outF t st.us ⟨[6], els, nx, ns, ss⟩ = outF t st'.us ⟨if nx then [1] else [0], els, nx', ns ++ a, ss ++ b⟩) ∧
    (e.f4 = none → ∀ d : Nat, (d : Int) + 1 + st.deep = 5 → ∃ tr : Tree d, GT t d wa tr ∧ st'.fl = st.fl ++ flatT t d tr ∧ cnt = (flatT t d tr).length ∧
      (e.f3 = none → GoodT t d tr ∧ (st.heavy ≤ 64 → e.f5 = hvT t d tr st.heavy)))
theorem read_brace (w : List UInt8) (p : Nat × Nat) (els : List Bool) (nx : Bool) (ns : List (Nat × Nat)) (ss : List Int) :
    readF w p ⟨[6], els, nx, ns, ss⟩ = (⟨[0], nx :: els, nx, ns, ss⟩, w == kOpen) := rfl
theorem read_shut (p : Nat × Nat) (els : List Bool) (e nx : Bool) (ns : List (Nat × Nat)) (ss : List Int) :
    readF kShut p ⟨[0], e :: els, nx, ns, ss⟩ = (⟨if e then [1] else [0], els, nx, ns, ss⟩, true) := rfl
theorem read_else (p : Nat × Nat) (els : List Bool) (nx : Bool) (ns : List (Nat × Nat)) (ss : List Int) :
    readF kElse p ⟨[1], els, nx, ns, ss⟩ = (⟨[6], els, false, ns, ss⟩, true) := rfl
/-- What the brace itself brings. -/
theorem brace_note (t : ByteArray) (st : RSt) : ∃ st1 e0, st1 = (if 4 ≤ st.deep then noteR st 4 (atR t st.us : Nat) else st) ∧ Ev st st1 e0 ∧ e0.f3 = none ∧ e0.f5 = none ∧ e0.f4 = (if 4 ≤ st.deep then some (atR t st.us : Int) else none) ∧
    st1.us = st.us ∧ st1.fl = st.fl ∧ st1.deep = st.deep ∧ st1.heavy = st.heavy := by
  by_cases h : 4 ≤ st.deep
  · obtain ⟨k1, k2, k3, k4⟩ := noteR_keeps st 4 (atR t st.us : Nat)
    refine ⟨noteR st 4 (atR t st.us : Nat), ev4 (atR t st.us : Nat), (if_pos h).symm, fun g hg => hg.note4 _, rfl, rfl, ?_, k4, k3, k1, k2⟩
    rw [if_pos h]; rfl
  · refine ⟨st, Gh.nil, (if_neg h).symm, Ev.same rfl rfl, rfl, rfl, ?_, rfl, rfl, rfl, rfl⟩
    rw [if_neg h]; rfl
theorem bracedR_eq {t : ByteArray} {blk : RSt → Bool × RSt} {st : RSt} (h : bytesR t st = kOpen) {st1 : RSt} (h1 : st1 = (if 4 ≤ st.deep then noteR st 4 (atR t st.us : Nat) else st)) :
    bracedR t blk st = if (blk (advR { st1 with deep := st1.deep + 1 })).1 then ((blk (advR { st1 with deep := st1.deep + 1 })).2.fl.length - st.fl.length, true, advR { (blk (advR { st1 with deep := st1.deep + 1 })).2 with deep := (blk (advR { st1 with deep := st1.deep + 1 })).2.deep - 1 }) else (0, false, (blk (advR { st1 with deep := st1.deep + 1 })).2) := by
  unfold bracedR
  rw [if_neg (by rw [h]; simp), h1]
theorem braced_ok {t : ByteArray} {blk : RSt → Bool × RSt} {n : Nat} (hblk : BlkIs t blk n) {st : RSt} (hn : st.us.length ≤ n) (h : (bracedR t blk st).2.1 = true) :
    BracedYes t st (bracedR t blk st).2.2 (bracedR t blk st).1 := by
  by_cases ho : bytesR t st = kOpen
  · obtain ⟨st1, e0, h1, hev, z3, z5, z4, k1, k2, k3, k4⟩ := brace_note t st
    rw [bracedR_eq ho h1] at h ⊢
    obtain ⟨o, r, hu⟩ := us_cons (t := t) (st := st) (by rw [ho]; decide)
    have hby : bytesOf t o = kOpen := by rw [← bytesR_cons hu]; exact ho
    have hat : (atR t st.us : Int) = (o.1 : Int) := by rw [hu]; rfl
    obtain ⟨sb, hsb⟩ : ∃ sb, sb = advR { st1 with deep := st1.deep + 1 } := ⟨_, rfl⟩
    rw [← hsb] at h ⊢
    have u1 : sb.us = r := by rw [hsb]; show st1.us.tail = r; rw [k1, hu]; rfl
    have u2 : sb.deep = st.deep + 1 := by rw [hsb]; show st1.deep + 1 = _; rw [k3]
    have u3 : sb.heavy = st.heavy := by rw [hsb]; exact k4
    have u4 : sb.fl = st.fl := by rw [hsb]; exact k2
    have u5 : Ev st sb e0 := by
      have := hev.trans (Ev.same (a := st1) (b := sb) (by rw [hsb]; rfl) (by rw [hsb]; rfl))
      rwa [Gh.add_nil] at this
    cases hr : (blk sb).1 with
    | false => rw [hr] at h; exact absurd h (by simp)
    | true =>
      rw [if_pos rfl]
      obtain ⟨ws, a, b, e, hp, hbeh, hacc, htree⟩ := (hblk sb (by rw [u1]; rw [hu] at hn; simp at hn; omega)).1 hr
      obtain ⟨c, q, hc⟩ := us_cons (t := t) (st := (blk sb).2) (by rw [hbeh]; decide)
      have hcb : bytesOf t c = kShut := by rw [← bytesR_cons hc]; exact hbeh
      have hdc : ∀ m, deepO t [c] m = none := fun m => by rw [deepO, hcb]; rfl
      refine ⟨o, ws, c, a, b, e0.add e, ⟨?_, hp.len, ?_, ?_, ?_, ?_, ?_, ?_⟩, hby, hcb, ?_, ?_⟩
      · show st.us = o :: (ws ++ [c]) ++ (blk sb).2.us.tail
        rw [hu, hc, ← u1, hp.us, hc]; simp
      · have := (u5.trans hp.ev).trans (Ev.same (a := (blk sb).2) (b := advR { (blk sb).2 with deep := (blk sb).2.deep - 1 }) rfl rfl)
        rwa [Gh.add_nil] at this
      · show e0.f3.or e.f3 = _; rw [z3, hp.e3]; rfl
      · show e0.f4.or e.f4 = _
        have hd1 : deepO t (o :: (ws ++ [c])) st.deep = if 4 < st.deep + 1 then some (o.1 : Int) else deepO t (ws ++ [c]) (st.deep + 1) := by rw [deepO]; exact if_pos hby
        rw [z4, hd1, deepO_append, hdc, hp.e4, u2, hat]
        by_cases h4 : 4 ≤ st.deep
        · rw [if_pos h4, if_pos (by omega)]; rfl
        · rw [if_neg h4, if_neg (by omega)]; simp
      · intro m
        rw [dpt, openB_open m hby, dpt_append, hp.dp, dpt, openB_shut _ hcb, dpt]; omega
      · show (blk sb).2.deep - 1 = _; rw [hp.deep, u2]; omega
      · show (blk sb).2.heavy = _; rw [hp.heavy, u3]
      · intro els nx ns ss
        obtain ⟨nx', hx⟩ := hacc (nx :: els) nx ns ss
        refine ⟨nx', ?_⟩
        rw [hu, outF_cons, read_brace, if_pos (by rw [hby]; rfl), ← u1, hx, hc, outF_cons, hcb, read_shut, if_pos rfl]
        show _ = outF t (blk sb).2.us.tail _
        rw [hc]; rfl
      · intro h4 d hd
        have h40 : ¬ 4 ≤ st.deep := by
          intro hh
          have : (e0.add e).f4 = some (atR t st.us : Int) := by show e0.f4.or e.f4 = _; rw [z4, if_pos hh]; rfl
          rw [this] at h4; cases h4
        have h41 : e.f4 = none := by
          have : (e0.add e).f4 = e.f4 := by show e0.f4.or e.f4 = _; rw [z4, if_neg h40]; rfl
          rw [← this]; exact h4
        cases d with
        | zero => exfalso; apply h40; omega
        | succ d =>
          obtain ⟨tr, g1, g2, g3⟩ := htree h41 d (by rw [u2]; push_cast at hd; omega)
          refine ⟨tr, g1, ?_, ?_, ?_⟩
          · show (blk sb).2.fl = _; rw [g2, u4]
          · show (blk sb).2.fl.length - st.fl.length = _; rw [g2, u4, List.length_append]; omega
          · intro h3
            have h31 : e.f3 = none := by
              have : (e0.add e).f3 = e.f3 := by show e0.f3.or e.f3 = _; rw [z3]; rfl
              rw [← this]; exact h3
            obtain ⟨g4, g5⟩ := g3 h31
            refine ⟨g4, fun hh => ?_⟩
            show e0.f5.or e.f5 = _
            rw [z5, g5 (by rw [u3]; exact hh), u3]; rfl
  · unfold bracedR at h; rw [if_pos ho] at h; exact absurd h (by simp)
theorem braced_no {t : ByteArray} {blk : RSt → Bool × RSt} {n : Nat} (hblk : BlkIs t blk n) {st : RSt} (hn : st.us.length ≤ n) (h : (bracedR t blk st).2.1 = false) :
    ∀ els nx ns ss, outF t st.us ⟨[6], els, nx, ns, ss⟩ = .inl (atR t (bracedR t blk st).2.2.us) := by
  intro els nx ns ss
  by_cases ho : bytesR t st = kOpen
  · obtain ⟨st1, e0, h1, _, _, _, _, k1, _, _, _⟩ := brace_note t st
    rw [bracedR_eq ho h1] at h ⊢
    obtain ⟨o, r, hu⟩ := us_cons (t := t) (st := st) (by rw [ho]; decide)
    have hby : bytesOf t o = kOpen := by rw [← bytesR_cons hu]; exact ho
    obtain ⟨sb, hsb⟩ : ∃ sb, sb = advR { st1 with deep := st1.deep + 1 } := ⟨_, rfl⟩
    rw [← hsb] at h ⊢
    have u1 : sb.us = r := by rw [hsb]; show st1.us.tail = r; rw [k1, hu]; rfl
    cases hr : (blk sb).1 with
    | true => rw [hr] at h; exact absurd h (by simp)
    | false =>
      rw [if_neg (by simp)]
      have := (hblk sb (by rw [u1]; rw [hu] at hn; simp at hn; omega)).2 hr (nx :: els) nx ns ss (by simp)
      rw [hu, outF_cons, read_brace, if_pos (by rw [hby]; rfl), ← u1, this]
  · have hE : bracedR t blk st = (0, false, st) := by unfold bracedR; rw [if_pos ho]
    rw [hE]
    cases hu : st.us with
    | nil => rw [outF_nil, if_pos (Or.inr (by simp))]; rfl
    | cons p q =>
      have hby : ¬ bytesOf t p = kOpen := by rw [← bytesR_cons hu]; exact ho
      rw [outF_cons, read_brace, if_neg (by simpa using hby)]; rfl
theorem first10 {s : List UInt8} (h : ¬ s = kElse) (els : List Bool) (nx : Bool) (ns : List (Nat × Nat)) (ss : List Int) :
    (firstF s 1 ⟨[1], els, nx, ns, ss⟩).2 = (firstF s 0 ⟨[0], els, nx, ns, ss⟩).2 ∧
      ((firstF s 0 ⟨[0], els, nx, ns, ss⟩).2 = true → (firstF s 1 ⟨[1], els, nx, ns, ss⟩).1 = (firstF s 0 ⟨[0], els, nx, ns, ss⟩).1) := by
  by_cases h1 : s = kSend
  · subst h1; exact ⟨rfl, fun _ => rfl⟩
  by_cases h2 : s = kWait
  · subst h2; exact ⟨rfl, fun _ => rfl⟩
  by_cases h3 : s = kStop
  · subst h3; exact ⟨rfl, fun _ => rfl⟩
  by_cases h4 : s = kAsk
  · subst h4; exact ⟨rfl, fun _ => rfl⟩
  by_cases h5 : s = kRetry
  · subst h5; exact ⟨rfl, fun _ => rfl⟩
  by_cases h6 : s = kRepeat
  · subst h6; exact ⟨rfl, fun _ => rfl⟩
  by_cases h7 : s = kShut
  · subst h7
    cases els with
    | nil => exact ⟨rfl, fun h => by cases h⟩
    | cons e r => exact ⟨rfl, fun _ => rfl⟩
  · have e : ∀ m st, firstF s m st = (st, false) := by
      intro m st; unfold firstF; rw [if_neg h1, if_neg h2, if_neg h3, if_neg h4, if_neg h5, if_neg h6, if_neg h, if_neg h7]
    rw [e, e]; exact ⟨rfl, fun h => by cases h⟩
/-- Where no else follows, it counts for nothing whether one may. -/
theorem mode10 {t : ByteArray} {st : RSt} (h : ¬ bytesR t st = kElse) (els : List Bool) (nx : Bool) (ns : List (Nat × Nat)) (ss : List Int) :
    outF t st.us ⟨[1], els, nx, ns, ss⟩ = outF t st.us ⟨[0], els, nx, ns, ss⟩ := by
  cases hu : st.us with
  | nil =>
    rw [outF_nil, outF_nil]
    by_cases h0 : 0 < els.length
    · rw [if_pos (Or.inl h0), if_pos (Or.inl h0)]
    · rw [if_neg (fun h => h.elim h0 (fun h => absurd h (by show ¬ ((1 : Int) < 1); omega))), if_neg (fun h => h.elim h0 (fun h => absurd h (by show ¬ ((1 : Int) < 0); omega)))]
  | cons p q =>
    rw [bytesR_cons hu] at h
    obtain ⟨h1, h2⟩ := first10 h els nx ns ss
    rw [outF_cons, outF_cons]
    have e1 : readF (bytesOf t p) p ⟨[1], els, nx, ns, ss⟩ = firstF (bytesOf t p) 1 ⟨[1], els, nx, ns, ss⟩ := rfl
    have e0 : readF (bytesOf t p) p ⟨[0], els, nx, ns, ss⟩ = firstF (bytesOf t p) 0 ⟨[0], els, nx, ns, ss⟩ := rfl
    rw [e1, e0, h1]
    by_cases hb : (firstF (bytesOf t p) 0 ⟨[0], els, nx, ns, ss⟩).2 = true
    · rw [if_pos hb, if_pos hb, h2 hb]
    · rw [if_neg hb, if_neg hb]
theorem modify_at {α : Type} (f : α → α) : ∀ (a : List α) (x : α) (b : List α), (a ++ x :: b).modify a.length f = a ++ f x :: b := by
  intro a
  induction a with
  | nil => intro x b; rfl
  | cons y r ih => intro x b; rw [List.cons_append, List.length_cons, List.modify_succ_cons, ih]; rfl
theorem nilT_flat (t : ByteArray) (d : Nat) : flatT t d (nilT d) = [] := by cases d <;> rfl
theorem nilT_good (t : ByteArray) (d : Nat) : GoodT t d (nilT d) := by
  cases d with
  | zero => trivial
  | succ d => intro x hx; exact absurd hx (by simp [Tree.list, nilT])
theorem nilT_hv (t : ByteArray) (d : Nat) (n : Int) : hvT t d (nilT d) n = none := by cases d <;> rfl
/-- The words of one block, or of two with else between. -/
def BR (t : ByteArray) (d : Nat) (wb : List (Nat × Nat)) (x y : Tree d) : Prop :=
  (∃ o wa c, wb = o :: (wa ++ [c]) ∧ bytesOf t o = kOpen ∧ bytesOf t c = kShut ∧ GT t d wa x ∧ y = nilT d) ∨
  (∃ o wa c e o2 wa2 c2, wb = o :: (wa ++ c :: e :: o2 :: (wa2 ++ [c2])) ∧ bytesOf t o = kOpen ∧ bytesOf t c = kShut ∧ bytesOf t e = kElse ∧ bytesOf t o2 = kOpen ∧ bytesOf t c2 = kShut ∧ GT t d wa x ∧ GT t d wa2 y)
theorem or_none {a b : Option Int} (h : a.or b = none) : a = none ∧ b = none := by
  cases a with
  | some p => cases h
  | none => exact ⟨rfl, by simpa using h⟩
theorem branches_ok {t : ByteArray} {blk : RSt → Bool × RSt} {n : Nat} (hblk : BlkIs t blk n) {st : RSt} {fl0 : List Nd} {nd : Nd} (hfl : st.fl = fl0 ++ [nd]) (hel : nd.els = 0) (hn : st.us.length ≤ n) (h : (branchesR t blk st fl0.length).1 = true) :
    ∃ wb a b e, Piece t st (branchesR t blk st fl0.length).2 wb a b e ∧ (∀ els ns ss, ∃ nx', outF t st.us ⟨[6], els, true, ns, ss⟩ = outF t (branchesR t blk st fl0.length).2.us ⟨[0], els, nx', ns ++ a, ss ++ b⟩) ∧
      (e.f4 = none → ∀ d : Nat, (d : Int) + 1 + st.deep = 5 → ∃ x y : Tree d, BR t d wb x y ∧ (branchesR t blk st fl0.length).2.fl = fl0 ++ { nd with body := (flatT t d x).length, els := (flatT t d y).length } :: (flatT t d x ++ flatT t d y) ∧
        (e.f3 = none → GoodT t d x ∧ GoodT t d y ∧ (st.heavy ≤ 64 → e.f5 = (hvT t d x st.heavy).or (hvT t d y st.heavy)))) := by
  obtain ⟨A, hA⟩ : ∃ A, A = bracedR t blk st := ⟨_, rfl⟩
  have hE : branchesR t blk st fl0.length = if A.2.1 then (if bytesR t { A.2.2 with fl := setBody A.2.2.fl fl0.length A.1 } = kElse then ((bracedR t blk (advR { A.2.2 with fl := setBody A.2.2.fl fl0.length A.1 })).2.1, { (bracedR t blk (advR { A.2.2 with fl := setBody A.2.2.fl fl0.length A.1 })).2.2 with fl := setEls (bracedR t blk (advR { A.2.2 with fl := setBody A.2.2.fl fl0.length A.1 })).2.2.fl fl0.length (bracedR t blk (advR { A.2.2 with fl := setBody A.2.2.fl fl0.length A.1 })).1 }) else (true, { A.2.2 with fl := setBody A.2.2.fl fl0.length A.1 })) else (false, A.2.2) := by
    rw [hA]; rfl
  rw [hE] at h ⊢
  cases hA1 : A.2.1 with
  | false => rw [hA1] at h; exact absurd h (by simp)
  | true =>
    rw [hA1] at h
    simp only [if_true] at h ⊢
    have hb := braced_ok hblk hn (by rw [← hA]; exact hA1)
    rw [← hA] at hb
    obtain ⟨o, wa, c, a, b, e, hp, hby, hcb, hacc, htree⟩ := hb
    obtain ⟨s1, hs1⟩ : ∃ s1, s1 = { A.2.2 with fl := setBody A.2.2.fl fl0.length A.1 } := ⟨_, rfl⟩
    rw [← hs1] at h ⊢
    have hp1 : Piece t st s1 (o :: (wa ++ [c])) a b e := by rw [hs1]; exact hp.fl st.fl _
    have hus : s1.us = A.2.2.us := by rw [hs1]
    by_cases he : bytesR t s1 = kElse
    · rw [if_pos he] at h ⊢
      obtain ⟨w, q, hw⟩ := us_cons (t := t) (st := s1) (by rw [he]; decide)
      have hwb : bytesOf t w = kElse := by rw [← bytesR_cons hw]; exact he
      have hp2 := hp1.trans (Piece.word hw (plain_else hwb))
      have hlen : (advR s1).us.length ≤ n := by
        have := hp2.us
        have h2 := congrArg List.length this
        rw [List.length_append] at h2
        omega
      have hb2 := braced_ok hblk hlen h
      obtain ⟨o2, wa2, c2, a2, b2, e2, hq, hby2, hcb2, hacc2, htree2⟩ := hb2
      have hp3 := hp2.trans hq
      refine ⟨_, _, _, _, (hp3.fl st.fl _), ?_, ?_⟩
      · intro els ns ss
        obtain ⟨nx1, x1⟩ := hacc els true ns ss
        obtain ⟨nx2, x2⟩ := hacc2 els false (ns ++ a) (ss ++ b)
        refine ⟨nx2, ?_⟩
        rw [x1, ← hus, hw, if_pos rfl, outF_cons, hwb, read_else, if_pos rfl]
        have hq2 : (advR s1).us = q := by show s1.us.tail = q; rw [hw]; rfl
        rw [← hq2, x2]
        simp
      · intro h4 d hd
        have h4' : (e.f4.or none).or e2.f4 = none := h4
        obtain ⟨h41, h42⟩ := or_none h4'
        obtain ⟨h41, _⟩ := or_none h41
        obtain ⟨x, g1, g2, g3, g4⟩ := htree h41 d hd
        have hd2 : (advR s1).deep = st.deep := hp2.deep
        have hh2 : (advR s1).heavy = st.heavy := hp2.heavy
        obtain ⟨y, k1, k2, k3, k4⟩ := htree2 h42 d (by rw [hd2]; exact hd)
        refine ⟨x, y, Or.inr ⟨o, wa, c, w, o2, wa2, c2, by simp, hby, hcb, hwb, hby2, hcb2, g1, k1⟩, ?_, ?_⟩
        · show setEls _ fl0.length _ = _
          rw [k2, k3]
          have f1 : (advR s1).fl = fl0 ++ { nd with body := (flatT t d x).length } :: flatT t d x := by
            show s1.fl = _
            rw [hs1]
            show setBody A.2.2.fl fl0.length A.1 = _
            rw [g2, hfl, g3, List.append_assoc]
            exact modify_at _ fl0 nd _
          rw [f1, List.append_assoc]
          exact modify_at _ fl0 _ _
        · intro h3
          have h3' : (e.f3.or none).or e2.f3 = none := h3
          obtain ⟨h31, h32⟩ := or_none h3'
          obtain ⟨h31, _⟩ := or_none h31
          obtain ⟨g5, g6⟩ := g4 h31
          obtain ⟨k5, k6⟩ := k4 h32
          refine ⟨g5, k5, fun hh => ?_⟩
          show (e.f5.or none).or e2.f5 = _
          rw [g6 hh, k6 (by rw [hh2]; exact hh), hh2]; simp
    · rw [if_neg he] at h ⊢
      refine ⟨_, _, _, _, hp1, ?_, ?_⟩
      · intro els ns ss
        obtain ⟨nx1, x1⟩ := hacc els true ns ss
        refine ⟨nx1, ?_⟩
        rw [x1, ← hus, if_pos rfl]
        exact mode10 he _ _ _ _
      · intro h4 d hd
        obtain ⟨x, g1, g2, g3, g4⟩ := htree h4 d hd
        refine ⟨x, nilT d, Or.inl ⟨o, wa, c, rfl, hby, hcb, g1, rfl⟩, ?_, ?_⟩
        · show s1.fl = _
          rw [hs1, nilT_flat]
          show setBody A.2.2.fl fl0.length A.1 = _
          rw [g2, hfl, g3, List.append_assoc, List.append_nil]
          refine (modify_at _ fl0 nd _).trans ?_
          simp [hel]
        · intro h3
          obtain ⟨g5, g6⟩ := g4 h3
          refine ⟨g5, nilT_good t d, fun hh => ?_⟩
          rw [g6 hh, nilT_hv]; simp
theorem branches_no {t : ByteArray} {blk : RSt → Bool × RSt} {n : Nat} (hblk : BlkIs t blk n) {st : RSt} {i : Nat} (hn : st.us.length ≤ n) (h : (branchesR t blk st i).1 = false) :
    ∀ els ns ss, outF t st.us ⟨[6], els, true, ns, ss⟩ = .inl (atR t (branchesR t blk st i).2.us) := by
  intro els ns ss
  obtain ⟨A, hA⟩ : ∃ A, A = bracedR t blk st := ⟨_, rfl⟩
  have hE : branchesR t blk st i = if A.2.1 then (if bytesR t { A.2.2 with fl := setBody A.2.2.fl i A.1 } = kElse then ((bracedR t blk (advR { A.2.2 with fl := setBody A.2.2.fl i A.1 })).2.1, { (bracedR t blk (advR { A.2.2 with fl := setBody A.2.2.fl i A.1 })).2.2 with fl := setEls (bracedR t blk (advR { A.2.2 with fl := setBody A.2.2.fl i A.1 })).2.2.fl i (bracedR t blk (advR { A.2.2 with fl := setBody A.2.2.fl i A.1 })).1 }) else (true, { A.2.2 with fl := setBody A.2.2.fl i A.1 })) else (false, A.2.2) := by
    rw [hA]; rfl
  rw [hE] at h ⊢
  cases hA1 : A.2.1 with
  | false =>
    rw [if_neg (by simp)]
    have := braced_no hblk hn (by rw [← hA]; exact hA1) els true ns ss
    rw [← hA] at this
    exact this
  | true =>
    rw [hA1] at h
    simp only [if_true] at h ⊢
    have hb := braced_ok hblk hn (by rw [← hA]; exact hA1)
    rw [← hA] at hb
    obtain ⟨o, wa, c, a, b, e, hp, hby, hcb, hacc, htree⟩ := hb
    obtain ⟨s1, hs1⟩ : ∃ s1, s1 = { A.2.2 with fl := setBody A.2.2.fl i A.1 } := ⟨_, rfl⟩
    rw [← hs1] at h ⊢
    have hp1 : Piece t st s1 (o :: (wa ++ [c])) a b e := by rw [hs1]; exact hp.fl st.fl _
    have hus : s1.us = A.2.2.us := by rw [hs1]
    by_cases he : bytesR t s1 = kElse
    · rw [if_pos he] at h ⊢
      obtain ⟨w, q, hw⟩ := us_cons (t := t) (st := s1) (by rw [he]; decide)
      have hwb : bytesOf t w = kElse := by rw [← bytesR_cons hw]; exact he
      have hp2 := hp1.trans (Piece.word hw (plain_else hwb))
      have hlen : (advR s1).us.length ≤ n := by
        have := hp2.us
        have h2 := congrArg List.length this
        rw [List.length_append] at h2
        omega
      have hb2 := braced_no hblk hlen h els false (ns ++ a) (ss ++ b)
      obtain ⟨nx1, x1⟩ := hacc els true ns ss
      rw [x1, ← hus, hw, if_pos rfl, outF_cons, hwb, read_else, if_pos rfl]
      have hq2 : (advR s1).us = q := by show s1.us.tail = q; rw [hw]; rfl
      rw [← hq2, hb2]
    · rw [if_neg he] at h; exact absurd h (by simp)
theorem repeated_note (st : RSt) (times p : Int) : ∃ st2 e0, st2 = (if 64 < heavierI st.heavy times then noteR { st with heavy := heavierI st.heavy times } 5 p else { st with heavy := heavierI st.heavy times }) ∧ Ev st st2 e0 ∧ e0.f3 = none ∧ e0.f4 = none ∧ e0.f5 = (if 64 < heavierI st.heavy times then some p else none) ∧
    st2.us = st.us ∧ st2.fl = st.fl ∧ st2.deep = st.deep ∧ st2.heavy = heavierI st.heavy times := by
  by_cases h : 64 < heavierI st.heavy times
  · obtain ⟨k1, k2, k3, k4⟩ := noteR_keeps { st with heavy := heavierI st.heavy times } 5 p
    refine ⟨_, ev5 p, (if_pos h).symm, fun g hg => ?_, rfl, rfl, ?_, k4, k3, k1, k2⟩
    · exact Rel.note5 (st := { st with heavy := heavierI st.heavy times }) hg p
    · rw [if_pos h]; rfl
  · refine ⟨_, Gh.nil, (if_neg h).symm, Ev.same rfl rfl, rfl, rfl, ?_, rfl, rfl, rfl, rfl⟩
    rw [if_neg h]; rfl
theorem repeatedR_eq {t : ByteArray} {blk : RSt → Bool × RSt} {st : RSt} {i : Nat} {times p : Int} {st2 : RSt} (h2 : st2 = (if 64 < heavierI st.heavy times then noteR { st with heavy := heavierI st.heavy times } 5 p else { st with heavy := heavierI st.heavy times })) :
    repeatedR t blk st i times p = ((bracedR t blk st2).2.1, { (bracedR t blk st2).2.2 with fl := setBody (bracedR t blk st2).2.2.fl i (bracedR t blk st2).1, heavy := st.heavy }) := by
  rw [h2]; rfl
theorem repeated_ok {t : ByteArray} {blk : RSt → Bool × RSt} {n : Nat} (hblk : BlkIs t blk n) {st : RSt} {fl0 : List Nd} {nd : Nd} {times p : Int} (hfl : st.fl = fl0 ++ [nd]) (hn : st.us.length ≤ n) (h : (repeatedR t blk st fl0.length times p).1 = true) :
    ∃ wb a b e, Piece t st (repeatedR t blk st fl0.length times p).2 wb a b e ∧ (∀ els ns ss, ∃ nx', outF t st.us ⟨[6], els, false, ns, ss⟩ = outF t (repeatedR t blk st fl0.length times p).2.us ⟨[0], els, nx', ns ++ a, ss ++ b⟩) ∧
      (e.f4 = none → ∀ d : Nat, (d : Int) + 1 + st.deep = 5 → ∃ x : Tree d, (∃ o wa c, wb = o :: (wa ++ [c]) ∧ bytesOf t o = kOpen ∧ bytesOf t c = kShut ∧ GT t d wa x) ∧ (repeatedR t blk st fl0.length times p).2.fl = fl0 ++ { nd with body := (flatT t d x).length } :: flatT t d x ∧
        (e.f3 = none → GoodT t d x ∧ e.f5 = if 64 < st.heavy * times then some p else hvT t d x (st.heavy * times))) := by
  obtain ⟨st2, e0, h2, hev, z3, z4, z5, k1, k2, k3, k4⟩ := repeated_note st times p
  rw [repeatedR_eq h2] at h ⊢
  obtain ⟨o, wa, c, a, b, e, hp, hby, hcb, hacc, htree⟩ := braced_ok hblk (st := st2) (by rw [k1]; exact hn) h
  refine ⟨o :: (wa ++ [c]), a, b, e0.add e, ⟨?_, hp.len, ?_, ?_, ?_, hp.dp, ?_, rfl⟩, ?_, ?_⟩
  · rw [← k1]; exact hp.us
  · have := (hev.trans hp.ev).trans (Ev.same (a := (bracedR t blk st2).2.2) (b := { (bracedR t blk st2).2.2 with fl := setBody (bracedR t blk st2).2.2.fl fl0.length (bracedR t blk st2).1, heavy := st.heavy }) rfl rfl)
    rwa [Gh.add_nil] at this
  · show e0.f3.or e.f3 = _; rw [z3, hp.e3]; rfl
  · show e0.f4.or e.f4 = _; rw [z4, hp.e4, k3]; rfl
  · show (bracedR t blk st2).2.2.deep = _; rw [hp.deep, k3]
  · intro els ns ss
    obtain ⟨nx', hx⟩ := hacc els false ns ss
    refine ⟨nx', ?_⟩
    rw [← k1, hx]; rfl
  · intro h4 d hd
    have h4' : e0.f4.or e.f4 = none := h4
    obtain ⟨x, g1, g2, g3, g4⟩ := htree (or_none h4').2 d (by rw [k3]; exact hd)
    refine ⟨x, ⟨o, wa, c, rfl, hby, hcb, g1⟩, ?_, ?_⟩
    · show setBody _ fl0.length _ = _
      rw [g2, k2, hfl, g3, List.append_assoc]
      exact modify_at _ fl0 nd _
    · intro h3
      have h3' : e0.f3.or e.f3 = none := h3
      obtain ⟨g5, g6⟩ := g4 (or_none h3').2
      refine ⟨g5, ?_⟩
      show e0.f5.or e.f5 = _
      rw [z5]
      unfold heavierI
      by_cases h6 : 64 < st.heavy * times
      · rw [if_pos h6, if_pos h6, if_pos (by omega)]; rfl
      · have hh : st2.heavy = st.heavy * times := by rw [k4]; unfold heavierI; rw [if_neg h6]
        rw [if_neg h6, if_neg h6, if_neg h6, g6 (by rw [hh]; omega), hh]; rfl
theorem repeated_no {t : ByteArray} {blk : RSt → Bool × RSt} {n : Nat} (hblk : BlkIs t blk n) {st : RSt} {i : Nat} {times p : Int} (hn : st.us.length ≤ n) (h : (repeatedR t blk st i times p).1 = false) :
    ∀ els ns ss, outF t st.us ⟨[6], els, false, ns, ss⟩ = .inl (atR t (repeatedR t blk st i times p).2.us) := by
  intro els ns ss
  obtain ⟨st2, e0, h2, _, _, _, _, k1, _, _, _⟩ := repeated_note st times p
  rw [repeatedR_eq h2] at h ⊢
  have := braced_no hblk (st := st2) (by rw [k1]; exact hn) h els false ns ss
  rw [← k1]; exact this
def flat1 (t : ByteArray) (d : Nat) (x : Hd × Tree d × Tree d) : List Nd :=
  ndOf t x.1 (flatT t d x.2.1).length (flatT t d x.2.2).length :: (flatT t d x.2.1 ++ flatT t d x.2.2)
/-- The words of one statement, and what they spell. -/
def St1 (t : ByteArray) (d : Nat) (ws : List (Nat × Nat)) (x : Hd × Tree d × Tree d) : Prop :=
  ∃ wo wb f, ws = wo ++ wb ∧ HdOk t wo x.1 f ∧ plainW t wo ∧
    ((f = 0 ∧ wb = [] ∧ x.2.1 = nilT d ∧ x.2.2 = nilT d) ∨ (f = 2 ∧ BR t d wb x.2.1 x.2.2) ∨
     (f = 1 ∧ (∃ o wa c, wb = o :: (wa ++ [c]) ∧ bytesOf t o = kOpen ∧ bytesOf t c = kShut ∧ GT t d wa x.2.1) ∧ x.2.2 = nilT d))
def StYes (t : ByteArray) (st st' : RSt) : Prop :=
  ∃ ws a b e, Piece t st st' ws a b e ∧ ws ≠ [] ∧
    (∀ els nx ns ss, ∃ nx', outF t st.us ⟨[0], els, nx, ns, ss⟩ = outF t st'.us ⟨[0], els, nx', ns ++ a, ss ++ b⟩) ∧
    (e.f4 = none → ∀ d : Nat, (d : Int) + 1 + st.deep = 5 → ∃ x : Hd × Tree d × Tree d, St1 t d ws x ∧ st'.fl = st.fl ++ flat1 t d x ∧
      (e.f3 = none → (GoodHd t x.1 ∧ GoodT t d x.2.1 ∧ GoodT t d x.2.2) ∧ (st.heavy ≤ 64 → e.f5 = hv1 t (hvT t d) x st.heavy)))
def StNo (t : ByteArray) (st st' : RSt) : Prop :=
  ∀ els nx ns ss, (bytesR t st = kShut → els = []) → (st.us = [] → els ≠ []) → outF t st.us ⟨[0], els, nx, ns, ss⟩ = .inl (atR t st'.us)
def StIs (t : ByteArray) (st : RSt) (r : Bool × RSt) : Prop := (r.1 = true → StYes t st r.2) ∧ (r.1 = false → StNo t st r.2)
/-- One statement, by its kind. -/
def stmtK (t : ByteArray) (blk : RSt → Bool × RSt) (st : RSt) (kind : Int) : Bool × RSt :=
  if kind = 0 then (false, st)
  else
    let a := timesR t (advR st) kind
    if a.2.1 then
      let b := keyR t a.2.2 kind
      if b.2.1 then
        let c := ticksR t b.2.2 kind
        if c.2.1 then
          let st5 := { c.2.2 with fl := c.2.2.fl ++ [{ kind := kind, key := b.1, times := a.1, ticks := c.1, body := 0, els := 0 }] }
          if kind = 4 ∨ kind = 5 then branchesR t blk st5 c.2.2.fl.length
          else if kind = 6 then repeatedR t blk st5 c.2.2.fl.length a.1 (atR t st.us : Nat)
          else (true, st5)
        else (false, c.2.2)
      else (false, b.2.2)
    else (false, a.2.2)
theorem statementR_K (t : ByteArray) (blk : RSt → Bool × RSt) (st : RSt) : statementR t blk st = stmtK t blk st (kindI (bytesR t st)) := rfl
theorem kind_cases (s : List UInt8) : (s = kSend ∧ kindI s = 1) ∨ (s = kWait ∧ kindI s = 2) ∨ (s = kStop ∧ kindI s = 3) ∨ (s = kAsk ∧ kindI s = 4) ∨ (s = kRetry ∧ kindI s = 5) ∨ (s = kRepeat ∧ kindI s = 6) ∨
    (kindI s = 0 ∧ ¬ s = kSend ∧ ¬ s = kWait ∧ ¬ s = kStop ∧ ¬ s = kAsk ∧ ¬ s = kRetry ∧ ¬ s = kRepeat) := by
  by_cases h1 : s = kSend
  · exact Or.inl ⟨h1, by rw [h1]; rfl⟩
  by_cases h2 : s = kWait
  · exact Or.inr (Or.inl ⟨h2, by rw [h2]; rfl⟩)
  by_cases h3 : s = kStop
  · exact Or.inr (Or.inr (Or.inl ⟨h3, by rw [h3]; rfl⟩))
  by_cases h4 : s = kAsk
  · exact Or.inr (Or.inr (Or.inr (Or.inl ⟨h4, by rw [h4]; rfl⟩)))
  by_cases h5 : s = kRetry
  · exact Or.inr (Or.inr (Or.inr (Or.inr (Or.inl ⟨h5, by rw [h5]; rfl⟩))))
  by_cases h6 : s = kRepeat
  · exact Or.inr (Or.inr (Or.inr (Or.inr (Or.inr (Or.inl ⟨h6, by rw [h6]; rfl⟩)))))
  · refine Or.inr (Or.inr (Or.inr (Or.inr (Or.inr (Or.inr ⟨?_, h1, h2, h3, h4, h5, h6⟩)))))
    unfold kindI; rw [if_neg h1, if_neg h2, if_neg h3, if_neg h4, if_neg h5, if_neg h6]
theorem flat1_leaf (t : ByteArray) (d : Nat) (h : Hd) : flat1 t d (h, nilT d, nilT d) = [ndOf t h 0 0] := by
  unfold flat1; simp only [nilT_flat]; rfl
theorem hv1_leaf (t : ByteArray) (d : Nat) (h : Hd) (n : Int) (hk : ¬ bytesOf t h.p = kRepeat) : hv1 t (hvT t d) (h, nilT d, nilT d) n = none := by
  unfold hv1; rw [if_neg hk]; simp only [nilT_hv]; rfl
theorem adv_us {st : RSt} {p : Nat × Nat} {r : List (Nat × Nat)} (hu : st.us = p :: r) : (advR st).us = r := by show st.us.tail = r; rw [hu]; rfl
theorem stmt_send {t : ByteArray} {blk : RSt → Bool × RSt} {st : RSt} {p : Nat × Nat} {r : List (Nat × Nat)} (hu : st.us = p :: r) (hb : bytesOf t p = kSend) : StIs t st (stmtK t blk st 1) := by
  obtain ⟨K, hK⟩ : ∃ K, K = keyR t (advR st) 1 := ⟨_, rfl⟩
  have hE : stmtK t blk st 1 = if K.2.1 then (true, { K.2.2 with fl := K.2.2.fl ++ [{ kind := 1, key := K.1, times := 0, ticks := 0, body := 0, els := 0 }] }) else (false, K.2.2) := by rw [hK]; rfl
  have hfirst : ∀ els nx ns ss, outF t st.us ⟨[0], els, nx, ns, ss⟩ = outF t (advR st).us ⟨[2, 0], els, nx, ns, ss⟩ := by
    intro els nx ns ss; rw [adv_us hu, hu, outF_cons, hb]; rfl
  rw [hE]
  cases h : K.2.1 with
  | true =>
    refine ⟨fun _ => ?_, fun hh => absurd hh (by simp)⟩
    rw [if_pos rfl]
    have hk := key_ok (t := t) (st := advR st) (k := 1) (Or.inl rfl) (by rw [← hK]; exact h)
    rw [← hK] at hk
    obtain ⟨q, hp, h0, hv, hf, ha⟩ := hk
    have hw := (Piece.word hu (kind_plain (s := bytesOf t p) (by rw [hb]; decide)).1).trans hp
    simp only [Gh.nil_add, List.nil_append, List.cons_append] at hw
    refine ⟨_, _, _, _, hw.fl st.fl _, by simp, ?_, ?_⟩
    · intro els nx ns ss
      refine ⟨nx, ?_⟩
      rw [hfirst, ha]; simp
    · intro _ d _
      refine ⟨({ p := p, key := keyL (bytesOf t q), n := 0, m := 0 }, nilT d, nilT d), ⟨[p, q], [], 0, by simp, Or.inl ⟨p, q, rfl, rfl, hb, rfl⟩, ?_, Or.inl ⟨rfl, rfl, rfl, rfl⟩⟩, ?_, ?_⟩
      · intro x hx; simp at hx; rcases hx with rfl | rfl
        · rw [hb]; decide
        · exact key_plain h0
      · show K.2.2.fl ++ _ = _
        rw [hf, flat1_leaf, ndOf_send (h := ⟨p, keyL (bytesOf t q), 0, 0⟩) 0 0 hb, hv]; rfl
      · intro _
        refine ⟨⟨Or.inl ⟨hb, rfl, rfl⟩, nilT_good t d, nilT_good t d⟩, fun _ => ?_⟩
        rw [hv1_leaf t d _ _ (by rw [show (Hd.mk p _ _ _).p = p from rfl, hb]; decide)]; rfl
  | false =>
    refine ⟨fun hh => absurd hh (by simp), fun _ els nx ns ss _ _ => ?_⟩
    rw [if_neg (by simp)]
    have := key_no (t := t) (st := advR st) (k := 1) (Or.inl rfl) (by rw [← hK]; exact h) [0] els nx ns ss
    rw [← hK] at this
    rw [hfirst]; exact this
theorem stmt_wait {t : ByteArray} {blk : RSt → Bool × RSt} {st : RSt} {p : Nat × Nat} {r : List (Nat × Nat)} (hu : st.us = p :: r) (hb : bytesOf t p = kWait) : StIs t st (stmtK t blk st 2) := by
  obtain ⟨K, hK⟩ : ∃ K, K = numberR t (advR st) 999 := ⟨_, rfl⟩
  have hE : stmtK t blk st 2 = if K.2.1 then (true, { K.2.2 with fl := K.2.2.fl ++ [{ kind := 2, key := 0, times := 0, ticks := K.1, body := 0, els := 0 }] }) else (false, K.2.2) := by rw [hK]; rfl
  have hfirst : ∀ els nx ns ss, outF t st.us ⟨[0], els, nx, ns, ss⟩ = outF t (advR st).us ⟨[3, 0], els, nx, ns, ss⟩ := by
    intro els nx ns ss; rw [adv_us hu, hu, outF_cons, hb]; rfl
  rw [hE]
  cases h : K.2.1 with
  | true =>
    refine ⟨fun _ => ?_, fun hh => absurd hh (by simp)⟩
    rw [if_pos rfl]
    have hk := number_ok (t := t) (st := advR st) (s := 3) (most := 999) rfl (Or.inl rfl) (by rw [← hK]; exact h)
    rw [← hK] at hk
    obtain ⟨q, e, hp, h0, hv, hf, h5, h3, ha⟩ := hk
    have hw := (Piece.word hu (kind_plain (s := bytesOf t p) (by rw [hb]; decide)).1).trans hp
    simp only [Gh.nil_add, List.nil_append, List.cons_append] at hw
    refine ⟨_, _, _, _, hw.fl st.fl _, by simp, ?_, ?_⟩
    · intro els nx ns ss
      refine ⟨nx, ?_⟩
      rw [hfirst, ha]
    · intro _ d _
      refine ⟨({ p := p, key := 0, n := numL (bytesOf t q), m := 0 }, nilT d, nilT d), ⟨[p, q], [], 0, by simp, Or.inr (Or.inl ⟨p, q, rfl, rfl, hb, rfl⟩), ?_, Or.inl ⟨rfl, rfl, rfl, rfl⟩⟩, ?_, ?_⟩
      · intro x hx; simp at hx; rcases hx with rfl | rfl
        · rw [hb]; decide
        · exact num_plain h0
      · show K.2.2.fl ++ _ = _
        rw [hf, flat1_leaf, ndOf_wait (h := ⟨p, 0, numL (bytesOf t q), 0⟩) 0 0 hb, hv]; rfl
      · intro he
        obtain ⟨l1, l2⟩ := h3 he
        refine ⟨⟨Or.inr (Or.inl ⟨hb, l1, l2, rfl, rfl⟩), nilT_good t d, nilT_good t d⟩, fun _ => ?_⟩
        rw [hv1_leaf t d _ _ (by rw [show (Hd.mk p _ _ _).p = p from rfl, hb]; decide)]; exact h5
  | false =>
    refine ⟨fun hh => absurd hh (by simp), fun _ els nx ns ss _ _ => ?_⟩
    rw [if_neg (by simp)]
    have := number_no (t := t) (st := advR st) (s := 3) (most := 999) (Or.inl rfl) (by rw [← hK]; exact h) [0] els nx ns ss
    rw [← hK] at this
    rw [hfirst]; exact this
theorem stmt_stop {t : ByteArray} {blk : RSt → Bool × RSt} {st : RSt} {p : Nat × Nat} {r : List (Nat × Nat)} (hu : st.us = p :: r) (hb : bytesOf t p = kStop) : StIs t st (stmtK t blk st 3) := by
  have hE : stmtK t blk st 3 = (true, { advR st with fl := st.fl ++ [{ kind := 3, key := 0, times := 0, ticks := 0, body := 0, els := 0 }] }) := rfl
  have hfirst : ∀ els nx ns ss, outF t st.us ⟨[0], els, nx, ns, ss⟩ = outF t (advR st).us ⟨[0], els, nx, ns, ss⟩ := by
    intro els nx ns ss; rw [adv_us hu, hu, outF_cons, hb]; rfl
  rw [hE]
  refine ⟨fun _ => ?_, fun hh => absurd hh (by simp)⟩
  have hw := Piece.word hu (kind_plain (s := bytesOf t p) (by rw [hb]; decide)).1
  refine ⟨_, _, _, _, hw.fl st.fl _, by simp, ?_, ?_⟩
  · intro els nx ns ss
    refine ⟨nx, ?_⟩
    rw [hfirst]; simp
  · intro _ d _
    refine ⟨({ p := p, key := 0, n := 0, m := 0 }, nilT d, nilT d), ⟨[p], [], 0, by simp, Or.inr (Or.inr (Or.inl ⟨p, rfl, rfl, hb, rfl⟩)), ?_, Or.inl ⟨rfl, rfl, rfl, rfl⟩⟩, ?_, ?_⟩
    · intro x hx; simp at hx; subst hx
      rw [hb]; decide
    · show st.fl ++ _ = _
      rw [flat1_leaf, ndOf_stop (h := ⟨p, 0, 0, 0⟩) 0 0 hb]
    · intro _
      refine ⟨⟨Or.inr (Or.inr (Or.inl ⟨hb, rfl, rfl, rfl⟩)), nilT_good t d, nilT_good t d⟩, fun _ => ?_⟩
      rw [hv1_leaf t d _ _ (by rw [show (Hd.mk p _ _ _).p = p from rfl, hb]; decide)]; rfl
theorem stmt_ask {t : ByteArray} {blk : RSt → Bool × RSt} {st : RSt} {p : Nat × Nat} {r : List (Nat × Nat)} (hu : st.us = p :: r) {n : Nat} (hblk : BlkIs t blk n) (hn : st.us.length ≤ n + 1) (hb : bytesOf t p = kAsk) : StIs t st (stmtK t blk st 4) := by
  obtain ⟨K, hK⟩ : ∃ K, K = keyR t (advR st) 4 := ⟨_, rfl⟩
  obtain ⟨N, hN⟩ : ∃ N, N = numberR t K.2.2 999 := ⟨_, rfl⟩
  obtain ⟨s5, hs5⟩ : ∃ s5 : RSt, s5 = { N.2.2 with fl := N.2.2.fl ++ [Nd.mk 4 K.1 0 N.1 0 0] } := ⟨_, rfl⟩
  have hE : stmtK t blk st 4 = if K.2.1 then (if N.2.1 then branchesR t blk s5 N.2.2.fl.length else (false, N.2.2)) else (false, K.2.2) := by rw [hs5, hN, hK]; rfl
  have hfirst : ∀ els nx ns ss, outF t st.us ⟨[0], els, nx, ns, ss⟩ = outF t (advR st).us ⟨[2, 3, 6], els, true, ns, ss⟩ := by
    intro els nx ns ss; rw [adv_us hu, hu, outF_cons, hb]; rfl
  rw [hE]
  cases h : K.2.1 with
  | false =>
    refine ⟨fun hh => absurd hh (by simp), fun _ els nx ns ss _ _ => ?_⟩
    rw [if_neg (by simp)]
    have := key_no (t := t) (st := advR st) (k := 4) (Or.inr (Or.inl rfl)) (by rw [← hK]; exact h) [3, 6] els true ns ss
    rw [← hK] at this
    rw [hfirst]; exact this
  | true =>
    rw [if_pos rfl]
    have hk := key_ok (t := t) (st := advR st) (k := 4) (Or.inr (Or.inl rfl)) (by rw [← hK]; exact h)
    rw [← hK] at hk
    obtain ⟨q, hp, h0, hv, hf, ha⟩ := hk
    cases h2 : N.2.1 with
    | false =>
      refine ⟨fun hh => absurd hh (by simp), fun _ els nx ns ss _ _ => ?_⟩
      rw [if_neg (by simp)]
      have := number_no (t := t) (st := K.2.2) (s := 3) (most := 999) (Or.inl rfl) (by rw [← hN]; exact h2) [6] els true ns ss
      rw [← hN] at this
      rw [hfirst, ha]; exact this
    | true =>
      rw [if_pos rfl]
      have hk2 := number_ok (t := t) (st := K.2.2) (s := 3) (most := 999) rfl (Or.inl rfl) (by rw [← hN]; exact h2)
      rw [← hN] at hk2
      obtain ⟨z, e, hp2, h02, hv2, hf2, h5, h3, ha2⟩ := hk2
      have hw := ((Piece.word hu (kind_plain (s := bytesOf t p) (by rw [hb]; decide)).1).trans hp).trans hp2
      simp only [Gh.nil_add, List.nil_append, List.cons_append] at hw
      have hw5 : Piece t st s5 [p, q, z] [z] [3] e := by rw [hs5]; exact hw.fl st.fl _
      have hlen : s5.us.length ≤ n := by have := congrArg List.length hw5.us; simp at this; omega
      have hus : s5.us = N.2.2.us := by rw [hs5]
      have hfl : N.2.2.fl = st.fl := by rw [hf2, hf]; rfl
      refine ⟨fun hh => ?_, fun hh els nx ns ss _ _ => ?_⟩
      · obtain ⟨wb, a, b, e2, hp3, ha3, ht3⟩ := branches_ok hblk (st := s5) (fl0 := N.2.2.fl) (nd := Nd.mk 4 K.1 0 N.1 0 0) (by rw [hs5]) rfl hlen hh
        refine ⟨_, _, _, _, hw5.trans hp3, by simp, ?_, ?_⟩
        · intro els nx ns ss
          obtain ⟨nx', hx⟩ := ha3 els (ns ++ [z]) (ss ++ [3])
          refine ⟨nx', ?_⟩
          rw [hfirst, ha, ha2, ← hus, hx]; simp
        · intro h4 d hd
          have h4' : e.f4.or e2.f4 = none := h4
          obtain ⟨x, y, g1, g2, g3⟩ := ht3 (or_none h4').2 d (by rw [hw5.deep]; exact hd)
          refine ⟨({ p := p, key := keyL (bytesOf t q), n := numL (bytesOf t z), m := 0 }, x, y), ⟨[p, q, z], wb, 2, rfl, Or.inr (Or.inr (Or.inr (Or.inl ⟨p, q, z, rfl, rfl, hb, rfl⟩))), ?_, Or.inr (Or.inl ⟨rfl, g1⟩)⟩, ?_, ?_⟩
          · intro w hw; simp at hw; rcases hw with rfl | rfl | rfl
            · rw [hb]; decide
            · exact key_plain h0
            · exact num_plain h02
          · rw [g2, hfl]; unfold flat1; rw [ndOf_ask (h := ⟨p, keyL (bytesOf t q), numL (bytesOf t z), 0⟩) _ _ hb, hv, hv2]
          · intro he
            have he' : e.f3.or e2.f3 = none := he
            obtain ⟨l1, l2⟩ := h3 (or_none he').1
            obtain ⟨g4, g5, g6⟩ := g3 (or_none he').2
            refine ⟨⟨Or.inr (Or.inr (Or.inr (Or.inl ⟨hb, l1, l2, rfl⟩))), g4, g5⟩, fun hh => ?_⟩
            show e.f5.or e2.f5 = _
            rw [h5, g6 (by rw [hw5.heavy]; exact hh), hw5.heavy]
            unfold hv1
            rw [if_neg (by show ¬ bytesOf t p = kRepeat; rw [hb]; decide)]; rfl
      · have := branches_no hblk (st := s5) (i := N.2.2.fl.length) hlen hh els (ns ++ [z]) (ss ++ [3])
        rw [hfirst, ha, ha2, ← hus]; exact this
theorem stmt_retry {t : ByteArray} {blk : RSt → Bool × RSt} {st : RSt} {p : Nat × Nat} {r : List (Nat × Nat)} (hu : st.us = p :: r) {n : Nat} (hblk : BlkIs t blk n) (hn : st.us.length ≤ n + 1) (hb : bytesOf t p = kRetry) : StIs t st (stmtK t blk st 5) := by
  obtain ⟨M, hM⟩ : ∃ M, M = numberR t (advR st) 6 := ⟨_, rfl⟩
  obtain ⟨K, hK⟩ : ∃ K, K = keyR t M.2.2 5 := ⟨_, rfl⟩
  obtain ⟨N, hN⟩ : ∃ N, N = numberR t K.2.2 999 := ⟨_, rfl⟩
  obtain ⟨s5, hs5⟩ : ∃ s5 : RSt, s5 = { N.2.2 with fl := N.2.2.fl ++ [Nd.mk 5 K.1 M.1 N.1 0 0] } := ⟨_, rfl⟩
  have hE : stmtK t blk st 5 = if M.2.1 then (if K.2.1 then (if N.2.1 then branchesR t blk s5 N.2.2.fl.length else (false, N.2.2)) else (false, K.2.2)) else (false, M.2.2) := by rw [hs5, hN, hK, hM]; rfl
  have hfirst : ∀ els nx ns ss, outF t st.us ⟨[0], els, nx, ns, ss⟩ = outF t (advR st).us ⟨[4, 2, 3, 6], els, true, ns, ss⟩ := by
    intro els nx ns ss; rw [adv_us hu, hu, outF_cons, hb]; rfl
  rw [hE]
  cases h1 : M.2.1 with
  | false =>
    refine ⟨fun hh => absurd hh (by simp), fun _ els nx ns ss _ _ => ?_⟩
    rw [if_neg (by simp)]
    have := number_no (t := t) (st := advR st) (s := 4) (most := 6) (Or.inr (Or.inl rfl)) (by rw [← hM]; exact h1) [2, 3, 6] els true ns ss
    rw [← hM] at this
    rw [hfirst]; exact this
  | true =>
    rw [if_pos rfl]
    have hk1 := number_ok (t := t) (st := advR st) (s := 4) (most := 6) rfl (Or.inr (Or.inl rfl)) (by rw [← hM]; exact h1)
    rw [← hM] at hk1
    obtain ⟨y1, e1, hp1, h01, hv1, hf1, h51, h31, ha1⟩ := hk1
    cases h : K.2.1 with
    | false =>
      refine ⟨fun hh => absurd hh (by simp), fun _ els nx ns ss _ _ => ?_⟩
      rw [if_neg (by simp)]
      have := key_no (t := t) (st := M.2.2) (k := 5) (Or.inr (Or.inr rfl)) (by rw [← hK]; exact h) [3, 6] els true (ns ++ [y1]) (ss ++ [4])
      rw [← hK] at this
      rw [hfirst, ha1]; exact this
    | true =>
      rw [if_pos rfl]
      have hk := key_ok (t := t) (st := M.2.2) (k := 5) (Or.inr (Or.inr rfl)) (by rw [← hK]; exact h)
      rw [← hK] at hk
      obtain ⟨q, hp, h0, hv, hf, ha⟩ := hk
      cases h2 : N.2.1 with
      | false =>
        refine ⟨fun hh => absurd hh (by simp), fun _ els nx ns ss _ _ => ?_⟩
        rw [if_neg (by simp)]
        have := number_no (t := t) (st := K.2.2) (s := 3) (most := 999) (Or.inl rfl) (by rw [← hN]; exact h2) [6] els true (ns ++ [y1]) (ss ++ [4])
        rw [← hN] at this
        rw [hfirst, ha1, ha]; exact this
      | true =>
        rw [if_pos rfl]
        have hk2 := number_ok (t := t) (st := K.2.2) (s := 3) (most := 999) rfl (Or.inl rfl) (by rw [← hN]; exact h2)
        rw [← hN] at hk2
        obtain ⟨z, e, hp2, h02, hv2, hf2, h5, h3, ha2⟩ := hk2
        have hw := (((Piece.word hu (kind_plain (s := bytesOf t p) (by rw [hb]; decide)).1).trans hp1).trans hp).trans hp2
        simp only [Gh.nil_add, Gh.add_nil, List.nil_append, List.append_nil, List.cons_append] at hw
        have hw5 : Piece t st s5 [p, y1, q, z] [y1, z] [4, 3] (e1.add e) := by rw [hs5]; exact hw.fl st.fl _
        have hlen : s5.us.length ≤ n := by have := congrArg List.length hw5.us; simp at this; omega
        have hus : s5.us = N.2.2.us := by rw [hs5]
        have hfl : N.2.2.fl = st.fl := by rw [hf2, hf, hf1]; rfl
        refine ⟨fun hh => ?_, fun hh els nx ns ss _ _ => ?_⟩
        · obtain ⟨wb, a, b, e2, hp3, ha3, ht3⟩ := branches_ok hblk (st := s5) (fl0 := N.2.2.fl) (nd := Nd.mk 5 K.1 M.1 N.1 0 0) (by rw [hs5]) rfl hlen hh
          refine ⟨_, _, _, _, hw5.trans hp3, by simp, ?_, ?_⟩
          · intro els nx ns ss
            obtain ⟨nx', hx⟩ := ha3 els (ns ++ [y1] ++ [z]) (ss ++ [4] ++ [3])
            refine ⟨nx', ?_⟩
            rw [hfirst, ha1, ha, ha2, ← hus, hx]; simp
          · intro h4 d hd
            have h4' : (e1.add e).f4.or e2.f4 = none := h4
            obtain ⟨x, y, g1, g2, g3⟩ := ht3 (or_none h4').2 d (by rw [hw5.deep]; exact hd)
            refine ⟨({ p := p, key := keyL (bytesOf t q), n := numL (bytesOf t z), m := numL (bytesOf t y1) }, x, y), ⟨[p, y1, q, z], wb, 2, rfl, Or.inr (Or.inr (Or.inr (Or.inr (Or.inl ⟨p, y1, q, z, rfl, rfl, hb, rfl⟩)))), ?_, Or.inr (Or.inl ⟨rfl, g1⟩)⟩, ?_, ?_⟩
            · intro w hw; simp at hw; rcases hw with rfl | rfl | rfl | rfl
              · rw [hb]; decide
              · exact num_plain h01
              · exact key_plain h0
              · exact num_plain h02
            · rw [g2, hfl]; unfold flat1; rw [ndOf_retry (h := ⟨p, keyL (bytesOf t q), numL (bytesOf t z), numL (bytesOf t y1)⟩) _ _ hb, hv, hv2, hv1]
            · intro he
              have he' : (e1.f3.or e.f3).or e2.f3 = none := he
              obtain ⟨he1, he2⟩ := or_none he'
              obtain ⟨l1, l2⟩ := h3 (or_none he1).2
              obtain ⟨l3, l4⟩ := h31 (or_none he1).1
              obtain ⟨g4, g5, g6⟩ := g3 he2
              refine ⟨⟨Or.inr (Or.inr (Or.inr (Or.inr (Or.inl ⟨hb, l1, l2, l3, l4⟩)))), g4, g5⟩, fun hh => ?_⟩
              show (e1.f5.or e.f5).or e2.f5 = _
              rw [h51, h5, g6 (by rw [hw5.heavy]; exact hh), hw5.heavy]
              unfold Herald.hv1
              rw [if_neg (by show ¬ bytesOf t p = kRepeat; rw [hb]; decide)]; rfl
        · have := branches_no hblk (st := s5) (i := N.2.2.fl.length) hlen hh els (ns ++ [y1] ++ [z]) (ss ++ [4] ++ [3])
          rw [hfirst, ha1, ha, ha2, ← hus]; exact this
theorem stmt_repeat {t : ByteArray} {blk : RSt → Bool × RSt} {st : RSt} {p : Nat × Nat} {r : List (Nat × Nat)} (hu : st.us = p :: r) {n : Nat} (hblk : BlkIs t blk n) (hn : st.us.length ≤ n + 1) (hb : bytesOf t p = kRepeat) : StIs t st (stmtK t blk st 6) := by
  obtain ⟨N, hN⟩ : ∃ N, N = numberR t (advR st) 9 := ⟨_, rfl⟩
  obtain ⟨s5, hs5⟩ : ∃ s5 : RSt, s5 = { N.2.2 with fl := N.2.2.fl ++ [Nd.mk 6 0 N.1 0 0 0] } := ⟨_, rfl⟩
  have hE : stmtK t blk st 6 = if N.2.1 then repeatedR t blk s5 N.2.2.fl.length N.1 (atR t st.us : Nat) else (false, N.2.2) := by rw [hs5, hN]; rfl
  have hfirst : ∀ els nx ns ss, outF t st.us ⟨[0], els, nx, ns, ss⟩ = outF t (advR st).us ⟨[5, 6], els, false, ns, ss⟩ := by
    intro els nx ns ss; rw [adv_us hu, hu, outF_cons, hb]; rfl
  have hat : (atR t st.us : Nat) = p.1 := by rw [hu]; rfl
  rw [hE]
  cases h2 : N.2.1 with
  | false =>
    refine ⟨fun hh => absurd hh (by simp), fun _ els nx ns ss _ _ => ?_⟩
    rw [if_neg (by simp)]
    have := number_no (t := t) (st := advR st) (s := 5) (most := 9) (Or.inr (Or.inr rfl)) (by rw [← hN]; exact h2) [6] els false ns ss
    rw [← hN] at this
    rw [hfirst]; exact this
  | true =>
    rw [if_pos rfl]
    have hk2 := number_ok (t := t) (st := advR st) (s := 5) (most := 9) rfl (Or.inr (Or.inr rfl)) (by rw [← hN]; exact h2)
    rw [← hN] at hk2
    obtain ⟨z, e, hp2, h02, hv2, hf2, h5, h3, ha2⟩ := hk2
    have hw := (Piece.word hu (kind_plain (s := bytesOf t p) (by rw [hb]; decide)).1).trans hp2
    simp only [Gh.nil_add, List.nil_append, List.cons_append] at hw
    have hw5 : Piece t st s5 [p, z] [z] [5] e := by rw [hs5]; exact hw.fl st.fl _
    have hlen : s5.us.length ≤ n := by have := congrArg List.length hw5.us; simp at this; omega
    have hus : s5.us = N.2.2.us := by rw [hs5]
    have hfl : N.2.2.fl = st.fl := by rw [hf2]; rfl
    refine ⟨fun hh => ?_, fun hh els nx ns ss _ _ => ?_⟩
    · obtain ⟨wb, a, b, e2, hp3, ha3, ht3⟩ := repeated_ok hblk (st := s5) (fl0 := N.2.2.fl) (nd := Nd.mk 6 0 N.1 0 0 0) (by rw [hs5]) hlen hh
      refine ⟨_, _, _, _, hw5.trans hp3, by simp, ?_, ?_⟩
      · intro els nx ns ss
        obtain ⟨nx', hx⟩ := ha3 els (ns ++ [z]) (ss ++ [5])
        refine ⟨nx', ?_⟩
        rw [hfirst, ha2, ← hus, hx]; simp
      · intro h4 d hd
        have h4' : e.f4.or e2.f4 = none := h4
        obtain ⟨x, g1, g2, g3⟩ := ht3 (or_none h4').2 d (by rw [hw5.deep]; exact hd)
        refine ⟨({ p := p, key := 0, n := numL (bytesOf t z), m := 0 }, x, nilT d), ⟨[p, z], wb, 1, rfl, Or.inr (Or.inr (Or.inr (Or.inr (Or.inr ⟨p, z, rfl, rfl, hb, rfl⟩)))), ?_, Or.inr (Or.inr ⟨rfl, g1, rfl⟩)⟩, ?_, ?_⟩
        · intro w hw; simp at hw; rcases hw with rfl | rfl
          · rw [hb]; decide
          · exact num_plain h02
        · rw [g2, hfl]; unfold flat1; rw [ndOf_repeat (h := ⟨p, 0, numL (bytesOf t z), 0⟩) _ _ hb, hv2]; simp only [nilT_flat, List.append_nil]; rfl
        · intro he
          have he' : e.f3.or e2.f3 = none := he
          obtain ⟨l1, l2⟩ := h3 (or_none he').1
          obtain ⟨g4, g5⟩ := g3 (or_none he').2
          refine ⟨⟨Or.inr (Or.inr (Or.inr (Or.inr (Or.inr ⟨hb, l1, l2, rfl, rfl⟩)))), g4, nilT_good t d⟩, fun _ => ?_⟩
          show e.f5.or e2.f5 = _
          rw [h5, g5, hw5.heavy, hv2, hat]
          unfold hv1
          rw [if_pos (show bytesOf t p = kRepeat from hb)]
          simp only [nilT_hv, Option.or_none, Option.none_or]
    · have := repeated_no hblk (st := s5) (i := N.2.2.fl.length) (times := N.1) (p := (atR t st.us : Nat)) hlen hh els (ns ++ [z]) (ss ++ [5])
      rw [hfirst, ha2, ← hus]; exact this
theorem first_none {s : List UInt8} (hk : ¬ s = kSend ∧ ¬ s = kWait ∧ ¬ s = kStop ∧ ¬ s = kAsk ∧ ¬ s = kRetry ∧ ¬ s = kRepeat) (p : Nat × Nat) (els : List Bool) (nx : Bool) (ns : List (Nat × Nat)) (ss : List Int) (hs : s = kShut → els = []) :
    (readF s p ⟨[0], els, nx, ns, ss⟩).2 = false := by
  obtain ⟨h1, h2, h3, h4, h5, h6⟩ := hk
  have e0 : readF s p ⟨[0], els, nx, ns, ss⟩ = firstF s 0 ⟨[0], els, nx, ns, ss⟩ := rfl
  rw [e0]
  unfold firstF
  rw [if_neg h1, if_neg h2, if_neg h3, if_neg h4, if_neg h5, if_neg h6]
  by_cases h7 : s = kElse
  · rw [if_pos h7]; rfl
  rw [if_neg h7]
  by_cases h8 : s = kShut
  · rw [if_pos h8, hs h8]
  · rw [if_neg h8]
theorem statement_is {t : ByteArray} {blk : RSt → Bool × RSt} {n : Nat} (hblk : BlkIs t blk n) (st : RSt) (hn : st.us.length ≤ n + 1) : StIs t st (statementR t blk st) := by
  rw [statementR_K]
  have hz : kindI (bytesR t st) = 0 → (∀ p r, st.us = p :: r → ¬ bytesOf t p = kSend ∧ ¬ bytesOf t p = kWait ∧ ¬ bytesOf t p = kStop ∧ ¬ bytesOf t p = kAsk ∧ ¬ bytesOf t p = kRetry ∧ ¬ bytesOf t p = kRepeat) → StIs t st (stmtK t blk st (kindI (bytesR t st))) := by
    intro h0 hno
    rw [h0]
    have hE : stmtK t blk st 0 = (false, st) := rfl
    rw [hE]
    refine ⟨fun hh => absurd hh (by simp), fun _ els nx ns ss h1 h2 => ?_⟩
    cases hu : st.us with
    | nil =>
      have := h2 hu
      rw [outF_nil, if_pos (Or.inl ?_)]
      · rfl
      · cases els with
        | nil => exact absurd rfl this
        | cons a b => simp
    | cons p r =>
      rw [outF_cons, if_neg]
      · rfl
      · rw [first_none (hno p r hu) p els nx ns ss (by rw [← bytesR_cons hu]; exact h1)]; simp
  cases hu : st.us with
  | nil => exact hz (by rw [bytesR_nil hu]; rfl) (fun p r h => by rw [hu] at h; cases h)
  | cons p r =>
    have hby := bytesR_cons (t := t) hu
    rcases kind_cases (bytesOf t p) with ⟨h, k⟩ | ⟨h, k⟩ | ⟨h, k⟩ | ⟨h, k⟩ | ⟨h, k⟩ | ⟨h, k⟩ | ⟨k, h⟩
    · rw [hby, k]; exact stmt_send hu h
    · rw [hby, k]; exact stmt_wait hu h
    · rw [hby, k]; exact stmt_stop hu h
    · rw [hby, k]; exact stmt_ask hu hblk hn h
    · rw [hby, k]; exact stmt_retry hu hblk hn h
    · rw [hby, k]; exact stmt_repeat hu hblk hn h
    · exact hz (by rw [hby, k]) (fun p' r' h' => by rw [hu] at h'; cases h'; exact h)
theorem HdOk.head {t : ByteArray} {wo : List (Nat × Nat)} {h : Hd} {f : Nat} (hh : HdOk t wo h f) : ∃ p q, wo = p :: q ∧ ¬ bytesOf t p = kOpen ∧ ¬ bytesOf t p = kElse := by
  rcases hh with ⟨p, q, rfl, _, hb, _⟩ | ⟨p, q, rfl, _, hb, _⟩ | ⟨p, rfl, _, hb, _⟩ | ⟨p, q, r, rfl, _, hb, _⟩ | ⟨p, q, r, s, rfl, _, hb, _⟩ | ⟨p, q, rfl, _, hb, _⟩
  all_goals exact ⟨_, _, rfl, by rw [hb]; decide, by rw [hb]; decide⟩
theorem GL.head {t : ByteArray} {T : Type} {sub : List (Nat × Nat) → T → Prop} {nil : T} {ws : List (Nat × Nat)} {l : List (Hd × T × T)} (h : GL t sub nil ws l) : headIsnt t ws kOpen ∧ headIsnt t ws kElse := by
  cases l with
  | nil => rw [GL] at h; subst h; exact ⟨fun p hp => (by cases hp), fun p hp => (by cases hp)⟩
  | cons x r =>
    rw [GL] at h
    obtain ⟨wo, wb, wr, f, rfl, hh, _⟩ := h
    obtain ⟨p, q, rfl, h1, h2⟩ := hh.head
    refine ⟨fun z hz => ?_, fun z hz => ?_⟩
    · simp at hz; subst hz; exact h1
    · simp at hz; subst hz; exact h2
def consT {d : Nat} (x : Hd × Tree d × Tree d) (l : Tree (d + 1)) : Tree (d + 1) := (x :: l.list : List (Hd × Tree d × Tree d))
theorem St1.cons {t : ByteArray} {d : Nat} {ws wr : List (Nat × Nat)} {x : Hd × Tree d × Tree d} {l : Tree (d + 1)} (h : St1 t d ws x) (hl : GT t (d + 1) wr l) : GT t (d + 1) (ws ++ wr) (consT x l) := by
  have hl : GL t (GT t d) (nilT d) wr l.list := hl
  show GL t (GT t d) (nilT d) (ws ++ wr) (x :: l.list)
  rw [GL]
  have hd := hl.head
  obtain ⟨wo, wb, f, rfl, h1, h2, h3⟩ := h
  refine ⟨wo, wb, wr, f, by simp, h1, h2, hl, ?_⟩
  rcases h3 with ⟨rfl, rfl, h4, h5⟩ | ⟨rfl, h4 | h4⟩ | ⟨rfl, ⟨o, wa, c, rfl, h5, h6, h7⟩, h8⟩
  · exact Or.inl ⟨rfl, rfl, h4, h5, hd.1⟩
  · obtain ⟨o, wa, c, rfl, h5, h6, h7, h8⟩ := h4
    exact Or.inr (Or.inl ⟨o, wa, c, by omega, rfl, h5, h6, h7, h8, hd.2⟩)
  · obtain ⟨o, wa, c, e, o2, wa2, c2, rfl, h5, h6, h7, h8, h9, h10, h11⟩ := h4
    exact Or.inr (Or.inr ⟨o, wa, c, e, o2, wa2, c2, rfl, rfl, h5, h6, h7, h8, h9, h10, h11⟩)
  · exact Or.inr (Or.inl ⟨o, wa, c, by omega, rfl, h5, h6, h7, h8, hd.2⟩)
theorem flatT_cons (t : ByteArray) (d : Nat) (x : Hd × Tree d × Tree d) (l : Tree (d + 1)) : flatT t (d + 1) (consT x l) = flat1 t d x ++ flatT t (d + 1) l := by
  show (x :: l.list).flatMap (fun x => flat1 t d x) = flat1 t d x ++ l.list.flatMap (fun x => flat1 t d x)
  rw [List.flatMap_cons]
theorem loop_is {t : ByteArray} {stm : RSt → Bool × RSt} {n : Nat} (hst : ∀ st : RSt, st.us.length ≤ n → StIs t st (stm st)) (behind : List UInt8) (hbeh : behind = kShut ∨ behind = []) : ∀ (f : Nat) (st : RSt), st.us.length < f → st.us.length ≤ n →
    ((loopR t stm behind f st).1 = true → BlkYes t st (loopR t stm behind f st).2 behind) ∧
    ((loopR t stm behind f st).1 = false → ∀ els nx ns ss, (behind = kShut → els ≠ []) → (behind = [] → els = []) → outF t st.us ⟨[0], els, nx, ns, ss⟩ = .inl (atR t (loopR t stm behind f st).2.us)) := by
  intro f
  induction f with
  | zero => intro st h; omega
  | succ f ih =>
    intro st hf hn
    rw [loopR]
    by_cases hb : bytesR t st = behind
    · rw [if_pos hb]
      refine ⟨fun _ => ⟨[], [], [], Gh.nil, Piece.refl t st, hb, fun els nx ns ss => ⟨nx, by simp⟩, fun _ d _ => ⟨nilT (d + 1), ?_, ?_, fun _ => ⟨nilT_good t (d + 1), fun _ => rfl⟩⟩⟩, fun hh => absurd hh (by simp)⟩
      · show GL t (GT t d) (nilT d) [] ([] : List (Hd × Tree d × Tree d)); rw [GL]
      · show st.fl = st.fl ++ []; simp
    · rw [if_neg hb]
      obtain ⟨hy, hno⟩ := hst st hn
      cases hs : (stm st).1 with
      | false =>
        rw [if_neg (by simp)]
        refine ⟨fun hh => absurd hh (by simp), fun _ els nx ns ss h1 h2 => hno hs els nx ns ss ?_ ?_⟩
        · intro hk
          rcases hbeh with h | h
          · rw [h] at hb; exact absurd hk hb
          · exact h2 h
        · intro hu
          rcases hbeh with h | h
          · exact h1 h
          · rw [h] at hb; exact absurd (bytesR_nil hu) hb
      | true =>
        rw [if_pos rfl]
        obtain ⟨ws, a, b, e, hp, hne, hacc, htree⟩ := hy hs
        have hlen : (stm st).2.us.length < st.us.length := by
          have := congrArg List.length hp.us
          rw [List.length_append] at this
          have : 0 < ws.length := List.length_pos_iff.mpr hne
          omega
        obtain ⟨iy, ino⟩ := ih (stm st).2 (by omega) (by omega)
        refine ⟨fun hh => ?_, fun hh els nx ns ss h1 h2 => ?_⟩
        · obtain ⟨ws2, a2, b2, e2, hp2, hb2, hacc2, htree2⟩ := iy hh
          refine ⟨ws ++ ws2, a ++ a2, b ++ b2, e.add e2, hp.trans hp2, hb2, ?_, ?_⟩
          · intro els nx ns ss
            obtain ⟨nx1, x1⟩ := hacc els nx ns ss
            obtain ⟨nx2, x2⟩ := hacc2 els nx1 (ns ++ a) (ss ++ b)
            exact ⟨nx2, by rw [x1, x2]; simp⟩
          · intro h4 d hd
            have h4' : e.f4.or e2.f4 = none := h4
            obtain ⟨x, g1, g2, g3⟩ := htree (or_none h4').1 d hd
            obtain ⟨tr, k1, k2, k3⟩ := htree2 (or_none h4').2 d (by rw [hp.deep]; exact hd)
            refine ⟨consT x tr, g1.cons k1, ?_, ?_⟩
            · rw [k2, g2, flatT_cons, List.append_assoc]
            · intro h3
              have h3' : e.f3.or e2.f3 = none := h3
              obtain ⟨⟨m1, m2, m3⟩, m4⟩ := g3 (or_none h3').1
              obtain ⟨m5, m6⟩ := k3 (or_none h3').2
              refine ⟨?_, fun hh => ?_⟩
              · intro y hy
                have hy' : y ∈ (x :: tr.list) := hy
                rcases List.mem_cons.mp hy' with rfl | hy'
                · exact ⟨m1, m2, m3⟩
                · exact m5 y hy'
              · show e.f5.or e2.f5 = _
                rw [m4 hh, m6 (by rw [hp.heavy]; exact hh), hp.heavy]; rfl
        · obtain ⟨nx1, x1⟩ := hacc els nx ns ss
          rw [x1]
          exact ino hh els nx1 (ns ++ a) (ss ++ b) h1 h2
theorem block_is (t : ByteArray) : ∀ n : Nat, BlkIs t (blockR t n kShut) n := by
  intro n
  induction n with
  | zero => intro st h; omega
  | succ n ih =>
    intro st h
    obtain ⟨h1, h2⟩ := loop_is (t := t) (stm := statementR t (blockR t n kShut)) (n := n + 1) (fun st hn => statement_is ih st hn) kShut (Or.inl rfl) (st.us.length + 1) st (by omega) (by omega)
    exact ⟨h1, fun hh els nx ns ss he => h2 hh els nx ns ss (fun _ => he) (fun h => absurd h (by decide))⟩
/-- The reader as it begins. -/
def startR (t : ByteArray) : RSt := { us := wordsL t.data.toList, fl := [], deep := 0, heavy := 1, fault := 0, place := 0 }
/-- The reader as it ends. -/
def endR (t : ByteArray) : Bool × RSt := loopR t (statementR t (blockR t 401 kShut)) [] ((startR t).us.length + 1) (startR t)
theorem bytesOf_ne {t : ByteArray} {p : Nat × Nat} (h1 : p.1 < p.2) (h2 : p.2 ≤ t.size) : ¬ bytesOf t p = [] := by
  intro h
  have := congrArg List.length h
  unfold bytesOf at this
  simp at this
  omega
theorem tie_no (t : ByteArray) (ht : t.size ≤ 400) (h : (endR t).1 = false) : formedL t = (2, (atR t (endR t).2.us : Int)) := by
  have hw := wordsL_length t.data.toList
  have hsz : t.data.toList.length = t.size := by simp
  have := (loop_is (t := t) (stm := statementR t (blockR t 401 kShut)) (n := 401 + 1) (fun st hn => statement_is (block_is t 401) st hn) [] (Or.inr rfl) ((startR t).us.length + 1) (startR t) (by omega) (by show (wordsL t.data.toList).length ≤ _; omega)).2 h [] false [] [] (fun h => absurd h (by decide)) (fun _ => rfl)
  rw [formedL_out]
  have e : outF t (wordsL t.data.toList) initF = .inl (atR t (endR t).2.us) := this
  rw [e]
theorem tie_yes (t : ByteArray) (ht : t.size ≤ 400) (h : (endR t).1 = true) : ∃ e : Gh, ((endR t).2.fault, (endR t).2.place) = encG e ∧
    (formedL t = match e.f3 with
      | some p => (3, p)
      | none => (0, 0)) ∧ deepL t (wordsL t.data.toList) 0 = e.f4.getD (-1) ∧ (∀ p, e.f4 = some p → 0 ≤ p) ∧
    (e.f4 = none → ∃ tr : Tree 5, GT t 5 (wordsL t.data.toList) tr ∧ (endR t).2.fl = flatT t 5 tr ∧ (e.f3 = none → GoodT t 5 tr ∧ heavyT t 5 tr 1 = e.f5.getD (-1) ∧ (∀ p, e.f5 = some p → 0 ≤ p))) := by
  have hw := wordsL_length t.data.toList
  have hsz : t.data.toList.length = t.size := by simp
  obtain ⟨ws, a, b, e, hp, hb, hacc, htree⟩ := (loop_is (t := t) (stm := statementR t (blockR t 401 kShut)) (n := 401 + 1) (fun st hn => statement_is (block_is t 401) st hn) [] (Or.inr rfl) ((startR t).us.length + 1) (startR t) (by omega) (by show (wordsL t.data.toList).length ≤ _; omega)).1 h
  have hp' : Piece t (startR t) (endR t).2 ws a b e := hp
  have hend : (endR t).2.us = [] := by
    cases hu : (endR t).2.us with
    | nil => rfl
    | cons p q =>
      exfalso
      have hb' : bytesR t (endR t).2 = [] := hb
      rw [bytesR_cons hu] at hb'
      have hin : p ∈ wordsL t.data.toList := by
        have : wordsL t.data.toList = ws ++ (endR t).2.us := hp'.us
        rw [this, hu]; simp
      have hbd := wordsL_bounds t.data.toList p hin
      exact bytesOf_ne hbd.1 (by omega) hb'
  have hws : wordsL t.data.toList = ws := by
    have : wordsL t.data.toList = ws ++ (endR t).2.us := hp'.us
    rw [this, hend]; simp
  refine ⟨e, ?_, ?_, ?_, ?_, ?_⟩
  · have := hp'.ev Gh.nil rfl
    rw [Gh.nil_add] at this
    exact this
  · obtain ⟨nx, hx⟩ := hacc [] false [] []
    rw [formedL_out]
    have e1 : outF t (wordsL t.data.toList) initF = outF t (endR t).2.us ⟨[0], [], nx, [] ++ a, [] ++ b⟩ := hx
    rw [e1, hend, outF_nil, if_neg (by simp)]
    show numsF t ([] ++ a) ([] ++ b) = _
    (rw [List.nil_append, List.nil_append, numsF_O, hp'.e3]) <;> (cases numsO t a b <;> rfl)
  · rw [deepL_O, hws, hp'.e4]; rfl
  · intro p hpp
    rw [hp'.e4] at hpp
    exact deepO_pos t _ _ p hpp
  · intro h4
    obtain ⟨tr, g1, g2, g3⟩ := htree h4 4 rfl
    refine ⟨tr, by rw [hws]; exact g1, ?_, ?_⟩
    · have : (endR t).2.fl = [] ++ flatT t 5 tr := g2
      rw [this]; simp
    · intro h3
      obtain ⟨k1, k2⟩ := g3 h3
      have k3 : e.f5 = hvT t 5 tr 1 := k2 (show (1 : Int) ≤ 64 by omega)
      have := hvT_spec t 5 tr 1
      rw [k3]
      exact ⟨k1, this.1, this.2⟩
theorem GL.size {t : ByteArray} {d : Nat} (hs : ∀ ws x, GT t d ws x → sizeT d x ≤ ws.length) : ∀ (l : List (Hd × Tree d × Tree d)) (ws : List (Nat × Nat)), GL t (GT t d) (nilT d) ws l → (l.map fun x => 1 + sizeT d x.2.1 + sizeT d x.2.2).sum ≤ ws.length := by
  have hnil : sizeT d (nilT d) = 0 := by cases d <;> rfl
  intro l
  induction l with
  | nil => intro ws h; simp
  | cons x r ih =>
    intro ws h
    rw [GL] at h
    obtain ⟨wo, wb, wr, f, rfl, hh, _, hr, hb⟩ := h
    obtain ⟨p, q, rfl, _⟩ := hh.head
    have h1 := ih wr hr
    rw [List.map_cons, List.sum_cons]
    have h2 : sizeT d x.2.1 + sizeT d x.2.2 ≤ wb.length := by
      rcases hb with ⟨_, rfl, e1, e2, _⟩ | ⟨o, wa, c, _, rfl, _, _, ha, e2, _⟩ | ⟨o, wa, c, e, o2, wa2, c2, _, rfl, _, _, _, _, _, ha, ha2⟩
      · rw [e1, e2, hnil]; simp
      · have := hs _ _ ha
        rw [e2, hnil]; simp; omega
      · have := hs _ _ ha
        have := hs _ _ ha2
        simp; omega
    simp only [List.length_append, List.length_cons]
    omega
theorem GT.size {t : ByteArray} : ∀ (d : Nat) (ws : List (Nat × Nat)) (x : Tree d), GT t d ws x → sizeT d x ≤ ws.length := by
  intro d
  induction d with
  | zero => intro ws x _; exact Nat.zero_le _
  | succ d ih => intro ws x h; exact GL.size ih x.list ws h
/-- The document's own answer. -/
def RefAns (t : ByteArray) (r : Int × Int × Int) : Prop :=
  (∃ f p, formedL t = (f, p) ∧ f ≠ 0 ∧ r = (0, f, p)) ∨
  (∃ p, formedL t = (0, 0) ∧ deepL t (wordsL t.data.toList) 0 = p ∧ 0 ≤ p ∧ r = (0, 4, p)) ∨
  (∃ tr : Tree 5, formedL t = (0, 0) ∧ deepL t (wordsL t.data.toList) 0 = -1 ∧ GT t 5 (wordsL t.data.toList) tr ∧ GoodT t 5 tr ∧ sizeT 5 tr ≤ 400 ∧
    ((∃ p, heavyT t 5 tr 1 = p ∧ 0 ≤ p ∧ r = (0, 5, p)) ∨ (heavyT t 5 tr 1 = -1 ∧ 100000 < maxI (lastsT t 5 tr).1 (lastsT t 5 tr).2 ∧ r = (0, 6, 0)) ∨
     (heavyT t 5 tr 1 = -1 ∧ ¬ 100000 < maxI (lastsT t 5 tr).1 (lastsT t 5 tr).2 ∧ r = (maxI (lastsT t 5 tr).1 (lastsT t 5 tr).2, 0, 0))))
/-- The program's answer. -/
def CodeAns (t : ByteArray) (r : Int × Int × Int) : Prop :=
  ((endR t).1 = false ∧ r = (0, 2, (atR t (endR t).2.us : Int))) ∨
  ((endR t).1 = true ∧ (endR t).2.fault ≠ 0 ∧ r = (0, (endR t).2.fault, (endR t).2.place)) ∨
  ((endR t).1 = true ∧ (endR t).2.fault = 0 ∧ ∃ tr : Tree 5, (endR t).2.fl = flatT t 5 tr ∧ GoodT t 5 tr ∧ sizeT 5 tr ≤ 400 ∧
    ((100000 < maxI (lastsT t 5 tr).1 (lastsT t 5 tr).2 ∧ r = (0, 6, 0)) ∨ (¬ 100000 < maxI (lastsT t 5 tr).1 (lastsT t 5 tr).2 ∧ r = (maxI (lastsT t 5 tr).1 (lastsT t 5 tr).2, 0, 0))))
theorem answers (t : ByteArray) (ht : t.size ≤ 400) : ∃ r, RefAns t r ∧ CodeAns t r := by
  cases h : (endR t).1 with
  | false =>
    exact ⟨(0, 2, (atR t (endR t).2.us : Int)), Or.inl ⟨2, _, tie_no t ht h, by decide, rfl⟩, Or.inl ⟨h, rfl⟩⟩
  | true =>
    obtain ⟨e, he, hf, hd, hdp, htree⟩ := tie_yes t ht h
    have hfst : (endR t).2.fault = (encG e).1 := congrArg Prod.fst he
    have hsnd : (endR t).2.place = (encG e).2 := congrArg Prod.snd he
    obtain ⟨f3, f4, f5⟩ := e
    cases f3 with
    | some p =>
      refine ⟨(0, 3, p), Or.inl ⟨3, p, hf, by decide, rfl⟩, Or.inr (Or.inl ⟨h, by rw [hfst]; show (3 : Int) ≠ 0; decide, ?_⟩)⟩
      rw [hfst, hsnd]; rfl
    | none =>
      cases f4 with
      | some p =>
        refine ⟨(0, 4, p), Or.inr (Or.inl ⟨p, hf, hd, hdp p rfl, rfl⟩), Or.inr (Or.inl ⟨h, by rw [hfst]; show (4 : Int) ≠ 0; decide, ?_⟩)⟩
        rw [hfst, hsnd]; rfl
      | none =>
        obtain ⟨tr, g1, g2, g3⟩ := htree rfl
        obtain ⟨g4, g5, g6⟩ := g3 rfl
        have hsz : sizeT 5 tr ≤ 400 := by
          have h1 := GT.size 5 _ tr g1
          have h2 := wordsL_length t.data.toList
          have h3 : t.data.toList.length = t.size := by simp
          omega
        cases f5 with
        | some p =>
          refine ⟨(0, 5, p), Or.inr (Or.inr ⟨tr, hf, hd, g1, g4, hsz, Or.inl ⟨p, g5, g6 p rfl, rfl⟩⟩), Or.inr (Or.inl ⟨h, by rw [hfst]; show (5 : Int) ≠ 0; decide, ?_⟩)⟩
          rw [hfst, hsnd]; rfl
        | none =>
          have h0 : (endR t).2.fault = 0 := by rw [hfst]; rfl
          by_cases hl : 100000 < maxI (lastsT t 5 tr).1 (lastsT t 5 tr).2
          · exact ⟨(0, 6, 0), Or.inr (Or.inr ⟨tr, hf, hd, g1, g4, hsz, Or.inr (Or.inl ⟨g5, hl, rfl⟩)⟩), Or.inr (Or.inr ⟨h, h0, tr, g2, g4, hsz, Or.inl ⟨hl, rfl⟩⟩)⟩
          · exact ⟨_, Or.inr (Or.inr ⟨tr, hf, hd, g1, g4, hsz, Or.inr (Or.inr ⟨g5, hl, rfl⟩)⟩), Or.inr (Or.inr ⟨h, h0, tr, g2, g4, hsz, Or.inr ⟨hl, rfl⟩⟩)⟩
end Go.Proofs.Herald
