/- Statements in memory: a tree of lists. -/
import Derived.Test.YtiaibigmbflpiaaRefG
import Derived.Test.YtiaibigmbflpiaaPureF
namespace Go.Proofs.Ytiaibigmbflpiaa
open Go.RowKit Go.Proofs.Herald

/-- A statement's cells, with the values of its two lists. -/
def stmtCells (t : ByteArray) (h : Hd) (u : Value × Value) : List Value :=
  [.string (t.extract h.p.1 h.p.2), .int .i64 h.key, .int .i64 h.n, .int .i64 h.m, u.1, u.2, .int .i64 h.p.1]

def itemsCells (t : ByteArray) {T : Type} (xs : List ((Hd × T × T) × (Value × Value))) : List Value := xs.flatMap fun x => stmtCells t x.1.1 x.2

/-- A slice's value is a tree of statements, all of whose blocks are in X. -/
def TreeAt (t : ByteArray) (w : World) (X : Nat → Prop) : (d : Nat) → Value → Tree d → Prop
  | 0, v, _ => ∃ a cap, v = .slice a 0 cap
  | d + 1, v, l => ∃ xs : List ((Hd × Tree d × Tree d) × (Value × Value)), l = xs.map Prod.fst ∧ w.ownsRow 0 161 7 v xs.length (itemsCells t xs) ∧ InS X v ∧
      (∀ x ∈ xs, TreeAt t w X d x.2.1 x.1.2.1 ∧ TreeAt t w X d x.2.2 x.1.2.2) ∧ (∀ x ∈ xs, x.2.1.oneCell' = true ∧ x.2.2.oneCell' = true)

theorem TreeAt.keep {t : ByteArray} {w w' : World} {X : Nat → Prop} (h : ∀ k, X k → w'.heap[k]? = w.heap[k]?) : ∀ (d : Nat) (v : Value) (l : Tree d), TreeAt t w X d v l → TreeAt t w' X d v l := by
  intro d
  induction d with
  | zero => intro v l hl; exact hl
  | succ d ih =>
    intro v l hl
    obtain ⟨xs, h1, h2, h3, h4, h5⟩ := hl
    exact ⟨xs, h1, own_keep h2 (fun k hk => h k (h3 k hk)), h3, fun x hx => ⟨ih _ _ (h4 x hx).1, ih _ _ (h4 x hx).2⟩, h5⟩

theorem TreeAt.mono {t : ByteArray} {w : World} {X Y : Nat → Prop} (h : ∀ k, X k → Y k) : ∀ (d : Nat) (v : Value) (l : Tree d), TreeAt t w X d v l → TreeAt t w Y d v l := by
  intro d
  induction d with
  | zero => intro v l hl; exact hl
  | succ d ih =>
    intro v l hl
    obtain ⟨xs, h1, h2, h3, h4, h5⟩ := hl
    exact ⟨xs, h1, h2, fun k hk => h k (h3 k hk), fun x hx => ⟨ih _ _ (h4 x hx).1, ih _ _ (h4 x hx).2⟩, h5⟩

theorem TreeAt.nil (t : ByteArray) (w : World) (X : Nat → Prop) (d : Nat) : TreeAt t w X d (.slice none 0 0) (nilT d) := by
  cases d with
  | zero => exact ⟨none, 0, rfl⟩
  | succ d => exact ⟨[], rfl, World.ownsRow_nil _ _ _ _, fun k hk => by simp [Value.ownBlock] at hk, by simp, by simp⟩

theorem TreeAt.one {t : ByteArray} {w : World} {X : Nat → Prop} {d : Nat} {v : Value} {l : Tree d} (h : TreeAt t w X d v l) : ∃ a n cap, v = .slice a n cap := by
  cases d with
  | zero => obtain ⟨a, cap, h⟩ := h; exact ⟨a, 0, cap, h⟩
  | succ d =>
    obtain ⟨xs, h1, h2, h3, h4, h5⟩ := h
    rcases h2.2 with ⟨h6, _⟩ | ⟨g, cap, cur, h6, _⟩
    · exact ⟨_, _, _, h6⟩
    · exact ⟨_, _, _, h6⟩

theorem itemsCells_length (t : ByteArray) {T : Type} (xs : List ((Hd × T × T) × (Value × Value))) : (itemsCells t xs).length = xs.length * 7 := by
  induction xs with
  | nil => rfl
  | cons x r ih => simp only [itemsCells, List.flatMap_cons, List.length_append, List.length_cons] at *; rw [ih]; simp [stmtCells]; omega

theorem itemsCells_snoc (t : ByteArray) {T : Type} (xs : List ((Hd × T × T) × (Value × Value))) (x : (Hd × T × T) × (Value × Value)) : itemsCells t (xs ++ [x]) = itemsCells t xs ++ stmtCells t x.1.1 x.2 := by
  simp [itemsCells]

theorem Try.infoStmt : (Try.prog.info? 161).map (fun i => (i.zero, i.size, i.bytes)) = some (some (.agg #[.string ByteArray.empty, .int .i64 0, .int .i64 0, .int .i64 0, .slice none 0 0, .slice none 0 0, .int .i64 0]), 7, 96) := by kernel_rfl

/-- Some words of a list of words lie where they lie. -/
theorem WordsAt.sub {t : ByteArray} {w : World} {b off : Nat} {ws : List (Nat × Nat)} (h : WordsAt t w b off ws) (i n : Nat) (us : List (Nat × Nat)) (hu : us = (ws.drop i).take n) : WordsAt t w b (off + i * 2) us := by
  subst hu
  intro j hj
  simp at hj
  obtain ⟨h1, h2⟩ := h (i + j) (by omega)
  have e : ((ws.drop i).take n)[j] = ws[i + j] := by simp
  rw [e]
  exact ⟨by rw [show off + i * 2 + j * 2 = off + (i + j) * 2 from by omega]; exact h1, by rw [show off + i * 2 + j * 2 + 1 = off + (i + j) * 2 + 1 from by omega]; exact h2⟩

end Go.Proofs.Ytiaibigmbflpiaa
