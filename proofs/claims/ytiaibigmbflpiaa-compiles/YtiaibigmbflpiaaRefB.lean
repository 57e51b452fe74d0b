/- What Words of the document's own answer gives back: a fresh list of the text's words. -/
import Derived.Test.YtiaibigmbflpiaaRefA
import Derived.Test.YtiaibigmbflpiaaPureB
import Derived.Test.YtiaibigmbflpiaaKitA
namespace Go.Proofs.Ytiaibigmbflpiaa
open Go.RowKit Go.Proofs.Herald

/-- A word's cells: its letters, and where it begins. -/
def wordCells (t : ByteArray) (p : Nat × Nat) : List Value := [.string (t.extract p.1 p.2), .int .i64 p.1]
def wordsCells (t : ByteArray) (l : List (Nat × Nat)) : List Value := l.flatMap (wordCells t)

theorem Try.infoWord : (Try.prog.info? 157).map (fun i => (i.zero, i.size, i.bytes)) = some (some (.agg #[.string ByteArray.empty, .int .i64 0]), 2, 24) := by kernel_rfl

theorem wordsCells_snoc (t : ByteArray) (l : List (Nat × Nat)) (p : Nat × Nat) : wordsCells t (l ++ [p]) = wordsCells t l ++ [.string (t.extract p.1 p.2), .int .i64 p.1] := by
  simp [wordsCells, wordCells]

theorem wordsCells_length (t : ByteArray) (l : List (Nat × Nat)) : (wordsCells t l).length = l.length * 2 := by
  induction l with
  | nil => rfl
  | cons p r ih => simp only [wordsCells, List.flatMap_cons, List.length_append, List.length_cons] at *; rw [ih]; simp [wordCells]; omega

theorem one_word (a : ByteArray) (b : Int) : ∀ u ∈ [Value.string a, Value.int .i64 b], u.oneCell' = true := by
  intro u hu; simp at hu; rcases hu with rfl | rfl <;> rfl

/-- What holds of the loop over a text's bytes. -/
def WordsInv (t : ByteArray) (w : World) (k : Nat) (l : List (Nat × Nat)) (g : Option Nat) (v : Value) (wr : World) : Prop :=
  k ≤ t.size + 1 ∧ (∀ b, g = some b → b < k ∧ k ≤ t.size) ∧ (k ≤ t.size → l ++ scanW k g (t.data.toList.drop k) = wordsL t.data.toList) ∧ (k = t.size + 1 → l = wordsL t.data.toList) ∧
      wr.ownsRow w.heap.size 157 2 v l.length (wordsCells t l) ∧ Below w.heap.size w wr

theorem WordsInv.push {t : ByteArray} {w : World} {l : List (Nat × Nat)} {v : Value} {wr : World} (p : Nat × Nat)
    (h : wr.ownsRow w.heap.size 157 2 v (l.length + 1) (wordsCells t l ++ [.string (t.extract p.1 p.2), .int .i64 p.1])) :
    wr.ownsRow w.heap.size 157 2 v (l ++ [p]).length (wordsCells t (l ++ [p])) := by
  rw [wordsCells_snoc]; simpa using h

theorem WordsInv.short {t : ByteArray} {k : Nat} {l : List (Nat × Nat)} {g : Option Nat} (h : l ++ scanW k g (t.data.toList.drop k) = wordsL t.data.toList) : l.length ≤ t.size := by
  have h1 := wordsL_length t.data.toList
  rw [← h] at h1
  simp at h1
  omega

set_option maxHeartbeats 2000000 in
theorem Words_any (t : ByteArray) (w : World) (ht : t.size ≤ 400) :
    Calls Try.prog 43 #[.string t] w fun e w' => ∃ v, e = .returned v ∧
      w'.ownsRow w.heap.size 157 2 v (wordsL t.data.toList).length (wordsCells t (wordsL t.data.toList)) ∧ Below w.heap.size w w' := by
  go_enter Try.func43, Try.ntmps43
  go_wp2
  go_loopw [3, 4, 5] (fun v f i wr => ∃ (k : Nat) (l : List (Nat × Nat)) (g : Option Nat), i = .int .i64 k ∧ f = .int .i64 (fromI g) ∧ WordsInv t w k l g v wr)
    (fun _ _ i _ => t.size + 1 - (intOf i).toNat)
  case atStart => exact ⟨0, [], none, rfl, rfl, by omega, by simp, fun _ => rfl, by omega, World.ownsRow_nil _ _ _ _, Below.refl _ _⟩
  case round =>
    obtain ⟨k, l, g, rfl, rfl, hk, hg, hl, hend, hown, hbel⟩ := hrel
    by_cases hle : k ≤ t.size
    · have HL : Hid (l ++ scanW k g (t.data.toList.drop k) = wordsL t.data.toList) := hl hle
      have hll : l.length ≤ t.size := WordsInv.short (hl hle)
      have hbs : w.heap.size ≤ wr.heap.size := hbel.size
      clear hl hend
      by_cases hlt : k < t.size
      · by_cases h1 : ((t[k]).toNat : Int) = 123 ∨ ((t[k]).toNat : Int) = 125
        · have HS : Hid (scanW k g (t.data.toList.drop k) = shutW g k ++ (k, k + 1) :: scanW (k + 1) none (t.data.toList.drop (k + 1))) := scanW_brace t k hlt g h1
          cases g with
          | none =>
            simp only [fromI_none]
            clear hg
            rcases h1 with h1 | h1
            · have a1 : (((t[k]).toNat : Int) == 123) = true := by simp [h1]
              clear h1
              go_wp2_with (at_builtin; refine wpList_push wr w rfl (.tmp 48) (.tmp 56) 105 rfl 157 _ 2 24 Try.underlying105 Try.infoWord rfl (by decide) (by decide) w.heap.size _ _ _ (by rfl) hown [.string (t.extract k (k + 1)), .int .i64 k] (by rfl) rfl (one_word _ _) (by omega) hbel (by omega) ?_)
              intro v1 w1 hown1 hb1 hs1 hg1
              go_wp2
              go_roundw
              case rel => exact ⟨k + 1, l ++ [(k, k + 1)], none, by go_num, rfl, by omega, by simp, fun _ => by have := HL.out; rw [HS.out] at this; simpa [shutW] using this, fun h => by omega, WordsInv.push (k, k + 1) hown1, hb1⟩
              case measure => simp [intOf]; omega
            · have a1 : (((t[k]).toNat : Int) == 123) = false := by simp [h1]
              have a2 : (((t[k]).toNat : Int) == 125) = true := by simp [h1]
              clear h1
              go_wp2_with (at_builtin; refine wpList_push wr w rfl (.tmp 48) (.tmp 56) 105 rfl 157 _ 2 24 Try.underlying105 Try.infoWord rfl (by decide) (by decide) w.heap.size _ _ _ (by rfl) hown [.string (t.extract k (k + 1)), .int .i64 k] (by rfl) rfl (one_word _ _) (by omega) hbel (by omega) ?_)
              intro v1 w1 hown1 hb1 hs1 hg1
              go_wp2
              go_roundw
              case rel => exact ⟨k + 1, l ++ [(k, k + 1)], none, by go_num, rfl, by omega, by simp, fun _ => by have := HL.out; rw [HS.out] at this; simpa [shutW] using this, fun h => by omega, WordsInv.push (k, k + 1) hown1, hb1⟩
              case measure => simp [intOf]; omega
          | some b =>
            simp only [fromI_some]
            obtain ⟨hgb, hgk⟩ := hg b rfl
            clear hg
            rcases h1 with h1 | h1
            · have a1 : (((t[k]).toNat : Int) == 123) = true := by simp [h1]
              clear h1
              go_wp2_with (at_builtin; refine wpList_push wr w rfl (.tmp 38) (.tmp 45) 105 rfl 157 _ 2 24 Try.underlying105 Try.infoWord rfl (by decide) (by decide) w.heap.size _ _ _ (by rfl) hown [.string (t.extract b k), .int .i64 b] (by rfl) rfl (one_word _ _) (by omega) hbel (by omega) ?_)
              intro v1 w1 hown1 hb1 hs1 hg1
              go_wp2_with (at_builtin; refine wpList_push w1 w rfl (.tmp 48) (.tmp 56) 105 rfl 157 _ 2 24 Try.underlying105 Try.infoWord rfl (by decide) (by decide) w.heap.size _ _ _ (by rfl) hown1 [.string (t.extract k (k + 1)), .int .i64 k] (by rfl) rfl (one_word _ _) (by omega) hb1 (by omega) ?_)
              intro v2 w2 hown2 hb2 hs2 hg2
              go_wp2
              go_roundw
              case rel => exact ⟨k + 1, (l ++ [(b, k)]) ++ [(k, k + 1)], none, by go_num, rfl, by omega, by simp, fun _ => by have := HL.out; rw [HS.out] at this; simpa [shutW] using this, fun h => by omega, WordsInv.push (k, k + 1) (by rw [List.length_append, wordsCells_snoc, List.append_assoc]; exact hown2), hb2⟩
              case measure => simp [intOf]; omega
            · have a1 : (((t[k]).toNat : Int) == 123) = false := by simp [h1]
              have a2 : (((t[k]).toNat : Int) == 125) = true := by simp [h1]
              clear h1
              go_wp2_with (at_builtin; refine wpList_push wr w rfl (.tmp 38) (.tmp 45) 105 rfl 157 _ 2 24 Try.underlying105 Try.infoWord rfl (by decide) (by decide) w.heap.size _ _ _ (by rfl) hown [.string (t.extract b k), .int .i64 b] (by rfl) rfl (one_word _ _) (by omega) hbel (by omega) ?_)
              intro v1 w1 hown1 hb1 hs1 hg1
              go_wp2_with (at_builtin; refine wpList_push w1 w rfl (.tmp 48) (.tmp 56) 105 rfl 157 _ 2 24 Try.underlying105 Try.infoWord rfl (by decide) (by decide) w.heap.size _ _ _ (by rfl) hown1 [.string (t.extract k (k + 1)), .int .i64 k] (by rfl) rfl (one_word _ _) (by omega) hb1 (by omega) ?_)
              intro v2 w2 hown2 hb2 hs2 hg2
              go_wp2
              go_roundw
              case rel => exact ⟨k + 1, (l ++ [(b, k)]) ++ [(k, k + 1)], none, by go_num, rfl, by omega, by simp, fun _ => by have := HL.out; rw [HS.out] at this; simpa [shutW] using this, fun h => by omega, WordsInv.push (k, k + 1) (by rw [List.length_append, wordsCells_snoc, List.append_assoc]; exact hown2), hb2⟩
              case measure => simp [intOf]; omega
        · by_cases h2 : ((t[k]).toNat : Int) = 32 ∨ ((t[k]).toNat : Int) = 10
          · have HS : Hid (scanW k g (t.data.toList.drop k) = shutW g k ++ scanW (k + 1) none (t.data.toList.drop (k + 1))) := scanW_gap t k hlt g h2
            cases g with
            | none =>
              simp only [fromI_none]
              clear hg
              rcases h2 with h2 | h2
              · have a1 : (((t[k]).toNat : Int) == 123) = false := by simp [h2]
                have a2 : (((t[k]).toNat : Int) == 125) = false := by simp [h2]
                have a3 : (((t[k]).toNat : Int) == 32) = true := by simp [h2]
                clear h1 h2
                go_wp2
                go_roundw
                case rel => exact ⟨k + 1, l, none, by go_num, rfl, by omega, by simp, fun _ => by have := HL.out; rw [HS.out] at this; simpa [shutW] using this, fun h => by omega, hown, hbel⟩
                case measure => simp [intOf]; omega
              · have a1 : (((t[k]).toNat : Int) == 123) = false := by simp [h2]
                have a2 : (((t[k]).toNat : Int) == 125) = false := by simp [h2]
                have a3 : (((t[k]).toNat : Int) == 32) = false := by simp [h2]
                have a4 : (((t[k]).toNat : Int) == 10) = true := by simp [h2]
                clear h1 h2
                go_wp2
                go_roundw
                case rel => exact ⟨k + 1, l, none, by go_num, rfl, by omega, by simp, fun _ => by have := HL.out; rw [HS.out] at this; simpa [shutW] using this, fun h => by omega, hown, hbel⟩
                case measure => simp [intOf]; omega
            | some b =>
              simp only [fromI_some]
              obtain ⟨hgb, hgk⟩ := hg b rfl
              clear hg
              rcases h2 with h2 | h2
              · have a1 : (((t[k]).toNat : Int) == 123) = false := by simp [h2]
                have a2 : (((t[k]).toNat : Int) == 125) = false := by simp [h2]
                have a3 : (((t[k]).toNat : Int) == 32) = true := by simp [h2]
                clear h1 h2
                go_wp2_with (at_builtin; refine wpList_push wr w rfl (.tmp 38) (.tmp 45) 105 rfl 157 _ 2 24 Try.underlying105 Try.infoWord rfl (by decide) (by decide) w.heap.size _ _ _ (by rfl) hown [.string (t.extract b k), .int .i64 b] (by rfl) rfl (one_word _ _) (by omega) hbel (by omega) ?_)
                intro v1 w1 hown1 hb1 hs1 hg1
                go_wp2
                go_roundw
                case rel => exact ⟨k + 1, l ++ [(b, k)], none, by go_num, rfl, by omega, by simp, fun _ => by have := HL.out; rw [HS.out] at this; simpa [shutW] using this, fun h => by omega, WordsInv.push (b, k) hown1, hb1⟩
                case measure => simp [intOf]; omega
              · have a1 : (((t[k]).toNat : Int) == 123) = false := by simp [h2]
                have a2 : (((t[k]).toNat : Int) == 125) = false := by simp [h2]
                have a3 : (((t[k]).toNat : Int) == 32) = false := by simp [h2]
                have a4 : (((t[k]).toNat : Int) == 10) = true := by simp [h2]
                clear h1 h2
                go_wp2_with (at_builtin; refine wpList_push wr w rfl (.tmp 38) (.tmp 45) 105 rfl 157 _ 2 24 Try.underlying105 Try.infoWord rfl (by decide) (by decide) w.heap.size _ _ _ (by rfl) hown [.string (t.extract b k), .int .i64 b] (by rfl) rfl (one_word _ _) (by omega) hbel (by omega) ?_)
                intro v1 w1 hown1 hb1 hs1 hg1
                go_wp2
                go_roundw
                case rel => exact ⟨k + 1, l ++ [(b, k)], none, by go_num, rfl, by omega, by simp, fun _ => by have := HL.out; rw [HS.out] at this; simpa [shutW] using this, fun h => by omega, WordsInv.push (b, k) hown1, hb1⟩
                case measure => simp [intOf]; omega
          · have HS : Hid (scanW k g (t.data.toList.drop k) = scanW (k + 1) (some (g.getD k)) (t.data.toList.drop (k + 1))) := scanW_other t k hlt g (by omega) (by omega) (by omega) (by omega)
            cases g with
            | none =>
              simp only [fromI_none]
              clear hg
              have a1 : (((t[k]).toNat : Int) == 123) = false := by simp; omega
              have a2 : (((t[k]).toNat : Int) == 125) = false := by simp; omega
              have a3 : (((t[k]).toNat : Int) == 32) = false := by simp; omega
              have a4 : (((t[k]).toNat : Int) == 10) = false := by simp; omega
              clear h1 h2
              go_wp2
              go_roundw
              case rel => exact ⟨k + 1, l, some k, by go_num, by go_num, by omega, by intro b hb; simp at hb; omega, fun _ => by have := HL.out; rw [HS.out] at this; simpa using this, fun h => by omega, hown, hbel⟩
              case measure => simp [intOf]; omega
            | some b =>
              simp only [fromI_some]
              obtain ⟨hgb, hgk⟩ := hg b rfl
              clear hg
              have a1 : (((t[k]).toNat : Int) == 123) = false := by simp; omega
              have a2 : (((t[k]).toNat : Int) == 125) = false := by simp; omega
              have a3 : (((t[k]).toNat : Int) == 32) = false := by simp; omega
              have a4 : (((t[k]).toNat : Int) == 10) = false := by simp; omega
              clear h1 h2
              go_wp2
              go_roundw
              case rel => exact ⟨k + 1, l, some b, by go_num, by go_num, by omega, by intro c hb; simp at hb; omega, fun _ => by have := HL.out; rw [HS.out] at this; simpa using this, fun h => by omega, hown, hbel⟩
              case measure => simp [intOf]; omega
      · have HS : Hid (scanW k g (t.data.toList.drop k) = shutW g k) := scanW_end t k (by omega) g
        cases g with
        | none =>
          simp only [fromI_none]
          clear hg
          go_wp2
          go_roundw
          case rel => exact ⟨k + 1, l, none, by go_num, rfl, by omega, by simp, fun h => by omega, fun _ => by have := HL.out; rw [HS.out] at this; simpa [shutW] using this, hown, hbel⟩
          case measure => simp [intOf]; omega
        | some b =>
          simp only [fromI_some]
          obtain ⟨hgb, hgk⟩ := hg b rfl
          clear hg
          go_wp2_with (at_builtin; refine wpList_push wr w rfl (.tmp 38) (.tmp 45) 105 rfl 157 _ 2 24 Try.underlying105 Try.infoWord rfl (by decide) (by decide) w.heap.size _ _ _ (by rfl) hown [.string (t.extract b k), .int .i64 b] (by rfl) rfl (one_word _ _) (by omega) hbel (by omega) ?_)
          intro v1 w1 hown1 hb1 hs1 hg1
          go_wp2
          go_roundw
          case rel => exact ⟨k + 1, l ++ [(b, k)], none, by go_num, rfl, by omega, by simp, fun h => by omega, fun _ => by have := HL.out; rw [HS.out] at this; simpa [shutW] using this, WordsInv.push (b, k) hown1, hb1⟩
          case measure => simp [intOf]; omega
    · have HE : Hid (l = wordsL t.data.toList) := hend (by omega)
      clear hl hend hg
      go_wp2
      go_ret
      exact ⟨_, rfl, by rw [← HE.out]; exact hown, hbel⟩

end Go.Proofs.Ytiaibigmbflpiaa
