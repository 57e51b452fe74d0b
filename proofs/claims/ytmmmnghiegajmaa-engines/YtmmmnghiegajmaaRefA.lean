/- What the small functions of the document's own answer give back: contracts of num, key, greater, behind, most. What Words of the document's own answer gives back: a fresh list of the text's words. What deep and shut of the document's own answer give back. -/
import Derived.Test.YtmmmnghiegajmaaProg
import Derived.Test.YtmmmnghiegajmaaPure
import Derived.WalkKit
import Derived.WalkSpells
import Derived.WalkLawsBesides
import Derived.Test.YtmmmnghiegajmaaKit
namespace Go.Proofs.Ytmmmnghiegajmaa
open Go.RowKit Go.Proofs.Herald


theorem ret_int {k : IntKind} {a b : Int} (h : a = b) : Ending.returned (.int k a) = .returned (.int k b) := by rw [h]

set_option maxHeartbeats 400000 in
theorem greater_any (a b : Int) (w : World) :
    Calls Try.prog 50 #[.int .i64 a, .int .i64 b] w fun e w' => e = .returned (.int .i64 (maxI a b)) ∧ w' = w := by
  by_cases h : b < a
  · go_enter Try.func50, Try.ntmps50
    go_wp2
    go_ret
    exact ⟨ret_int (by simp [maxI, h]), rfl⟩
  · have h' : a ≤ b := by omega
    go_enter Try.func50, Try.ntmps50
    go_wp2
    go_ret
    exact ⟨ret_int (by rw [maxI, if_neg (by omega)]), rfl⟩

set_option maxHeartbeats 400000 in
theorem behind_any (a b : Int) (w : World) (ha : a ≤ 1000000000000) (hb : b ≤ 1000000000000) :
    Calls Try.prog 84 #[.int .i64 a, .int .i64 b] w fun e w' => e = .returned (.int .i64 (behindI a b)) ∧ w' = w := by
  by_cases h : a < 0
  · go_enter Try.func84, Try.ntmps84
    go_wp2
    go_ret
    exact ⟨ret_int (by rw [behindI, if_pos (by omega)]), rfl⟩
  · by_cases h2 : b < 0
    · go_enter Try.func84, Try.ntmps84
      go_wp2
      go_ret
      exact ⟨ret_int (by rw [behindI, if_pos (by omega)]), rfl⟩
    · go_enter Try.func84, Try.ntmps84
      go_wp2
      go_ret
      exact ⟨ret_int (by rw [behindI, if_neg (by omega)]), rfl⟩

set_option maxHeartbeats 400000 in
theorem most_any (s : Int) (w : World) :
    Calls Try.prog 80 #[.int .i64 s] w fun e w' => e = .returned (.int .i64 (mostI s)) ∧ w' = w := by
  by_cases h : s = 4
  · subst h
    go_enter Try.func80, Try.ntmps80
    go_wp2
    go_ret
    exact ⟨rfl, rfl⟩
  · by_cases h2 : s = 5
    · subst h2
      go_enter Try.func80, Try.ntmps80
      go_wp2
      go_ret
      exact ⟨rfl, rfl⟩
    · have hb : (s == 4) = false := by simp [h]
      have hb2 : (s == 5) = false := by simp [h2]
      go_enter Try.func80, Try.ntmps80
      go_wp2
      go_ret
      exact ⟨ret_int (by simp [mostI, h, h2]), rfl⟩

set_option maxHeartbeats 400000 in
theorem key_any (s : ByteArray) (w : World) :
    Calls Try.prog 81 #[.string s] w fun e w' => e = .returned (.int .i64 (keyL s.data.toList)) ∧ w' = w := by
  by_cases h1 : s.size = 1
  · have hp : 0 < s.size := by omega
    have hk := keyL_one s h1 hp
    have HK : Hid (keyL s.data.toList = if (97 : Int) ≤ ((s[0]'hp).toNat : Int) ∧ ((s[0]'hp).toNat : Int) < 105 then ((s[0]'hp).toNat : Int) - 97 else -1) := hk
    clear hk
    go_enter Try.func81, Try.ntmps81
    go_wp2
    all_goals
      go_ret
      exact ⟨ret_int (by have := (s[0]'hp).toNat_lt; rw [HK.out]; split <;> omega), rfl⟩
  · have hk := keyL_not s h1
    have HK : Hid (keyL s.data.toList = -1) := hk
    clear hk
    go_enter Try.func81, Try.ntmps81
    go_wp2
    go_ret
    exact ⟨ret_int HK.out.symm, rfl⟩

theorem isEmpty_yes (s : ByteArray) (h : s.size = 0) : s.toList.isEmpty = true := by
  rw [ByteArray.toList_eq, List.isEmpty_iff, ← List.length_eq_zero_iff]; simpa using h

theorem isEmpty_no (s : ByteArray) (h : ¬ s.size = 0) : s.toList.isEmpty = false := by
  rw [ByteArray.toList_eq, List.isEmpty_eq_false_iff, ne_eq, ← List.length_eq_zero_iff]; simpa using h

set_option maxHeartbeats 400000 in
theorem num_any (s : ByteArray) (w : World) (hs : s.size ≤ maxLen) :
    Calls Try.prog 79 #[.string s] w fun e w' => e = .returned (.int .i64 (numL s.data.toList)) ∧ w' = w := by
  unfold maxLen at hs
  by_cases h0 : s.size = 0
  · have HK : Hid (numL s.data.toList = -1) := numL_long s (.inl h0)
    have he : s.toList.isEmpty = true := isEmpty_yes s h0
    go_enter Try.func79, Try.ntmps79
    go_wp2
    go_ret
    exact ⟨ret_int HK.out.symm, rfl⟩
  · have he : s.toList.isEmpty = false := isEmpty_no s h0
    by_cases h4 : 4 < s.size
    · have HK : Hid (numL s.data.toList = -1) := numL_long s (.inr h4)
      go_enter Try.func79, Try.ntmps79
      go_wp2
      go_ret
      exact ⟨ret_int HK.out.symm, rfl⟩
    · have HK : Hid (numL s.data.toList = (digs 0 s.data.toList).getD (-1)) := numL_short s h0 (by omega)
      have h4' : s.size ≤ 4 := by omega
      clear h4
      go_enter Try.func79, Try.ntmps79
      go_wp2
      go_loop [3, 4] (fun n i => ∃ (k : Nat) (m : Int), k ≤ s.size ∧ i = .int .i64 k ∧ n = .int .i64 m ∧ digs 0 (s.data.toList.take k) = some m) (fun _ i => s.size - (intOf i).toNat)
      case atStart => exact ⟨0, 0, Nat.zero_le _, rfl, rfl, rfl⟩
      case round =>
        obtain ⟨k, m, hk, rfl, rfl, hm⟩ := hrel
        have HM : Hid (digs 0 (s.data.toList.take k) = some m) := hm
        have hmb := digs_take_bound s k (by omega) m hm
        clear hm
        by_cases hlt : k < s.size
        · by_cases hc : ((s[k]).toNat : Int) < 48 ∨ 57 < ((s[k]).toNat : Int)
          · have HN : Hid (digs 0 s.data.toList = none) := digs_no s k hlt m HM.out hc
            rcases hc with hc | hc
            all_goals
              go_wp2
              go_ret
              exact ⟨ret_int (by rw [HK.out, HN.out]; rfl), rfl⟩
          · have h1 : (48 : Int) ≤ ((s[k]).toNat : Int) := by omega
            have h2 : ((s[k]).toNat : Int) ≤ 57 := by omega
            have HY : Hid (digs 0 (s.data.toList.take (k + 1)) = some (10 * m + (((s[k]).toNat : Int) - 48))) := digs_yes s k hlt m HM.out h1 h2
            clear hc
            go_wp2
            go_round
            case rel => exact ⟨k + 1, 10 * m + (((s[k]).toNat : Int) - 48), by omega, by go_num, by go_num, HY.out⟩
            case measure => simp [intOf]; omega
        · have HE : Hid (s.data.toList.take k = s.data.toList) := List.take_of_length_le (by simp; omega)
          go_wp2
          go_ret
          exact ⟨ret_int (by rw [HK.out, ← HE.out, HM.out]; rfl), rfl⟩

end Go.Proofs.Ytmmmnghiegajmaa

namespace Go.Proofs.Ytmmmnghiegajmaa
open Go.RowKit Go.Proofs.Herald

/-- A word's cells: its letters, and where it begins. -/
def wordCells (t : ByteArray) (p : Nat × Nat) : List Value := [.string (t.extract p.1 p.2), .int .i64 p.1]
def wordsCells (t : ByteArray) (l : List (Nat × Nat)) : List Value := l.flatMap (wordCells t)

theorem Try.infoWord : (Try.prog.info? 166).map (fun i => (i.zero, i.size, i.bytes)) = some (some (.agg #[.string ByteArray.empty, .int .i64 0]), 2, 24) := by kernel_rfl

theorem wordsCells_snoc (t : ByteArray) (l : List (Nat × Nat)) (p : Nat × Nat) : wordsCells t (l ++ [p]) = wordsCells t l ++ [.string (t.extract p.1 p.2), .int .i64 p.1] := by
  simp [wordsCells, wordCells]

theorem wordsCells_length (t : ByteArray) (l : List (Nat × Nat)) : (wordsCells t l).length = l.length * 2 := by
  induction l with
  | nil => rfl
  | cons p r ih => simp only [wordsCells, List.flatMap_cons, List.length_append, List.length_cons] at *; rw [ih]; simp [wordCells]; omega

theorem one_word (a : ByteArray) (b : Int) : ∀ u ∈ [Value.string a, Value.int .i64 b], u.oneCell' = true := by
  intro u hu; simp at hu; rcases hu with rfl | rfl <;> rfl

/-- What holds of the loop over a text's bytes. -/
def WordsInv (t : ByteArray) (w : World) (k : Nat) (l : List (Nat × Nat)) (g : Option Nat) (v : Value) (wr : World) : Prop :=
  k ≤ t.size + 1 ∧ (∀ b, g = some b → b < k ∧ k ≤ t.size) ∧ (k ≤ t.size → l ++ scanW k g (t.data.toList.drop k) = wordsL t.data.toList) ∧ (k = t.size + 1 → l = wordsL t.data.toList) ∧
      wr.ownsRow w.heap.size 166 2 v l.length (wordsCells t l) ∧ Below w.heap.size w wr

theorem WordsInv.push {t : ByteArray} {w : World} {l : List (Nat × Nat)} {v : Value} {wr : World} (p : Nat × Nat)
    (h : wr.ownsRow w.heap.size 166 2 v (l.length + 1) (wordsCells t l ++ [.string (t.extract p.1 p.2), .int .i64 p.1])) :
    wr.ownsRow w.heap.size 166 2 v (l ++ [p]).length (wordsCells t (l ++ [p])) := by
  rw [wordsCells_snoc]; simpa using h

theorem WordsInv.short {t : ByteArray} {k : Nat} {l : List (Nat × Nat)} {g : Option Nat} (h : l ++ scanW k g (t.data.toList.drop k) = wordsL t.data.toList) : l.length ≤ t.size := by
  have h1 := wordsL_length t.data.toList
  rw [← h] at h1
  simp at h1
  omega

set_option maxHeartbeats 2000000 in
theorem Words_any (t : ByteArray) (w : World) (ht : t.size ≤ 400) :
    Calls Try.prog 45 #[.string t] w fun e w' => ∃ v, e = .returned v ∧
      w'.ownsRow w.heap.size 166 2 v (wordsL t.data.toList).length (wordsCells t (wordsL t.data.toList)) ∧ Below w.heap.size w w' := by
  go_enter Try.func45, Try.ntmps45
  go_wp2
  go_loopw [3, 4, 5] (fun v f i wr => ∃ (k : Nat) (l : List (Nat × Nat)) (g : Option Nat), i = .int .i64 k ∧ f = .int .i64 (fromI g) ∧ WordsInv t w k l g v wr)
    (fun _ _ i _ => t.size + 1 - (intOf i).toNat)
  case atStart => exact ⟨0, [], none, rfl, rfl, by omega, by simp, fun _ => rfl, by omega, World.ownsRow_nil _ _ _ _, Below.refl _ _⟩
  case round =>
    obtain ⟨k, l, g, rfl, rfl, hk, hg, hl, hend, hown, hbel⟩ := hrel
    by_cases hle : k ≤ t.size
    · have HL : Hid (l ++ scanW k g (t.data.toList.drop k) = wordsL t.data.toList) := hl hle
      have hll : l.length ≤ t.size := WordsInv.short (hl hle)
      have hbs : w.heap.size ≤ wr.heap.size := hbel.size
      clear hl hend
      by_cases hlt : k < t.size
      · by_cases h1 : ((t[k]).toNat : Int) = 123 ∨ ((t[k]).toNat : Int) = 125
        · have HS : Hid (scanW k g (t.data.toList.drop k) = shutW g k ++ (k, k + 1) :: scanW (k + 1) none (t.data.toList.drop (k + 1))) := scanW_brace t k hlt g h1
          cases g with
          | none =>
            simp only [fromI_none]
            clear hg
            rcases h1 with h1 | h1
            · have a1 : (((t[k]).toNat : Int) == 123) = true := by simp [h1]
              clear h1
              go_wp2_with (at_builtin; refine wpList_push wr w rfl (.tmp 48) (.tmp 56) 107 rfl 166 _ 2 24 Try.underlying107 Try.infoWord rfl (by decide) (by decide) w.heap.size _ _ _ (by rfl) hown [.string (t.extract k (k + 1)), .int .i64 k] (by rfl) rfl (one_word _ _) (by omega) hbel (by omega) ?_)
              intro v1 w1 hown1 hb1 hs1 hg1
              go_wp2
              go_roundw
              case rel => exact ⟨k + 1, l ++ [(k, k + 1)], none, by go_num, rfl, by omega, by simp, fun _ => by have := HL.out; rw [HS.out] at this; simpa [shutW] using this, fun h => by omega, WordsInv.push (k, k + 1) hown1, hb1⟩
              case measure => simp [intOf]; omega
            · have a1 : (((t[k]).toNat : Int) == 123) = false := by simp [h1]
              have a2 : (((t[k]).toNat : Int) == 125) = true := by simp [h1]
              clear h1
              go_wp2_with (at_builtin; refine wpList_push wr w rfl (.tmp 48) (.tmp 56) 107 rfl 166 _ 2 24 Try.underlying107 Try.infoWord rfl (by decide) (by decide) w.heap.size _ _ _ (by rfl) hown [.string (t.extract k (k + 1)), .int .i64 k] (by rfl) rfl (one_word _ _) (by omega) hbel (by omega) ?_)
              intro v1 w1 hown1 hb1 hs1 hg1
              go_wp2
              go_roundw
              case rel => exact ⟨k + 1, l ++ [(k, k + 1)], none, by go_num, rfl, by omega, by simp, fun _ => by have := HL.out; rw [HS.out] at this; simpa [shutW] using this, fun h => by omega, WordsInv.push (k, k + 1) hown1, hb1⟩
              case measure => simp [intOf]; omega
          | some b =>
            simp only [fromI_some]
            obtain ⟨hgb, hgk⟩ := hg b rfl
            clear hg
            rcases h1 with h1 | h1
            · have a1 : (((t[k]).toNat : Int) == 123) = true := by simp [h1]
              clear h1
              go_wp2_with (at_builtin; refine wpList_push wr w rfl (.tmp 38) (.tmp 45) 107 rfl 166 _ 2 24 Try.underlying107 Try.infoWord rfl (by decide) (by decide) w.heap.size _ _ _ (by rfl) hown [.string (t.extract b k), .int .i64 b] (by rfl) rfl (one_word _ _) (by omega) hbel (by omega) ?_)
              intro v1 w1 hown1 hb1 hs1 hg1
              go_wp2_with (at_builtin; refine wpList_push w1 w rfl (.tmp 48) (.tmp 56) 107 rfl 166 _ 2 24 Try.underlying107 Try.infoWord rfl (by decide) (by decide) w.heap.size _ _ _ (by rfl) hown1 [.string (t.extract k (k + 1)), .int .i64 k] (by rfl) rfl (one_word _ _) (by omega) hb1 (by omega) ?_)
              intro v2 w2 hown2 hb2 hs2 hg2
              go_wp2
              go_roundw
              case rel => exact ⟨k + 1, (l ++ [(b, k)]) ++ [(k, k + 1)], none, by go_num, rfl, by omega, by simp, fun _ => by have := HL.out; rw [HS.out] at this; simpa [shutW] using this, fun h => by omega, WordsInv.push (k, k + 1) (by rw [List.length_append, wordsCells_snoc, List.append_assoc]; exact hown2), hb2⟩
              case measure => simp [intOf]; omega
            · have a1 : (((t[k]).toNat : Int) == 123) = false := by simp [h1]
              have a2 : (((t[k]).toNat : Int) == 125) = true := by simp [h1]
              clear h1
              go_wp2_with (at_builtin; refine wpList_push wr w rfl (.tmp 38) (.tmp 45) 107 rfl 166 _ 2 24 Try.underlying107 Try.infoWord rfl (by decide) (by decide) w.heap.size _ _ _ (by rfl) hown [.string (t.extract b k), .int .i64 b] (by rfl) rfl (one_word _ _) (by omega) hbel (by omega) ?_)
              intro v1 w1 hown1 hb1 hs1 hg1
              go_wp2_with (at_builtin; refine wpList_push w1 w rfl (.tmp 48) (.tmp 56) 107 rfl 166 _ 2 24 Try.underlying107 Try.infoWord rfl (by decide) (by decide) w.heap.size _ _ _ (by rfl) hown1 [.string (t.extract k (k + 1)), .int .i64 k] (by rfl) rfl (one_word _ _) (by omega) hb1 (by omega) ?_)
              intro v2 w2 hown2 hb2 hs2 hg2
              go_wp2
              go_roundw
              case rel => exact ⟨k + 1, (l ++ [(b, k)]) ++ [(k, k + 1)], none, by go_num, rfl, by omega, by simp, fun _ => by have := HL.out; rw [HS.out] at this; simpa [shutW] using this, fun h => by omega, WordsInv.push (k, k + 1) (by rw [List.length_append, wordsCells_snoc, List.append_assoc]; exact hown2), hb2⟩
              case measure => simp [intOf]; omega
        · by_cases h2 : ((t[k]).toNat : Int) = 32 ∨ ((t[k]).toNat : Int) = 10
          · have HS : Hid (scanW k g (t.data.toList.drop k) = shutW g k ++ scanW (k + 1) none (t.data.toList.drop (k + 1))) := scanW_gap t k hlt g h2
            cases g with
            | none =>
              simp only [fromI_none]
              clear hg
              rcases h2 with h2 | h2
              · have a1 : (((t[k]).toNat : Int) == 123) = false := by simp [h2]
                have a2 : (((t[k]).toNat : Int) == 125) = false := by simp [h2]
                have a3 : (((t[k]).toNat : Int) == 32) = true := by simp [h2]
                clear h1 h2
                go_wp2
                go_roundw
                case rel => exact ⟨k + 1, l, none, by go_num, rfl, by omega, by simp, fun _ => by have := HL.out; rw [HS.out] at this; simpa [shutW] using this, fun h => by omega, hown, hbel⟩
                case measure => simp [intOf]; omega
              · have a1 : (((t[k]).toNat : Int) == 123) = false := by simp [h2]
                have a2 : (((t[k]).toNat : Int) == 125) = false := by simp [h2]
                have a3 : (((t[k]).toNat : Int) == 32) = false := by simp [h2]
                have a4 : (((t[k]).toNat : Int) == 10) = true := by simp [h2]
                clear h1 h2
                go_wp2
                go_roundw
                case rel => exact ⟨k + 1, l, none, by go_num, rfl, by omega, by simp, fun _ => by have := HL.out; rw [HS.out] at this; simpa [shutW] using this, fun h => by omega, hown, hbel⟩
                case measure => simp [intOf]; omega
            | some b =>
              simp only [fromI_some]
              obtain ⟨hgb, hgk⟩ := hg b rfl
              clear hg
              rcases h2 with h2 | h2
              · have a1 : (((t[k]).toNat : Int) == 123) = false := by simp [h2]
                have a2 : (((t[k]).toNat : Int) == 125) = false := by simp [h2]
                have a3 : (((t[k]).toNat : Int) == 32) = true := by simp [h2]
                clear h1 h2
                go_wp2_with (at_builtin; refine wpList_push wr w rfl (.tmp 38) (.tmp 45) 107 rfl 166 _ 2 24 Try.underlying107 Try.infoWord rfl (by decide) (by decide) w.heap.size _ _ _ (by rfl) hown [.string (t.extract b k), .int .i64 b] (by rfl) rfl (one_word _ _) (by omega) hbel (by omega) ?_)
                intro v1 w1 hown1 hb1 hs1 hg1
                go_wp2
                go_roundw
                case rel => exact ⟨k + 1, l ++ [(b, k)], none, by go_num, rfl, by omega, by simp, fun _ => by have := HL.out; rw [HS.out] at this; simpa [shutW] using this, fun h => by omega, WordsInv.push (b, k) hown1, hb1⟩
                case measure => simp [intOf]; omega
              · have a1 : (((t[k]).toNat : Int) == 123) = false := by simp [h2]
                have a2 : (((t[k]).toNat : Int) == 125) = false := by simp [h2]
                have a3 : (((t[k]).toNat : Int) == 32) = false := by simp [h2]
                have a4 : (((t[k]).toNat : Int) == 10) = true := by simp [h2]
                clear h1 h2
                go_wp2_with (at_builtin; refine wpList_push wr w rfl (.tmp 38) (.tmp 45) 107 rfl 166 _ 2 24 Try.underlying107 Try.infoWord rfl (by decide) (by decide) w.heap.size _ _ _ (by rfl) hown [.string (t.extract b k), .int .i64 b] (by rfl) rfl (one_word _ _) (by omega) hbel (by omega) ?_)
                intro v1 w1 hown1 hb1 hs1 hg1
                go_wp2
                go_roundw
                case rel => exact ⟨k + 1, l ++ [(b, k)], none, by go_num, rfl, by omega, by simp, fun _ => by have := HL.out; rw [HS.out] at this; simpa [shutW] using this, fun h => by omega, WordsInv.push (b, k) hown1, hb1⟩
                case measure => simp [intOf]; omega
          · have HS : Hid (scanW k g (t.data.toList.drop k) = scanW (k + 1) (some (g.getD k)) (t.data.toList.drop (k + 1))) := scanW_other t k hlt g (by omega) (by omega) (by omega) (by omega)
            cases g with
            | none =>
              simp only [fromI_none]
              clear hg
              have a1 : (((t[k]).toNat : Int) == 123) = false := by simp; omega
              have a2 : (((t[k]).toNat : Int) == 125) = false := by simp; omega
              have a3 : (((t[k]).toNat : Int) == 32) = false := by simp; omega
              have a4 : (((t[k]).toNat : Int) == 10) = false := by simp; omega
              clear h1 h2
              go_wp2
              go_roundw
              case rel => exact ⟨k + 1, l, some k, by go_num, by go_num, by omega, by intro b hb; simp at hb; omega, fun _ => by have := HL.out; rw [HS.out] at this; simpa using this, fun h => by omega, hown, hbel⟩
              case measure => simp [intOf]; omega
            | some b =>
              simp only [fromI_some]
              obtain ⟨hgb, hgk⟩ := hg b rfl
              clear hg
              have a1 : (((t[k]).toNat : Int) == 123) = false := by simp; omega
              have a2 : (((t[k]).toNat : Int) == 125) = false := by simp; omega
              have a3 : (((t[k]).toNat : Int) == 32) = false := by simp; omega
              have a4 : (((t[k]).toNat : Int) == 10) = false := by simp; omega
              clear h1 h2
              go_wp2
              go_roundw
              case rel => exact ⟨k + 1, l, some b, by go_num, by go_num, by omega, by intro c hb; simp at hb; omega, fun _ => by have := HL.out; rw [HS.out] at this; simpa using this, fun h => by omega, hown, hbel⟩
              case measure => simp [intOf]; omega
      · have HS : Hid (scanW k g (t.data.toList.drop k) = shutW g k) := scanW_end t k (by omega) g
        cases g with
        | none =>
          simp only [fromI_none]
          clear hg
          go_wp2
          go_roundw
          case rel => exact ⟨k + 1, l, none, by go_num, rfl, by omega, by simp, fun h => by omega, fun _ => by have := HL.out; rw [HS.out] at this; simpa [shutW] using this, hown, hbel⟩
          case measure => simp [intOf]; omega
        | some b =>
          simp only [fromI_some]
          obtain ⟨hgb, hgk⟩ := hg b rfl
          clear hg
          go_wp2_with (at_builtin; refine wpList_push wr w rfl (.tmp 38) (.tmp 45) 107 rfl 166 _ 2 24 Try.underlying107 Try.infoWord rfl (by decide) (by decide) w.heap.size _ _ _ (by rfl) hown [.string (t.extract b k), .int .i64 b] (by rfl) rfl (one_word _ _) (by omega) hbel (by omega) ?_)
          intro v1 w1 hown1 hb1 hs1 hg1
          go_wp2
          go_roundw
          case rel => exact ⟨k + 1, l ++ [(b, k)], none, by go_num, rfl, by omega, by simp, fun h => by omega, fun _ => by have := HL.out; rw [HS.out] at this; simpa [shutW] using this, WordsInv.push (b, k) hown1, hb1⟩
          case measure => simp [intOf]; omega
    · have HE : Hid (l = wordsL t.data.toList) := hend (by omega)
      clear hl hend hg
      go_wp2
      go_ret
      exact ⟨_, rfl, by rw [← HE.out]; exact hown, hbel⟩

end Go.Proofs.Ytmmmnghiegajmaa

namespace Go.Proofs.Ytmmmnghiegajmaa
open Go.RowKit Go.Proofs.Herald

/-- The words' cells lie at a place of a block. -/
def WordsAt (t : ByteArray) (w : World) (b off : Nat) (ws : List (Nat × Nat)) : Prop :=
  ∀ (i : Nat) (h : i < ws.length), w.cell? ⟨b, off + i * 2, none⟩ = some (.string (t.extract ws[i].1 ws[i].2)) ∧ w.cell? ⟨b, off + i * 2 + 1, none⟩ = some (.int .i64 ws[i].1)

theorem beq_yes {s : ByteArray} {l : List UInt8} (h : s.data.toList = l) : (s.toList == l) = true := by rw [ByteArray.toList_eq, h]; simp
theorem beq_no {s : ByteArray} {l : List UInt8} (h : ¬ s.data.toList = l) : (s.toList == l) = false := by rw [ByteArray.toList_eq]; simpa using h

set_option maxHeartbeats 400000 in
theorem deep_any (t : ByteArray) (b off cap : Nat) (ws : List (Nat × Nat)) (w : World) (hlen : ws.length ≤ 400) (hw : WordsAt t w b off ws) :
    Calls Try.prog 46 #[.slice (some ⟨b, off, none⟩) ws.length cap] w fun e w' => e = .returned (.int .i64 (deepL t ws 0)) ∧ w' = w := by
  go_enter Try.func46, Try.ntmps46
  go_wp2
  go_loop [3, 4] (fun n i => ∃ (k : Nat) (m : Int), k ≤ ws.length ∧ i = .int .i64 k ∧ n = .int .i64 m ∧ -k ≤ m ∧ m ≤ k ∧ deepL t (ws.drop k) m = deepL t ws 0) (fun _ i => ws.length - (intOf i).toNat)
  case atStart => exact ⟨0, 0, Nat.zero_le _, rfl, rfl, by omega, by omega, rfl⟩
  case round =>
    obtain ⟨k, m, hk, rfl, rfl, hm1, hm2, hd⟩ := hrel
    by_cases hlt : k < ws.length
    · obtain ⟨hc1, hc2⟩ := hw k hlt
      rw [drop_cons_of ws k hlt, deepL] at hd
      by_cases h1 : bytesOf t ws[k] = [123]
      · rw [if_pos h1] at hd
        have e1 := beq_yes h1
        have e2 : ((t.extract ws[k].1 ws[k].2).toList == [125]) = false := beq_no (by unfold bytesOf at h1; rw [h1]; decide)
        by_cases h4 : 4 < m + 1
        · rw [if_pos h4] at hd
          have HD : Hid (_ = _) := hd
          clear hd h1
          go_wp2
          go_ret
          exact ⟨ret_int HD.out, rfl⟩
        · rw [if_neg h4] at hd
          have HD : Hid (_ = _) := hd
          clear hd h1
          go_wp2
          go_round
          case rel => exact ⟨k + 1, m + 1, by omega, by go_num, by go_num, by omega, by omega, HD.out⟩
          case measure => simp [intOf]; omega
      · rw [if_neg h1] at hd
        have e1 := beq_no h1
        by_cases h2 : bytesOf t ws[k] = [125]
        · rw [if_pos h2] at hd
          have e2 := beq_yes h2
          have HD : Hid (_ = _) := hd
          clear hd h1 h2
          go_wp2
          go_round
          case rel => exact ⟨k + 1, m - 1, by omega, by go_num, by go_num, by omega, by omega, HD.out⟩
          case measure => simp [intOf]; omega
        · rw [if_neg h2] at hd
          have e2 := beq_no h2
          have HD : Hid (_ = _) := hd
          clear hd h1 h2
          go_wp2
          go_round
          case rel => exact ⟨k + 1, m, by omega, by go_num, by go_num, by omega, by omega, HD.out⟩
          case measure => simp [intOf]; omega
    · rw [List.drop_of_length_le (by omega)] at hd
      have HD : Hid (_ = _) := hd
      clear hd
      go_wp2
      go_ret
      exact ⟨ret_int HD.out, rfl⟩

set_option maxHeartbeats 400000 in
theorem shut_any (t : ByteArray) (b off cap : Nat) (ws : List (Nat × Nat)) (w : World) (i : Int) (i0 j : Nat) (hi0 : i = i0) (hlen : ws.length ≤ 400) (hw : WordsAt t w b off ws)
    (hj : shutL t (ws.drop i0) 0 = some j) :
    Calls Try.prog 82 #[.slice (some ⟨b, off, none⟩) ws.length cap, .int .i64 i] w fun e w' => e = .returned (.int .i64 ((i0 + j : Nat) : Int)) ∧ w' = w := by
  subst hi0
  have hlt0 := shutL_lt _ _ _ _ hj
  simp at hlt0
  go_enter Try.func82, Try.ntmps82
  go_wp2
  go_loop [1, 5] (fun x n => ∃ (k q : Nat) (m : Int), k + q = i0 + j ∧ x = .int .i64 k ∧ n = .int .i64 m ∧ i0 ≤ k ∧ -k ≤ m ∧ m ≤ k ∧ shutL t (ws.drop k) m = some q) (fun x _ => ws.length - (intOf x).toNat)
  case atStart => exact ⟨i0, j, 0, rfl, rfl, rfl, Nat.le_refl _, by omega, by omega, hj⟩
  case round =>
    obtain ⟨k, q, m, hkq, rfl, rfl, hik, hm1, hm2, hd⟩ := hrel
    have hlt : k < ws.length := by omega
    obtain ⟨hc1, hc2⟩ := hw k hlt
    rw [drop_cons_of ws k hlt, shutL] at hd
    have HQ : Hid (k + q = i0 + j) := hkq
    clear hkq hj hc2
    by_cases h1 : bytesOf t ws[k] = [123]
    · have e1 := beq_yes h1
      have e2 : ((t.extract ws[k].1 ws[k].2).toList == [125]) = false := beq_no (by unfold bytesOf at h1; rw [h1]; decide)
      rw [show openB t ws[k] m = m + 1 from by simp [openB, h1]] at hd
      clear h1
      by_cases h0 : m + 1 = 0
      · rw [if_pos h0] at hd
        have hb : (m + 1 == 0) = true := by simp [h0]
        have HD : Hid (_ = _) := hd
        clear hd h0
        go_wp2
        go_ret
        exact ⟨ret_int (by have := HD.out; have := HQ.out; simp at *; omega), rfl⟩
      · rw [if_neg h0] at hd
        have hb : (m + 1 == 0) = false := by simp [h0]
        have HD : Hid (_ = _) := hd
        clear hd h0
        go_wp2
        go_round
        case rel =>
          obtain ⟨q', hq, hqq⟩ := Option.map_eq_some_iff.1 HD.out
          exact ⟨k + 1, q', m + 1, by have := HQ.out; omega, by go_num, by go_num, by omega, by omega, by omega, hq⟩
        case measure => simp [intOf]; omega
    · have e1 := beq_no h1
      by_cases h2 : bytesOf t ws[k] = [125]
      · have e2 := beq_yes h2
        rw [show openB t ws[k] m = m - 1 from by simp [openB, h2]] at hd
        clear h1 h2
        by_cases h0 : m - 1 = 0
        · rw [if_pos h0] at hd
          have hb : (m - 1 == 0) = true := by simp [h0]
          have HD : Hid (_ = _) := hd
          clear hd h0
          go_wp2
          go_ret
          exact ⟨ret_int (by have := HD.out; have := HQ.out; simp at *; omega), rfl⟩
        · rw [if_neg h0] at hd
          have hb : (m - 1 == 0) = false := by simp [h0]
          have HD : Hid (_ = _) := hd
          clear hd h0
          go_wp2
          go_round
          case rel =>
            obtain ⟨q', hq, hqq⟩ := Option.map_eq_some_iff.1 HD.out
            exact ⟨k + 1, q', m - 1, by have := HQ.out; omega, by go_num, by go_num, by omega, by omega, by omega, hq⟩
          case measure => simp [intOf]; omega
      · have e2 := beq_no h2
        rw [show openB t ws[k] m = m from by simp [openB, h1, h2]] at hd
        clear h1 h2
        by_cases h0 : m = 0
        · rw [if_pos h0] at hd
          have hb : (m == 0) = true := by simp [h0]
          have HD : Hid (_ = _) := hd
          clear hd h0
          go_wp2
          go_ret
          exact ⟨ret_int (by have := HD.out; have := HQ.out; simp at *; omega), rfl⟩
        · rw [if_neg h0] at hd
          have hb : (m == 0) = false := by simp [h0]
          have HD : Hid (_ = _) := hd
          clear hd h0
          go_wp2
          go_round
          case rel =>
            obtain ⟨q', hq, hqq⟩ := Option.map_eq_some_iff.1 HD.out
            exact ⟨k + 1, q', m, by have := HQ.out; omega, by go_num, by go_num, by omega, by omega, by omega, hq⟩
          case measure => simp [intOf]; omega

end Go.Proofs.Ytmmmnghiegajmaa
