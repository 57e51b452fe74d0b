/- What formed of the document's own answer gives back: the error of a text's form or of its numbers, and the place. -/
import Derived.Test.YtiaibigmbflpiaaRefF
import Derived.Test.YtiaibigmbflpiaaPureE
namespace Go.Proofs.Ytiaibigmbflpiaa
open Go.RowKit Go.Proofs.Herald

theorem wordsCells_get (t : ByteArray) : ∀ (ws : List (Nat × Nat)) (i : Nat) (hi : i < ws.length),
    (wordsCells t ws)[i * 2]? = some (.string (t.extract ws[i].1 ws[i].2)) ∧ (wordsCells t ws)[i * 2 + 1]? = some (.int .i64 ws[i].1) := by
  intro ws
  induction ws with
  | nil => intro i hi; simp at hi
  | cons p r ih =>
    intro i hi
    cases i with
    | zero => simp [wordsCells, wordCells]
    | succ i =>
      have := ih i (by simpa using hi)
      simp only [wordsCells, List.flatMap_cons, wordCells] at this ⊢
      rw [show (i + 1) * 2 = i * 2 + 1 + 1 from by omega]
      simpa using this

theorem own_words {t : ByteArray} {w : World} {B : Nat} {v : Value} {ws : List (Nat × Nat)} (h : w.ownsRow B 157 2 v ws.length (wordsCells t ws)) :
    ∃ a cap L, v = .slice a ws.length cap ∧ ws.length ≤ cap ∧ (0 < ws.length → a = some ⟨L, 0, none⟩ ∧ B ≤ L ∧ L < w.heap.size ∧ WordsAt t w L 0 ws) := by
  rcases h.2 with ⟨rfl, h0⟩ | ⟨g, cap, cur, rfl, hb, hg, hn, hm, hs, ht⟩
  · exact ⟨none, 0, 0, by rw [h0], by omega, by omega⟩
  · refine ⟨_, cap, g, rfl, hn, fun _ => ⟨rfl, hb, heap_lt hg, fun i hi => ?_⟩⟩
    have hc := h.cells (g := g) rfl
    have e1 := wordsCells_get t ws i hi
    have c1 := hc _ _ e1.1
    have c2 := hc _ _ e1.2
    rw [Addr.add_lit] at c1 c2
    exact ⟨c1, by simpa [Nat.add_assoc] using c2⟩

theorem WordsAt.keep {t : ByteArray} {w w' : World} {b off : Nat} {ws : List (Nat × Nat)} (h : WordsAt t w b off ws) (hk : w'.heap[b]? = w.heap[b]?) : WordsAt t w' b off ws := fun i hi => by
  obtain ⟨h1, h2⟩ := h i hi
  exact ⟨(World.cell?_of_block hk).trans h1, (World.cell?_of_block hk).trans h2⟩

theorem Words_at (t : ByteArray) (w : World) (ht : t.size ≤ 400) :
    Calls Try.prog 43 #[.string t] w fun e w' => ∃ a cap L, e = .returned (.slice a (wordsL t.data.toList).length cap) ∧ (wordsL t.data.toList).length ≤ cap ∧
      (0 < (wordsL t.data.toList).length → a = some ⟨L, 0, none⟩ ∧ w.heap.size ≤ L ∧ L < w'.heap.size ∧ WordsAt t w' L 0 (wordsL t.data.toList)) ∧ Below w.heap.size w w' :=
  (Words_any t w ht).mono fun e w' ⟨v, he, ho, hb⟩ => by
    obtain ⟨a, cap, L, hv, hc, hw⟩ := own_words ho
    exact ⟨a, cap, L, by rw [he, hv], hc, hw, hb⟩

theorem ret_two {k : IntKind} {a b c d : Int} (h1 : a = c) (h2 : b = d) : Ending.returned (.tuple #[.int k a, .int k b]) = .returned (.tuple #[.int k c, .int k d]) := by rw [h1, h2]

theorem formAt_init (t : ByteArray) (w w1 : World) (S : Nat → Prop) (hS : S (w.heap.size + 1)) (hS' : S w.heap.size)
    (hb : ∀ k, k < w.heap.size + 2 → w1.heap[k]? = ((w.alloc (.cells #[.int .i64 0] 3)).alloc (.cells #[.slice (some ⟨w.heap.size, 0, none⟩) 1 1, .slice none 0 0, .bool false, .slice none 0 0, .slice none 0 0] 154)).heap[k]?) :
    FormAt t w1 (w.heap.size + 1) S (.slice (some ⟨w.heap.size, 0, none⟩) 1 1) (.slice none 0 0) (.slice none 0 0) (.slice none 0 0) initF := by
  refine ⟨?_, hS, ?_, World.ownsRow_nil _ _ _ _, World.ownsRow_nil _ _ _ _, World.ownsRow_nil _ _ _ _, ?_, ?_, ?_, ?_, ?_⟩
  · rw [hb _ (by omega), heap_alloc2]; rfl
  · refine ⟨by simp [initF, intCells], .inr ⟨w.heap.size, 1, #[.int .i64 0], rfl, by omega, ?_, by simp [initF], by unfold maxLen; omega, rfl, by simp [initF, intCells]⟩⟩
    rw [hb _ (by omega), Below.heap_alloc _ _ _ (by simp), heap_alloc_new]
  · intro k hk; simp [Value.ownBlock] at hk; subst hk; exact hS'
  · intro k hk; simp [Value.ownBlock] at hk
  · intro k hk; simp [Value.ownBlock] at hk
  · intro k hk; simp [Value.ownBlock] at hk
  · intro k hk e; simp [Value.ownBlock] at e

set_option maxHeartbeats 2000000 in
theorem formed_any (t : ByteArray) (w : World) (ht : t.size ≤ 400) :
    Calls Try.prog 42 #[.string t] w fun e w' => e = .returned (.tuple #[.int .i64 (formedL t).1, .int .i64 (formedL t).2]) ∧ Below w.heap.size w w' := by
  have hbo := wordsL_bounds t.data.toList
  have hwl := wordsL_length t.data.toList
  have HR0 : Hid (formedL t = match runF t (wordsL t.data.toList) initF with | .inr a => (2, (a : Int)) | .inl st => endF t st) := rfl
  go_enter Try.func42, Try.ntmps42
  go_wp2_with fail
  refine (Words_at t _ ht).mono ?_
  rintro e w1 ⟨a, cap, L, rfl, hcap, hws, hb1⟩
  generalize wordsL t.data.toList = ws at *
  have hsz : ((w.alloc (.cells #[.int .i64 0] 3)).alloc (.cells #[.slice (some ⟨w.heap.size, 0, none⟩) 1 1, .slice none 0 0, .bool false, .slice none 0 0, .slice none 0 0] 154)).heap.size = w.heap.size + 2 := by simp
  have hs1 := hb1.size
  rw [hsz] at hs1
  have HW : Hid (0 < ws.length → a = some ⟨L, 0, none⟩ ∧ w.heap.size + 2 ≤ L ∧ L < w1.heap.size ∧ WordsAt t w1 L 0 ws) := by rw [hsz] at hws; exact hws
  have HF0 : Hid (FormAt t w1 (w.heap.size + 1) (fun k => w.heap.size ≤ k ∧ (0 < ws.length → k ≠ L)) (.slice (some ⟨w.heap.size, 0, none⟩) 1 1) (.slice none 0 0) (.slice none 0 0) (.slice none 0 0) initF) :=
    formAt_init t w w1 _ ⟨by omega, fun h => by have := (HW.out h).2.1; omega⟩ ⟨by omega, fun h => by have := (HW.out h).2.1; omega⟩ (fun k hk => hb1.block k (by omega))
  have HB1 : Hid (Below w.heap.size w w1) := (((Below.refl _ _).alloc (Nat.le_refl _) _).alloc (by simp) _).trans (hb1.mono (by omega))
  have HBO : Hid (∀ p ∈ ws, p.1 < p.2 ∧ p.2 ≤ t.size) := fun p hp => by have h1 := hbo p hp; have e1 : t.data.toList.length = t.size := by simp
                                                                        rw [e1] at h1; exact h1
  have hwl' : ws.length ≤ t.size := by simpa using hwl
  clear hws hsz hb1 hbo hwl
  go_wp2_with fail
  go_loopw [6] (fun i wr => ∃ (k : Nat) (st : FSt) (wv ev nv sv : Value), k ≤ ws.length ∧ i = .int .i64 k ∧ FormAt t wr (w.heap.size + 1) (fun k => w.heap.size ≤ k ∧ (0 < ws.length → k ≠ L)) wv ev nv sv st ∧
      Fr (fun k => w.heap.size ≤ k ∧ (0 < ws.length → k ≠ L)) w1 wr ∧ OkF st k ∧ runF t (ws.drop k) st = runF t ws initF)
    (fun i _ => ws.length - (intOf i).toNat)
  case atStart => exact ⟨0, initF, _, _, _, _, Nat.zero_le _, rfl, HF0.out, Fr.refl _ _, OkF.init, rfl⟩
  case round =>
    obtain ⟨k, st, wv, ev, nv, sv, hk, rfl, hf, hF, hok, hrun⟩ := hrel
    have HF : Hid (FormAt t wr (w.heap.size + 1) (fun k => w.heap.size ≤ k ∧ (0 < ws.length → k ≠ L)) wv ev nv sv st) := hf
    have hws1 := hF.size
    clear hf HF0
    by_cases hlt : k < ws.length
    · obtain ⟨ha, hL1, hL2, hwa⟩ := HW.out (by omega)
      have hwr : WordsAt t wr L 0 ws := hwa.keep (hF.block L hL2 (fun h => h.2 (by omega) rfl))
      obtain ⟨hc1, hc2⟩ := hwr k hlt
      rw [Nat.zero_add] at hc1 hc2
      rw [drop_cons_of ws k hlt, runF] at hrun
      have hbk := HBO.out ws[k] (List.getElem_mem hlt)
      have hsk : (t.extract ws[k].1 ws[k].2).size ≤ 400 := by simp; omega
      have HRN : Hid ((if (readF (bytesOf t ws[k]) ws[k] st).2 = true then runF t (ws.drop (k + 1)) (readF (bytesOf t ws[k]) ws[k] st).1 else .inr ws[k].1) = runF t ws initF) := hrun
      have HOK : Hid (OkF st k) := hok
      have HFr : Hid (Fr (fun k => w.heap.size ≤ k ∧ (0 < ws.length → k ≠ L)) w1 wr) := hF
      clear hrun hwr hwa hok hF hbk
      rw [ha]
      go_wp2_with fail
      refine (read_any t (w.heap.size + 1) ws[k] _ wv ev nv sv st _ HF.out (fun q hq => ⟨by omega, fun _ => by omega⟩) (by have := HOK.out.elses; omega) HOK.out.want.ne HOK.out.short hsk (by have := HOK.out.nums; omega) (by have := HOK.out.nums; have := HOK.out.same; omega)).mono ?_
      rintro e w2 ⟨rfl, hf2, hF2⟩
      have HP2 : Hid (_ ∧ _) := And.intro hf2 hF2
      clear hf2 hF2
      have hs2 := HP2.out.2.size
      have hc2' : w2.cell? ⟨L, k * 2 + 1, none⟩ = some (.int .i64 ws[k].1) := by
        rw [HP2.out.2.cell (p := ⟨L, k * 2 + 1, none⟩) (by show L < _; omega) (fun h => h.2 (by omega) rfl)]; exact hc2
      cases hr2 : (readF (bytesOf t ws[k]) ws[k] st).2 with
      | true =>
        have HRN2 : Hid (runF t (ws.drop (k + 1)) (readF (bytesOf t ws[k]) ws[k] st).1 = runF t ws initF) := by have := HRN.out; rw [if_pos hr2] at this; exact this
        have HR2 : Hid ((readF (bytesOf t ws[k]) ws[k] st).2 = true) := hr2
        clear hr2
        go_wp2_with fail
        go_roundw
        case rel =>
          obtain ⟨x1, x2, x3, x4, hx⟩ := HP2.out.1 HR2.out
          exact ⟨k + 1, _, x1, x2, x3, x4, by omega, by go_num, hx, HFr.out.trans HP2.out.2, HOK.out.read, HRN2.out⟩
        case measure => simp [intOf]; omega
      | false =>
        have HRN2 : Hid (formedL t = (2, (ws[k].1 : Int))) := by
          have := HRN.out; rw [if_neg (by rw [hr2]; simp)] at this
          rw [HR0.out, ← this]; rfl
        clear hr2
        go_wp2_with fail
        go_region
        go_wp2
        go_ret2
        refine ⟨ret_two (by rw [HRN2.out]) (by rw [HRN2.out]), ?_⟩
        have q := (HFr.out.trans HP2.out.2).mono (T := fun k => w.heap.size ≤ k) (fun k _ h => h.1)
        exact HB1.out.trans ((q.below (by omega)).drew)
    · obtain rfl : k = ws.length := by omega
      rw [List.drop_length, runF] at hrun
      have HFM : Hid (formedL t = endF t st) := by rw [HR0.out, ← hrun]; rfl
      cases hwant : st.want with
      | nil => exact absurd hwant hok.want.ne
      | cons m r =>
        obtain ⟨g, cap2, rfl, hg, hcp, hgl⟩ := HF.out.top hwant
        have hrl : r.length ≤ 10 := by have := hok.short; rw [hwant] at this; simp at this; omega
        have hend : endF t st = if 0 < st.elses.length ∨ 1 < m then (2, (t.size : Int)) else numsF t st.nums st.sorts := by unfold endF; rw [hwant]; rfl
        have hev : ∃ a1 c1, ev = .slice a1 st.elses.length c1 := by
          rcases HF.out.elses.2 with ⟨h1, h2⟩ | ⟨g1, c1, cur, h1, _⟩
          · exact ⟨none, 0, by rw [h1, h2]⟩
          · exact ⟨_, _, h1⟩
        obtain ⟨a1, c1, rfl⟩ := hev
        have hc1 : wr.cell? ⟨w.heap.size + 1, 0, none⟩ = some (.slice (some ⟨g, 0, none⟩) (r.length + 1) cap2) := (cell_of_heap HF.out.blk).trans rfl
        have hc2 : wr.cell? ⟨w.heap.size + 1, 1, none⟩ = some (.slice a1 st.elses.length c1) := (cell_of_heap HF.out.blk).trans rfl
        have hc3 : wr.cell? ⟨w.heap.size + 1, 3, none⟩ = some nv := (cell_of_heap HF.out.blk).trans rfl
        have hc4 : wr.cell? ⟨w.heap.size + 1, 4, none⟩ = some sv := (cell_of_heap HF.out.blk).trans rfl
        have HEN : Hid (formedL t = if 0 < st.elses.length ∨ 1 < m then (2, (t.size : Int)) else numsF t st.nums st.sorts) := HFM.out.trans hend
        have HBW : Hid (Below w.heap.size w wr) := HB1.out.trans ((hF.mono (T := fun k => w.heap.size ≤ k) (fun k _ h => h.1)).below (by omega))
        have HOK : Hid (OkF st ws.length) := hok
        have hel := hok.elses
        have hnl := hok.nums
        have hsl := hok.same
        clear hend hok hrun hF hwant
        by_cases h1 : 0 < st.elses.length
        · have HE : Hid (formedL t = (2, (t.size : Int))) := HEN.out.trans (if_pos (.inl h1))
          go_wp2_with fail
          go_region
          go_wp2_with fail
          go_ret2
          exact ⟨ret_two (by rw [HE.out]) (by rw [HE.out]), HBW.out.drew⟩
        · have h1' : st.elses.length = 0 := by omega
          rw [h1'] at hc2
          by_cases h2 : 1 < m
          · have HE : Hid (formedL t = (2, (t.size : Int))) := HEN.out.trans (if_pos (.inr h2))
            go_wp2_with fail
            go_region
            go_wp2_with fail
            go_ret2
            exact ⟨ret_two (by rw [HE.out]) (by rw [HE.out]), HBW.out.drew⟩
          · have HE : Hid (formedL t = numsF t st.nums st.sorts) := HEN.out.trans (if_neg (by omega))
            have hm1 : m ≤ 1 := by omega
            obtain ⟨an, cn, N, hnv, hcn, hN⟩ := own_words HF.out.nums
            obtain ⟨al, cl, M, hsv, hM⟩ : ∃ al cl M, sv = .slice al st.sorts.length cl ∧ (0 < st.sorts.length → al = some ⟨M, 0, none⟩ ∧ ∀ (j : Nat) (hj : j < st.sorts.length), wr.cell? ⟨M, j, none⟩ = some (.int .i64 st.sorts[j])) := by
              rcases HF.out.sorts.2 with ⟨h1, h2⟩ | ⟨g1, c1, cur, h1, _⟩
              · exact ⟨none, 0, 0, by rw [h1, h2], by omega⟩
              · exact ⟨_, _, g1, h1, fun _ => ⟨rfl, fun j hj => own_cell HF.out.sorts h1 (by simp [intCells, hj])⟩⟩
            rw [hnv] at hc3
            rw [hsv] at hc4
            have HN : Hid (0 < st.nums.length → an = some ⟨N, 0, none⟩ ∧ WordsAt t wr N 0 st.nums) := fun h => ⟨(hN h).1, (hN h).2.2.2⟩
            have HM : Hid (0 < st.sorts.length → al = some ⟨M, 0, none⟩ ∧ ∀ (j : Nat) (hj : j < st.sorts.length), wr.cell? ⟨M, j, none⟩ = some (.int .i64 st.sorts[j])) := hM
            clear hN hM hnv hsv h1 h2
            go_wp2_with fail
            go_region
            go_wp2_with fail
            go_loop [9] (fun i => ∃ j : Nat, j ≤ st.nums.length ∧ i = .int .i64 j ∧ numsF t (st.nums.drop j) (st.sorts.drop j) = numsF t st.nums st.sorts) (fun i => st.nums.length - (intOf i).toNat)
            case atStart => exact ⟨0, Nat.zero_le _, rfl, rfl⟩
            case round =>
              obtain ⟨j, hj, rfl, hnf⟩ := hrel
              by_cases hlt2 : j < st.nums.length
              · obtain ⟨ea, hwa⟩ := HN.out (by omega)
                obtain ⟨eb, hsa⟩ := HM.out (by omega)
                have hjs : j < st.sorts.length := by omega
                obtain ⟨hd1, hd2⟩ := hwa j hlt2
                rw [Nat.zero_add] at hd1 hd2
                have hd3 := hsa j hjs
                rw [drop_cons_of _ j hlt2, drop_cons_of _ j hjs, numsF] at hnf
                have hsk : (t.extract st.nums[j].1 st.nums[j].2).size ≤ 400 := by simp; omega
                obtain ⟨s, hs⟩ : ∃ s, s = t.extract st.nums[j].1 st.nums[j].2 := ⟨_, rfl⟩
                have hb : bytesOf t st.nums[j] = s.data.toList := by rw [hs]; rfl
                rw [hb] at hnf
                rw [← hs] at hd1 hsk
                clear hwa hsa hb hs
                rw [ea] at hc3
                rw [eb] at hc4
                by_cases hA : numL s.data.toList < 1
                · rw [if_pos (.inl hA)] at hnf
                  have HNF : Hid (_ = _) := hnf
                  clear hnf
                  go_wp2_with (first | (go_at_call 73; refine (num_any _ _ (by unfold maxLen; omega)).mono ?_; rintro e w' ⟨rfl, rfl⟩) | (go_at_call 74; refine (most_any _ _).mono ?_; rintro e w' ⟨rfl, rfl⟩))
                  go_region
                  go_wp2
                  go_ret2
                  exact ⟨ret_two (by rw [HE.out, ← HNF.out]) (by rw [HE.out, ← HNF.out]), HBW.out.drew.drew⟩
                · by_cases hB : mostI st.sorts[j] < numL s.data.toList
                  · rw [if_pos (.inr hB)] at hnf
                    have HNF : Hid (_ = _) := hnf
                    have hA' : 1 ≤ numL s.data.toList := by omega
                    clear hnf hA
                    go_wp2_with (first | (go_at_call 73; refine (num_any _ _ (by unfold maxLen; omega)).mono ?_; rintro e w' ⟨rfl, rfl⟩) | (go_at_call 74; refine (most_any _ _).mono ?_; rintro e w' ⟨rfl, rfl⟩))
                    go_region
                    go_wp2
                    go_ret2
                    exact ⟨ret_two (by rw [HE.out, ← HNF.out]) (by rw [HE.out, ← HNF.out]), HBW.out.drew.drew⟩
                  · rw [if_neg (by omega)] at hnf
                    have HNF : Hid (_ = _) := hnf
                    have hA' : 1 ≤ numL s.data.toList := by omega
                    have hB' : numL s.data.toList ≤ mostI st.sorts[j] := by omega
                    clear hnf hA hB
                    go_wp2_with (first | (go_at_call 73; refine (num_any _ _ (by unfold maxLen; omega)).mono ?_; rintro e w' ⟨rfl, rfl⟩) | (go_at_call 74; refine (most_any _ _).mono ?_; rintro e w' ⟨rfl, rfl⟩))
                    go_round
                    case rel => exact ⟨j + 1, by omega, by go_num, HNF.out⟩
                    case measure => simp [intOf]; omega
              · rw [List.drop_of_length_le (by omega)] at hnf
                have HNF : Hid (_ = _) := hnf
                clear hnf
                go_wp2_with fail
                go_ret2
                have e0 : numsF t [] (st.sorts.drop j) = (0, 0) := by simp [numsF]
                exact ⟨ret_two (by rw [HE.out, ← HNF.out, e0]) (by rw [HE.out, ← HNF.out, e0]), HBW.out.drew⟩

end Go.Proofs.Ytiaibigmbflpiaa
