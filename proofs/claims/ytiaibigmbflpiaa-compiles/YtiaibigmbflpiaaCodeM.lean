/- The program: Read, and Longest. -/
import Derived.Test.YtiaibigmbflpiaaCodeL
import Derived.Test.YtiaibigmbflpiaaPureQ
import Derived.OwnWalk
namespace Go.Proofs.Ytiaibigmbflpiaa
open Go.RowKit Go.Proofs.Herald

/-- The reader ahead of its first word. -/
def preR (t : ByteArray) : RSt := { us := (0, 0) :: wordsFrom t 0, fl := [], deep := 0, heavy := 1, fault := 0, place := 0 }

theorem preR_adv (t : ByteArray) : advR (preR t) = startR t := rfl

theorem preR_at (t : ByteArray) (w : World) (o : Obj) (R : Nat) (hR : R = w.heap.size + 1) :
    RdAt t R ((w.alloc o).alloc (.cells #[.string t, .string ⟨#[]⟩, .int .i64 0, .slice none 0 0, .int .i64 0, .int .i64 1, .int .i64 0, .int .i64 0] 149)) R (.slice none 0 0) (preR t) := by
  subst hR
  refine ⟨Nat.le_refl _, ?_, World.ownsRow_nil _ _ _ _, ?_⟩
  · rw [heap_alloc2]
    have e : wordR t (preR t).us = ⟨#[]⟩ := by show t.extract 0 0 = _; apply ByteArray.ext; simp
    rw [e]; rfl
  · intro p r h
    have h' : (0, 0) :: wordsFrom t 0 = p :: r := h
    simp only [List.cons.injEq] at h'
    obtain ⟨rfl, rfl⟩ := h'
    exact ⟨rfl, Nat.le_refl _, Nat.zero_le _⟩

theorem RdAt.nds {t : ByteArray} {B : Nat} {w : World} {R : Nat} {a : Option Addr} {n cap : Nat} {st : RSt} (h : RdAt t B w R (.slice a n cap) st) :
    n = st.fl.length ∧ n ≤ cap ∧ cap ≤ maxLen ∧ ∃ g, (0 < n → a = some ⟨g, 0, none⟩ ∧ g < w.heap.size ∧ NdsAt w g 0 st.fl) := by
  rcases h.own.2 with ⟨hv, h0⟩ | ⟨g, c, cur, hv, hb, hg, hn, hm, _⟩
  · simp at hv
    obtain ⟨_, rfl, rfl⟩ := hv
    exact ⟨by omega, by omega, by unfold maxLen; omega, 0, by omega⟩
  · have hv' := hv
    simp at hv
    obtain ⟨rfl, rfl, rfl⟩ := hv
    refine ⟨rfl, hn, hm, g, fun _ => ⟨rfl, heap_lt hg, fun i hi j u hj => ?_⟩⟩
    have hc := h.own.cells (g := g) rfl
    have hj6 : j < 6 := by
      have := (List.getElem?_eq_some_iff.mp hj).1
      simpa [ndCells] using this
    have k := hc (i * 6 + j) u (by rw [ndsCells_get _ i hi j hj6]; exact hj)
    rw [Addr.add_lit, Nat.zero_add] at k
    rw [Nat.zero_add]; exact k

theorem ret_Read {sv : Value} {a b c a' b' c' : Int} (h1 : a = a') (h2 : b = b') (h3 : c = c') : Ending.returned (.tuple #[.agg #[sv, .int .i64 a], .int .i64 b, .int .i64 c]) = .returned (.tuple #[.agg #[sv, .int .i64 a'], .int .i64 b', .int .i64 c']) := by rw [h1, h2, h3]

set_option maxHeartbeats 1000000 in
theorem c_Read_long (t : ByteArray) (ht : 400 < t.size) (w : World) :
    Calls Try.prog 41 #[.string t] w fun e w' => (∃ a n cap, e = .returned (.tuple #[.agg #[.slice a n cap, .int .i64 0], .int .i64 1, .int .i64 0])) ∧ Below w.heap.size w w' := by
  go_enter Try.func41, Try.ntmps41
  go_wp2_with fail
  refine bodyPost_ret (v := .tuple #[.agg #[.slice none 0 0, .int .i64 0], .int .i64 1, .int .i64 0]) (by simp [results, Try.results41, go_sem]) rfl ⟨⟨_, _, _, rfl⟩, ?_⟩
  exact (Below.refl _ _).alloc (Nat.le_refl _) _

set_option maxHeartbeats 4000000 in
theorem c_Read (t : ByteArray) (ht : t.size ≤ 400) (r : Int × Int × Int) (hr : CodeAns t r) (w : World) :
    Calls Try.prog 41 #[.string t] w fun e w' => (∃ a n cap, e = .returned (.tuple #[.agg #[.slice a n cap, .int .i64 r.1], .int .i64 r.2.1, .int .i64 r.2.2])) ∧ Below w.heap.size w w' := by
  have hwl : (startR t).us.length ≤ 400 := by
    have h2 := wordsL_length t.data.toList
    have h3 : t.data.toList.length = t.size := by simp
    show (wordsL t.data.toList).length ≤ 400
    omega
  obtain ⟨E, hE⟩ : ∃ E, E = endR t := ⟨_, rfl⟩
  have HPRE : Hid (∀ o, RdAt t (w.heap.size + 1) ((w.alloc o).alloc (.cells #[.string t, .string ⟨#[]⟩, .int .i64 0, .slice none 0 0, .int .i64 0, .int .i64 1, .int .i64 0, .int .i64 0] 149)) (w.heap.size + 1) (.slice none 0 0) (preR t)) := fun o => preR_at t w o _ rfl
  have HBLK : Hid (∀ W, RdAt t (w.heap.size + 1) W (w.heap.size + 1) (.slice none 0 0) (startR t) → Calls Try.prog 70 #[.pointer (some ⟨w.heap.size + 1, 0, none⟩), .string ⟨#[]⟩] W fun e w' =>
      e = .returned (.bool E.1) ∧ (∃ sv', RdAt t (w.heap.size + 1) w' (w.heap.size + 1) sv' E.2) ∧ Below (w.heap.size + 1) W w') := fun W hW => by
    rw [hE]
    refine (c_block t ht 401 (blockR t 401 kShut) (blkSaid t ht 401 (by omega)) ⟨#[]⟩ (w.heap.size + 1) (w.heap.size + 1) _ (startR t) W hW (by omega) (by show (0 : Int) ≤ 0; omega) (by show (0 : Int) + _ ≤ 900; omega) (by show 0 + _ ≤ 400; omega) (by show (0 : Int) ≤ 1; omega) (by show (1 : Int) ≤ 65; omega)).mono ?_
    rintro e w' ⟨h1, h2, h3, _⟩
    exact ⟨h1, h2, h3⟩
  have HR : Hid (CodeAns t r) := hr
  have HE : Hid (E = endR t) := hE
  clear hr hE hwl
  have HBW : Hid (∀ o1 o2, Below w.heap.size w ((w.alloc o1).alloc o2)) := fun o1 o2 => ((Below.refl _ _).alloc (Nat.le_refl _) _).alloc (by simp) _
  go_enter Try.func41, Try.ntmps41
  go_wp2_with fail
  refine (c_advance t ht _ _ _ (preR t) _ (HPRE.out _)).mono ?_
  rintro e w1 ⟨rfl, h1, hb1⟩
  rw [preR_adv] at h1
  have HB1 : Hid (Below w.heap.size w w1) := (HBW.out _ _).trans (hb1.mono (by simp))
  have H1 : Hid (RdAt t (w.heap.size + 1) w1 (w.heap.size + 1) (.slice none 0 0) (startR t)) := h1
  have HG1 : Hid (w1.heap[w.heap.size]? = some (.cells #[.slice none 0 0, .int .i64 0] 100 (0, 0))) := by
    show _ = _
    rw [hb1.block w.heap.size (by omega), Below.heap_alloc _ _ _ (by simp)]
    exact heap_alloc_new _ _
  clear h1 hb1
  go_wp2_with fail
  refine (HBLK.out _ H1.out).mono ?_
  rintro e w2 ⟨rfl, ⟨sv, h2⟩, hb2⟩
  obtain ⟨a, cap, hsv⟩ := own_value h2.own
  subst hsv
  have HB2 : Hid (Below w.heap.size w w2) := HB1.out.trans (hb2.mono (by omega))
  have H2 : Hid (RdAt t (w.heap.size + 1) w2 (w.heap.size + 1) (.slice a E.2.fl.length cap) E.2) := h2
  have c2 : w2.cell? ⟨w.heap.size + 1, 2, none⟩ = some (.int .i64 (atR t E.2.us : Nat)) := (cell_of_heap h2.blk).trans rfl
  have c3 : w2.cell? ⟨w.heap.size + 1, 3, none⟩ = some (.slice a E.2.fl.length cap) := (cell_of_heap h2.blk).trans rfl
  have c6 : w2.cell? ⟨w.heap.size + 1, 6, none⟩ = some (.int .i64 E.2.fault) := (cell_of_heap h2.blk).trans rfl
  have c7 : w2.cell? ⟨w.heap.size + 1, 7, none⟩ = some (.int .i64 E.2.place) := (cell_of_heap h2.blk).trans rfl
  have g2 : w2.heap[w.heap.size]? = some (.cells #[.slice none 0 0, .int .i64 0] 100 (0, 0)) := (hb2.block _ (by omega)).trans HG1.out
  have HG2 : Hid (_ = _) := g2
  have d0 : w2.cell? ⟨w.heap.size, 0, none⟩ = some (.slice none 0 0) := (cell_of_heap g2).trans rfl
  have d1 : w2.cell? ⟨w.heap.size, 1, none⟩ = some (.int .i64 0) := (cell_of_heap g2).trans rfl
  have y0 : w2.frozen? ⟨w.heap.size, 0, none⟩ = false := free_of_heap g2
  have y1 : w2.frozen? ⟨w.heap.size, 1, none⟩ = false := free_of_heap g2
  clear h2 hb2 HBLK H1 HPRE g2 HG1
  have hr := HR.out
  unfold CodeAns at hr
  rw [← HE.out] at hr
  clear HR HE
  rcases hr with ⟨hf, rfl⟩ | ⟨hf, hne, rfl⟩ | ⟨hf, h0, tr, hfl, hgood, hsz, hr⟩
  · rw [hf]
    go_wp2_with fail
    go_region
    all_goals
      go_wp2_with fail
      refine bodyPost_ret (v := .tuple #[.agg #[.slice none 0 0, .int .i64 0], .int .i64 2, .int .i64 (atR t E.2.us : Nat)]) (by simp [results, Try.results41, go_sem, d0, d1]) rfl ⟨⟨_, _, _, rfl⟩, ?_⟩
      exact ((HB2.out.setCell (p := ⟨w.heap.size, 0, none⟩) (Nat.le_refl _) _).setCell (p := ⟨w.heap.size, 1, none⟩) (Nat.le_refl _) _).drew
  · rw [hf]
    have e0 : (E.2.fault == 0) = false := by simpa using hne
    have e1 : (E.2.fault != 0) = true := by simpa using hne
    clear hne hf
    go_wp2_with fail
    go_region
    all_goals
      go_wp2_with fail
      refine bodyPost_ret (v := .tuple #[.agg #[.slice none 0 0, .int .i64 0], .int .i64 E.2.fault, .int .i64 E.2.place]) (by simp [results, Try.results41, go_sem, d0, d1]) rfl ⟨⟨_, _, _, rfl⟩, ?_⟩
      exact ((HB2.out.setCell (p := ⟨w.heap.size, 0, none⟩) (Nat.le_refl _) _).setCell (p := ⟨w.heap.size, 1, none⟩) (Nat.le_refl _) _).drew
  · rw [hf]
    obtain ⟨n1, n2, n3, g, n4⟩ := H2.out.nds
    have HL : Hid (Calls Try.prog 71 #[.slice a E.2.fl.length cap] w2 fun e w' => e = .returned (.int .i64 (maxI (lastsT t 5 tr).1 (lastsT t 5 tr).2)) ∧ Below w2.heap.size w2 w') :=
      c_longestOf t 5 tr a g 0 cap E.2.fl.length w2 (by rw [hfl]) hgood hsz (by omega) n2 n3 (fun h => ⟨(n4 h).1, (n4 h).2.1, by rw [← hfl]; exact (n4 h).2.2⟩)
    rw [h0] at c6
    clear n1 n2 n3 n4 hfl hgood hsz h0 hf
    generalize maxI (lastsT t 5 tr).1 (lastsT t 5 tr).2 = M at *
    go_wp2_with fail
    refine HL.out.mono ?_
    rintro e w3 ⟨rfl, hb3⟩
    have c3' : w3.cell? ⟨w.heap.size + 1, 3, none⟩ = some (.slice a E.2.fl.length cap) := by
      rw [World.cell?_of_block (hb3.block (w.heap.size + 1) (heap_lt H2.out.blk))]; exact c3
    have HB3 : Hid (Below w.heap.size w w3) := HB2.out.trans (hb3.mono HB2.out.size)
    have g3 : w3.heap[w.heap.size]? = some (.cells #[.slice none 0 0, .int .i64 0] 100 (0, 0)) := (hb3.block _ (heap_lt HG2.out)).trans HG2.out
    clear d0 d1 y0 y1 hb3 c2 c3 c6 c7
    have d0 : w3.cell? ⟨w.heap.size, 0, none⟩ = some (.slice none 0 0) := (cell_of_heap g3).trans rfl
    have d1 : w3.cell? ⟨w.heap.size, 1, none⟩ = some (.int .i64 0) := (cell_of_heap g3).trans rfl
    have y0 : w3.frozen? ⟨w.heap.size, 0, none⟩ = false := free_of_heap g3
    have y1 : w3.frozen? ⟨w.heap.size, 1, none⟩ = false := free_of_heap g3
    clear g3 HG2
    rcases hr with ⟨hl, rfl⟩ | ⟨hl, rfl⟩
    · go_wp2_with fail
      refine bodyPost_ret (v := .tuple #[.agg #[.slice none 0 0, .int .i64 0], .int .i64 6, .int .i64 0]) (by simp [results, Try.results41, go_sem, d0, d1]) rfl ⟨⟨_, _, _, rfl⟩, ?_⟩
      exact (HB3.out.setCell (p := ⟨w.heap.size, 0, none⟩) (Nat.le_refl _) _).setCell (p := ⟨w.heap.size, 1, none⟩) (Nat.le_refl _) _
    · go_wp2_with fail
      refine bodyPost_ret (v := .tuple #[.agg #[.slice a E.2.fl.length cap, .int .i64 M], .int .i64 0, .int .i64 0]) (by simp [results, Try.results41, go_sem, d0, d1]) rfl ⟨⟨_, _, _, rfl⟩, ?_⟩
      exact (HB3.out.setCell (p := ⟨w.heap.size, 0, none⟩) (Nat.le_refl _) _).setCell (p := ⟨w.heap.size, 1, none⟩) (Nat.le_refl _) _

end Go.Proofs.Ytiaibigmbflpiaa
