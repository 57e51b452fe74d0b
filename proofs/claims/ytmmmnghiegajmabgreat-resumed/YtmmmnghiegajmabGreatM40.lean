import Derived.Test.YtmmmnghiegajmabGreatM37
import Derived.Test.YtmmmnghiegajmabGreatM39
/- The program: Read of a text without a fault, and where its statements lie. The program: Code, and Compile. -/
namespace Go.Proofs.YtmmmnghiegajmabGreat
open Go.RowKit Go.Proofs.Herald
theorem RdAt.nds2 {t : ByteArray} {B : Nat} {w : World} {R : Nat} {a : Option Addr} {n cap : Nat} {st : RSt} (h : RdAt t B w R (.slice a n cap) st) :
    ∃ g, (0 < n → a = some ⟨g, 0, none⟩ ∧ B ≤ g ∧ g < w.heap.size ∧ NdsAt w g 0 st.fl) := by
  obtain ⟨_, _, _, g, hg⟩ := h.nds
  refine ⟨g, fun hp => ?_⟩
  obtain ⟨h1, h2, h3⟩ := hg hp
  subst h1
  exact ⟨rfl, (ownsRow_lies h.own (k := g) rfl).1, h2, h3⟩
set_option maxRecDepth 20000 in
set_option maxHeartbeats 2000000 in
theorem c_Read_ok (t : ByteArray) (ht : t.size ≤ 400) (tr : Tree 5) (hT : TextOk t tr) (w : World) :
    Calls Tryz.prog 26 #[.string t] w fun e w' => ∃ v g, e = .returned (.tuple #[.agg #[v, .int .i64 (maxI (lastsT t 5 tr).1 (lastsT t 5 tr).2)], .int .i64 0, .int .i64 0]) ∧ SlT t 5 w' g v tr ∧ g < w'.heap.size ∧ Below w.heap.size w w' := by
  obtain ⟨M, hM⟩ : ∃ M, M = maxI (lastsT t 5 tr).1 (lastsT t 5 tr).2 := ⟨_, rfl⟩
  have hl := hT.short
  rw [← hM] at hl ⊢
  have HM : Hid (M = maxI (lastsT t 5 tr).1 (lastsT t 5 tr).2) := hM
  clear hM
  have hwl : (startR t).us.length ≤ 400 := by
    have h2 := wordsL_length t.data.toList
    have h3 : t.data.toList.length = t.size := by simp
    show (wordsL t.data.toList).length ≤ 400
    omega
  obtain ⟨E, hE⟩ : ∃ E, E = endR t := ⟨_, rfl⟩
  have HPRE : Hid (∀ o, RdAt t (w.heap.size + 1) ((w.alloc o).alloc (.cells #[.string t, .string ⟨#[]⟩, .int .i64 0, .slice none 0 0, .int .i64 0, .int .i64 1, .int .i64 0, .int .i64 0] 104)) (w.heap.size + 1) (.slice none 0 0) (preR t)) := fun o => preR_at t w o _ rfl
  have HBLK : Hid (∀ W, RdAt t (w.heap.size + 1) W (w.heap.size + 1) (.slice none 0 0) (startR t) → Calls Tryz.prog 44 #[.pointer (some ⟨w.heap.size + 1, 0, none⟩), .string ⟨#[]⟩] W fun e w' =>
      e = .returned (.bool E.1) ∧ (∃ sv', RdAt t (w.heap.size + 1) w' (w.heap.size + 1) sv' E.2) ∧ Below (w.heap.size + 1) W w') := fun W hW => by
    rw [hE]
    refine (c_block t ht 401 (blockR t 401 kShut) (blkSaid t ht 401 (by omega)) ⟨#[]⟩ (w.heap.size + 1) (w.heap.size + 1) _ (startR t) W hW (by omega) (by show (0 : Int) ≤ 0; omega) (by show (0 : Int) + _ ≤ 900; omega) (by show 0 + _ ≤ 400; omega) (by show (0 : Int) ≤ 1; omega) (by show (1 : Int) ≤ 65; omega)).mono ?_
    rintro e w' ⟨h1, h2, h3, _⟩
    exact ⟨h1, h2, h3⟩
  have h1 : E.1 = true := by rw [hE]; exact hT.ended
  have h2 : E.2.fault = 0 := by rw [hE]; exact hT.fault
  have h3 : E.2.fl = flatT t 5 tr := by rw [hE]; exact hT.flat
  have HT : Hid (TextOk t tr) := hT
  clear hE hwl hT
  have HBW : Hid (∀ o1 o2, Below w.heap.size w ((w.alloc o1).alloc o2)) := fun o1 o2 => ((Below.refl _ _).alloc (Nat.le_refl _) _).alloc (by simp) _
  go_enter Tryz.func26, Tryz.ntmps26
  go_wp2_with fail
  refine (c_advance t ht _ _ _ (preR t) _ (HPRE.out _)).mono ?_
  rintro e w1 ⟨rfl, h1r, hb1⟩
  rw [preR_adv] at h1r
  have HB1 : Hid (Below w.heap.size w w1) := (HBW.out _ _).trans (hb1.mono (by simp))
  have H1 : Hid (RdAt t (w.heap.size + 1) w1 (w.heap.size + 1) (.slice none 0 0) (startR t)) := h1r
  have HG1 : Hid (w1.heap[w.heap.size]? = some (.cells #[.slice none 0 0, .int .i64 0] 83 (0, 0))) := by
    show _ = _
    rw [hb1.block w.heap.size (by omega), Below.heap_alloc _ _ _ (by simp)]
    exact heap_alloc_new _ _
  clear h1r hb1
  go_wp2_with fail
  refine (HBLK.out _ H1.out).mono ?_
  rintro e w2 ⟨rfl, ⟨sv, h2r⟩, hb2⟩
  rw [h1]
  obtain ⟨a, cap, hsv⟩ := own_value h2r.own
  subst hsv
  have HB2 : Hid (Below w.heap.size w w2) := HB1.out.trans (hb2.mono (by omega))
  have H2 : Hid (RdAt t (w.heap.size + 1) w2 (w.heap.size + 1) (.slice a E.2.fl.length cap) E.2) := h2r
  have c2 : w2.cell? ⟨w.heap.size + 1, 2, none⟩ = some (.int .i64 (atR t E.2.us : Nat)) := (cell_of_heap h2r.blk).trans rfl
  have c3 : w2.cell? ⟨w.heap.size + 1, 3, none⟩ = some (.slice a E.2.fl.length cap) := (cell_of_heap h2r.blk).trans rfl
  have c6 : w2.cell? ⟨w.heap.size + 1, 6, none⟩ = some (.int .i64 0) := by rw [← h2]; exact (cell_of_heap h2r.blk).trans rfl
  have g2 : w2.heap[w.heap.size]? = some (.cells #[.slice none 0 0, .int .i64 0] 83 (0, 0)) := (hb2.block _ (by omega)).trans HG1.out
  have HG2 : Hid (_ = _) := g2
  clear h2r hb2 HBLK H1 HPRE g2 HG1 h1 h2
  obtain ⟨n1, n2, n3, _⟩ := H2.out.nds
  obtain ⟨g, n4⟩ := H2.out.nds2
  have HL : Hid (Calls Tryz.prog 45 #[.slice a E.2.fl.length cap] w2 fun e w' => e = .returned (.int .i64 (maxI (lastsT t 5 tr).1 (lastsT t 5 tr).2)) ∧ Below w2.heap.size w2 w') :=
    c_longestOf t 5 tr a g 0 cap E.2.fl.length w2 (by rw [h3]) HT.out.good HT.out.size (by omega) n2 n3 (fun h => ⟨(n4 h).1, (n4 h).2.2.1, by rw [← h3]; exact (n4 h).2.2.2⟩)
  have HN : Hid (E.2.fl.length ≤ cap ∧ cap ≤ maxLen ∧ (0 < E.2.fl.length → a = some ⟨g, 0, none⟩ ∧ w.heap.size + 1 ≤ g ∧ g < w2.heap.size ∧ NdsAt w2 g 0 E.2.fl)) := ⟨n2, n3, n4⟩
  have H3 : Hid (E.2.fl = flatT t 5 tr) := h3
  clear n1 n2 n3 n4 h3 HT
  have HL2 : Hid (Calls Tryz.prog 45 #[.slice a E.2.fl.length cap] w2 fun e w' => e = .returned (.int .i64 M) ∧ Below w2.heap.size w2 w') := by rw [HM.out]; exact HL.out
  clear HL HM
  go_wp2_with fail
  refine HL2.out.mono ?_
  rintro e w3 ⟨rfl, hb3⟩
  have c3' : w3.cell? ⟨w.heap.size + 1, 3, none⟩ = some (.slice a E.2.fl.length cap) := by
    rw [World.cell?_of_block (hb3.block (w.heap.size + 1) (heap_lt H2.out.blk))]; exact c3
  have HB3 : Hid (Below w.heap.size w w3 ∧ Below w2.heap.size w2 w3) := ⟨HB2.out.trans (hb3.mono HB2.out.size), hb3⟩
  have g3 : w3.heap[w.heap.size]? = some (.cells #[.slice none 0 0, .int .i64 0] 83 (0, 0)) := (hb3.block _ (heap_lt HG2.out)).trans HG2.out
  have hl3 : w.heap.size < w3.heap.size := heap_lt g3
  clear hb3 c2 c3 c6
  have d0 : w3.cell? ⟨w.heap.size, 0, none⟩ = some (.slice none 0 0) := (cell_of_heap g3).trans rfl
  have d1 : w3.cell? ⟨w.heap.size, 1, none⟩ = some (.int .i64 0) := (cell_of_heap g3).trans rfl
  have y0 : w3.frozen? ⟨w.heap.size, 0, none⟩ = false := free_of_heap g3
  have y1 : w3.frozen? ⟨w.heap.size, 1, none⟩ = false := free_of_heap g3
  clear g3 HG2
  go_wp2_with fail
  refine bodyPost_ret (v := .tuple #[.agg #[.slice a E.2.fl.length cap, .int .i64 M], .int .i64 0, .int .i64 0]) (by simp [results, Tryz.results26, go_sem, d0, d1]) rfl ?_
  have hb4 : Below w.heap.size w ((w3.setCell ⟨w.heap.size, 0, none⟩ (.slice a E.2.fl.length cap)).setCell ⟨w.heap.size, 1, none⟩ (.int .i64 M)) := (HB3.out.1.setCell (p := ⟨w.heap.size, 0, none⟩) (Nat.le_refl _) _).setCell (p := ⟨w.heap.size, 1, none⟩) (Nat.le_refl _) _
  by_cases hp : 0 < E.2.fl.length
  · obtain ⟨k1, k2, k3, k4⟩ := HN.out.2.2 hp
    refine ⟨_, g, rfl, ⟨a, _, cap, 0, rfl, by rw [H3.out], HN.out.1, HN.out.2.1, fun _ => ⟨k1, ?_⟩⟩, ?_, hb4⟩
    · rw [← H3.out]
      refine k4.keep ?_
      rw [Below.heap_setCell _ _ _ _ (show g ≠ w.heap.size from by omega), Below.heap_setCell _ _ _ _ (show g ≠ w.heap.size from by omega)]
      exact HB3.out.2.block g k3
    · have := HB3.out.2.size
      simp [World.setCell]
      omega
  · refine ⟨_, w.heap.size, rfl, ⟨a, _, cap, 0, rfl, by rw [H3.out], HN.out.1, HN.out.2.1, fun h => absurd h hp⟩, ?_, hb4⟩
    simp [World.setCell]
    exact hl3
open Go.RowKit Go.Proofs.Herald
theorem own_at {w : World} {B : Nat} {e : TypeId} {size : Nat} {v : Value} {n : Nat} {xs : List Value} (h : w.ownsRow 0 e size v n xs) (hB : ∀ b, v.ownBlock = some b → B ≤ b) : w.ownsRow B e size v n xs := by
  refine ⟨h.1, ?_⟩
  rcases h.2 with h2 | ⟨g, cap, cur, rfl, _, r⟩
  · exact .inl h2
  · exact .inr ⟨g, cap, cur, rfl, hB g rfl, r⟩
set_option maxHeartbeats 1000000 in
theorem c_Code (t : ByteArray) (ht : t.size ≤ 400) (tr : Tree 5) (hT : TextOk t tr) (v : Value) (g : Nat) (M : Int) (w : World) (hS : SlT t 5 w g v tr) (hg : g < w.heap.size) :
    Calls Tryz.prog 27 #[.agg #[v, .int .i64 M]] w fun e w' => ∃ sv, e = .returned sv ∧ w'.ownsRow w.heap.size 117 4 sv (codeOf t tr).length (codeCells (codeOf t tr)) ∧ Below w.heap.size w w' := by
  have hlen := hT.len ht
  obtain ⟨a, n, cap, off, rfl, hn, hcap, hmax, hnd⟩ := hS
  have HB : Hid (∀ W : World, (∀ k : Nat, W.heap[k]? = ((w.alloc (.cells #[.slice a n cap, .int .i64 M] 83)).alloc (.cells #[.slice none 0 0] 107)).heap[k]?) →
      Calls Tryz.prog 46 #[.pointer (some ⟨w.heap.size + 1, 0, none⟩), .slice a n cap, .int .i64 ((0 : Nat) : Int)] W fun e w' => e = .returned (.tuple #[]) ∧ (∃ sv', WrAt w.heap.size w' (w.heap.size + 1) sv' (codeOf t tr)) ∧ Below w.heap.size W w') := by
    intro W hW
    have h0 := blkC t 5 tr (.slice a n cap) g 0 w.heap.size (w.heap.size + 1) (.slice none 0 0) [] W ⟨a, n, cap, off, rfl, hn, hcap, hmax, fun hp => ⟨(hnd hp).1, (hnd hp).2.keep ?_⟩⟩ hT.good (by omega) hT.size (by simp; exact Nat.le_trans hlen (by omega)) hg ⟨by omega, ?_, World.ownsRow_nil _ _ _ _, fun b hb => (by cases hb)⟩
    · simpa [codeOf] using h0
    · rw [hW g, Below.heap_alloc _ _ _ (by simp; omega), Below.heap_alloc _ _ _ hg]
    · rw [hW]; exact heap_alloc2 _ _ _
  have HB0 : Hid (∀ o1 o2, Below w.heap.size w ((w.alloc o1).alloc o2)) := fun o1 o2 => ((Below.refl _ _).alloc (Nat.le_refl _) _).alloc (by simp) _
  clear hT hn hcap hmax hnd hlen
  go_enter Tryz.func27, Tryz.ntmps27
  go_wp2_with fail
  refine (HB.out _ (fun _ => rfl)).mono ?_
  rintro e w1 ⟨rfl, ⟨s1, h1⟩, b1⟩
  have c0 : w1.cell? ⟨w.heap.size + 1, 0, none⟩ = some s1 := (cell_of_heap h1.blk).trans rfl
  have HH : Hid (WrAt w.heap.size w1 (w.heap.size + 1) s1 (codeOf t tr) ∧ Below w.heap.size w w1) := ⟨h1, (HB0.out _ _).trans b1⟩
  clear h1 b1 HB
  go_wp2_with fail
  go_ret
  exact ⟨s1, rfl, own_at HH.out.1.own HH.out.1.new, HH.out.2⟩
set_option maxHeartbeats 1000000 in
theorem c_Compile_ok (t : ByteArray) (ht : t.size ≤ 400) (tr : Tree 5) (hT : TextOk t tr) (w : World) :
    Calls Tryz.prog 14 #[.string t] w fun e w' => ∃ sv, e = .returned (.tuple #[sv, .int .i64 0, .int .i64 0]) ∧ w'.ownsRow w.heap.size 117 4 sv (codeOf t tr).length (codeCells (codeOf t tr)) ∧ Below w.heap.size w w' := by
  have HT : Hid (TextOk t tr) := hT
  obtain ⟨M, hM⟩ : ∃ M, M = maxI (lastsT t 5 tr).1 (lastsT t 5 tr).2 := ⟨_, rfl⟩
  have hR := c_Read_ok t ht tr hT w
  rw [← hM] at hR
  have HR : Hid (Calls Tryz.prog 26 #[.string t] w fun e w' => ∃ v g, e = .returned (.tuple #[.agg #[v, .int .i64 M], .int .i64 0, .int .i64 0]) ∧ SlT t 5 w' g v tr ∧ g < w'.heap.size ∧ Below w.heap.size w w') := hR
  clear hT hM hR
  obtain ⟨C, hC⟩ : ∃ C, C = codeOf t tr := ⟨_, rfl⟩
  rw [← hC]
  have HC : Hid (C = codeOf t tr) := hC
  clear hC
  go_enter Tryz.func14, Tryz.ntmps14
  go_wp2_with fail
  refine HR.out.mono ?_
  rintro e w1 ⟨v, g, rfl, hS, hg, hb1⟩
  obtain ⟨va, vn, vc, hv⟩ : ∃ a n c, v = .slice a n c := by obtain ⟨a, n, c, _, h, _⟩ := hS; exact ⟨a, n, c, h⟩
  subst hv
  have HS : Hid (SlT t 5 w1 g (.slice va vn vc) tr ∧ Below w.heap.size w w1) := ⟨hS, hb1⟩
  clear hS hb1
  have HK : Hid (∀ o, Calls Tryz.prog 27 #[.agg #[.slice va vn vc, .int .i64 M]] (w1.alloc o) fun e w' => ∃ a cap, e = .returned (.slice a C.length cap) ∧ w'.ownsRow w1.heap.size 117 4 (.slice a C.length cap) C.length (codeCells C) ∧ Below w1.heap.size w1 w') := fun o => by
    rw [HC.out]
    refine (c_Code t ht tr HT.out _ g M (w1.alloc o) (HS.out.1.keep (Below.heap_alloc _ _ _ hg)) (by simp; omega)).mono ?_
    rintro e w2 ⟨sv, he, ho, hb⟩
    obtain ⟨a2, cap2, hv2⟩ := ownsRow_slice ho
    subst hv2
    refine ⟨a2, cap2, he, own_at (ownsRow_zero ho) fun b hb' => ?_, ((Below.refl _ _).alloc (Nat.le_refl _) _).trans (hb.mono (by simp))⟩
    have h1 := (ownsRow_lies ho hb').1
    simp at h1
    omega
  go_wp2_with fail
  refine (HK.out _).mono ?_
  rintro e w2 ⟨a2, cap2, rfl, ho, hb2⟩
  have HO : Hid (w2.ownsRow w.heap.size 117 4 (.slice a2 C.length cap2) C.length (codeCells C) ∧ Below w.heap.size w w2) := by
    refine ⟨own_at (ownsRow_zero ho) fun b hb => ?_, HS.out.2.trans (hb2.mono HS.out.2.size)⟩
    have h1 := (ownsRow_lies ho hb).1
    have h2 := HS.out.2.size
    omega
  clear ho hb2
  go_wp2_with fail
  refine bodyPost_ret (v := .tuple #[.slice a2 C.length cap2, .int .i64 0, .int .i64 0]) (by simp [results, Tryz.results14, go_sem]) rfl ⟨_, rfl, HO.out.1, HO.out.2⟩
end Go.Proofs.YtmmmnghiegajmabGreat
