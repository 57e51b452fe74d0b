import Derived.Test.YtmmmnghiegajmaaM18
import Derived.Test.YtmmmnghiegajmaaM03
/- The document's own herald: Drain. -/
namespace Go.Proofs.Ytmmmnghiegajmaa
open Go.RowKit Go.Proofs.Herald
/-- A queue is laid anew. -/
theorem SimH.setQ {RT : Type} {M : Mode RT} (hM : ModeOk M) {w : World} {S Q : Nat} {rec : ByteArray} {h : Her RT} {pv : Value} {qv : Nat → Value} {rs : List Rs} (H : SimH M w S Q rec h pv qv rs) (d : Nat) (hd : d < 3) (v : Value) (q : List Msg) (ho : w.ownsRow 0 83 4 v q.length (msgsCells q)) (hnew : ∀ b, v.ownBlock = some b → ¬ ownS S Q pv qv rs b) (hB : ∀ b, v.ownBlock = some b → M.B0 ≤ b) :
    SimH M (w.setCell ⟨Q, d, none⟩ v) S Q rec { h with qs := updQ h.qs d q } pv (upd qv d v) rs ∧ Fr (fun k => k = Q) w (w.setCell ⟨Q, d, none⟩ v) := by
  have hf : Fr (fun k => k = Q) w (w.setCell ⟨Q, d, none⟩ v) := (Fr.refl (fun k => k = Q) w).setCell ⟨Q, d, none⟩ (.inl rfl) _
  have hfo : Fr (ownS S Q pv qv rs) w (w.setCell ⟨Q, d, none⟩ v) := hf.mono fun k _ hk => .inr (.inl hk)
  have ne : ∀ {k : Nat} {c : Array Value} {t : TypeId}, w.heap[k]? = some (.cells c t (0, 0)) → t ≠ 66 → (w.setCell ⟨Q, d, none⟩ v).heap[k]? = w.heap[k]? := fun hc ht => Below.heap_setCell _ _ _ _ (ne_of_type hc H.at'.qB ht)
  have keep : ∀ {v' : Value} {n : Nat} {xs : List Value}, w.ownsRow 0 83 4 v' n xs → (w.setCell ⟨Q, d, none⟩ v).ownsRow 0 83 4 v' n xs := fun {v' n xs} hv => own_keep hv fun b hb => by
    obtain ⟨c, hc⟩ := own_block hv hb
    exact ne hc (by decide)
  refine ⟨⟨⟨?_, ?_, fun e he => ?_, fun e f b he hf2 h1 h2 => ?_, ?_, fun x hx => ?_, H.at'.nd⟩, fun k hk => ?_, relL_imp (fun a b hab => hM.keep _ _ a b hab (H.at'.still H.base hfo)) H.rel⟩, hf⟩
  · rw [ne H.at'.sB (by decide)]; exact H.at'.sB
  · rw [heap_setCell_self _ H.at'.qB]
    match d, hd with
    | 0, _ => rfl
    | 1, _ => rfl
    | 2, _ => rfl
  · show (w.setCell ⟨Q, d, none⟩ v).ownsRow 0 83 4 (upd qv d v e) (upd h.qs d q e).length (msgsCells (upd h.qs d q e))
    by_cases hed : e = d
    · subst hed; rw [upd_same, upd_same]; exact keep ho
    · rw [upd_other qv v hed, upd_other h.qs q hed]; exact keep (H.at'.oB e he)
  · by_cases hed : e = d
    · by_cases hfd : f = d
      · omega
      · subst hed
        rw [upd_same] at h1
        rw [upd_other qv v hfd] at h2
        exact absurd (.inr (.inr (.inl ⟨f, hf2, h2⟩))) (hnew b h1)
    · by_cases hfd : f = d
      · subst hfd
        rw [upd_same] at h2
        rw [upd_other qv v hed] at h1
        exact absurd (.inr (.inr (.inl ⟨e, he, h1⟩))) (hnew b h2)
      · rw [upd_other qv v hed] at h1
        rw [upd_other qv v hfd] at h2
        exact H.at'.dis e f b he hf2 h1 h2
  · exact own_keep H.at'.lB fun b hb => by
      obtain ⟨c, hc⟩ := own_block H.at'.lB hb
      exact ne hc (by decide)
  · obtain ⟨b1, b2, b3⟩ := H.at'.rB x hx
    exact ⟨(ne b1 (by decide)).trans b1, (ne b2 (by decide)).trans b2, b3⟩
  · rcases hk with rfl | rfl | ⟨e, he, hk⟩ | hk | hk
    · exact H.base _ (.inl rfl)
    · exact H.base _ (.inr (.inl rfl))
    · by_cases hed : e = d
      · subst hed; rw [upd_same] at hk; exact hB k hk
      · rw [upd_other qv v hed] at hk; exact H.base _ (.inr (.inr (.inl ⟨e, he, hk⟩)))
    · exact H.base _ (.inr (.inr (.inr (.inl hk))))
    · exact H.base _ (.inr (.inr (.inr (.inr hk))))
def msgV (m : Msg) : Value := .agg #[.int .i64 m.dev, .int .i64 m.run, .int .i64 m.num, .int .i64 m.key]
theorem SimH.below {RT : Type} {M : Mode RT} (hM : ModeOk M) {w w' : World} {S Q : Nat} {rec : ByteArray} {h : Her RT} {pv : Value} {qv : Nat → Value} {rs : List Rs} (H : SimH M w S Q rec h pv qv rs) (hb : Below w.heap.size w w') : SimH M w' S Q rec h pv qv rs :=
  ⟨H.at'.keep fun k hk => hb.block k (H.at'.lt hk), H.base, relL_imp (fun a b hab => hM.keep _ _ a b hab fun k hk _ => hb.block k hk) H.rel⟩
set_option maxHeartbeats 2000000 in
theorem sim_drain_no {RT : Type} {M : Mode RT} (hM : ModeOk M) (S Q : Nat) (rec : ByteArray) (h : Her RT) (pv : Value) (qv : Nat → Value) (rs : List Rs) (dev : Int) (w : World) (H : SimH M w S Q rec h pv qv rs) (hn : ¬ (0 ≤ dev ∧ dev ≤ 2)) :
    Calls Try.prog 94 #[.pointer (some ⟨S, 0, none⟩), .int .i64 dev] w fun e w' => e = .returned (.tuple #[msgV ⟨0, 0, 0, 0⟩, .int .i64 8]) ∧ SimOut M w S Q pv qv rs rec h w' := by
  have b1 : withinB dev 0 2 = false := by
    by_cases h1 : 0 ≤ dev
    · exact withinB_hi (fun h2 => hn ⟨h1, h2⟩)
    · exact withinB_lo h1
  have HS : Hid (∀ w', Below w.heap.size w w' → SimOut M w S Q pv qv rs rec h w') := fun w' hb => ⟨⟨pv, qv, rs, H.below hM hb, fun k hk => .inl hk⟩, ⟨hb.os, hb.tape, hb.output, hb.size, fun k hk _ => hb.block k hk⟩⟩
  clear H hn
  go_enter Try.func94, Try.ntmps94
  go_wp2_with fail
  refine (within_any dev 0 2 _).mono ?_
  rw [b1]
  rintro e w' ⟨rfl, rfl⟩
  go_wp2_with fail
  refine bodyPost_ret (v := .tuple #[msgV ⟨0, 0, 0, 0⟩, .int .i64 8]) (by simp [results, Try.results94, go_sem, msgV]) rfl ⟨rfl, HS.out _ ?_⟩
  exact (Below.refl _ w).alloc (Nat.le_refl _) _
set_option maxHeartbeats 2000000 in
theorem sim_drain_empty {RT : Type} {M : Mode RT} (hM : ModeOk M) (S Q : Nat) (rec : ByteArray) (h : Her RT) (pv : Value) (qv : Nat → Value) (rs : List Rs) (d : Nat) (w : World) (H : SimH M w S Q rec h pv qv rs) (hd : d < 3) (hq : h.qs d = []) :
    Calls Try.prog 94 #[.pointer (some ⟨S, 0, none⟩), .int .i64 (d : Nat)] w fun e w' => e = .returned (.tuple #[msgV ⟨0, 0, 0, 0⟩, .int .i64 13]) ∧ SimOut M w S Q pv qv rs rec h w' := by
  have b1 : withinB (d : Nat) 0 2 = true := withinB_yes (by omega) (by omega)
  have HS : Hid (∀ w', Below w.heap.size w w' → SimOut M w S Q pv qv rs rec h w') := fun w' hb => ⟨⟨pv, qv, rs, H.below hM hb, fun k hk => .inl hk⟩, ⟨hb.os, hb.tape, hb.output, hb.size, fun k hk _ => hb.block k hk⟩⟩
  have ho := H.at'.oB d hd
  rw [hq] at ho
  obtain ⟨a, cap, hv⟩ := ownsRow_slice ho
  have c6 : w.cell? ⟨S, 6, none⟩ = some (.slice (some ⟨Q, 0, none⟩) 3 3) := (cell_of_heap H.at'.sB).trans rfl
  have cq : w.cell? ⟨Q, d, none⟩ = some (.slice a 0 cap) := by rw [cell_of_heap H.at'.qB, three qv d hd, hv]; rfl
  have hSl : S < w.heap.size := heap_lt H.at'.sB
  have hQl : Q < w.heap.size := heap_lt H.at'.qB
  clear H ho hv hq
  go_enter Try.func94, Try.ntmps94
  go_wp2_with fail
  refine (within_any (d : Nat) 0 2 _).mono ?_
  rw [b1]
  rintro e w' ⟨rfl, rfl⟩
  go_wp2_with fail
  refine bodyPost_ret (v := .tuple #[msgV ⟨0, 0, 0, 0⟩, .int .i64 13]) (by simp [results, Try.results94, go_sem, msgV]) rfl ⟨rfl, HS.out _ ?_⟩
  exact (Below.refl _ w).alloc (Nat.le_refl _) _
set_option maxHeartbeats 4000000 in
theorem sim_drain_yes {RT : Type} {M : Mode RT} (hM : ModeOk M) (S Q : Nat) (rec : ByteArray) (h : Her RT) (pv : Value) (qv : Nat → Value) (rs : List Rs) (d : Nat) (m : Msg) (r : List Msg) (w : World) (H : SimH M w S Q rec h pv qv rs) (hd : d < 3) (hq : h.qs d = m :: r) (hl : r.length ≤ 1000) (hr : rec.size ≤ 1000000000000) :
    Calls Try.prog 94 #[.pointer (some ⟨S, 0, none⟩), .int .i64 (d : Nat)] w fun e w' => e = .returned (.tuple #[msgV m, .int .i64 0]) ∧ SimOut M w S Q pv qv rs (rec ++ recS 68 (d : Nat) 0) { h with qs := updQ h.qs d r } w' := by
  have b1 : withinB (d : Nat) 0 2 = true := withinB_yes (by omega) (by omega)
  have ho := H.at'.oB d hd
  rw [hq] at ho
  obtain ⟨g, cap, hv, _, hgl⟩ := ho.form (by simp)
  rw [hv] at ho
  have hcap := own_cap ho
  obtain ⟨q1, _, q3⟩ := hcap
  unfold maxLen at q3
  have hlen : (m :: r).length = r.length + 1 := rfl
  rw [hlen] at ho q1 hv
  have c6 : w.cell? ⟨S, 6, none⟩ = some (.slice (some ⟨Q, 0, none⟩) 3 3) := (cell_of_heap H.at'.sB).trans rfl
  have cq : w.cell? ⟨Q, d, none⟩ = some (.slice (some ⟨g, 0, none⟩) (r.length + 1) cap) := by rw [cell_of_heap H.at'.qB, three qv d hd, hv]
  have zq : w.frozen? ⟨Q, d, none⟩ = false := free_of_heap H.at'.qB
  have hget : ∀ j u, (insCells (Msg.ins m))[j]? = some u → w.cell? ⟨g, j, none⟩ = some u := fun j u hu => by
    have h1 := ho.cells (g := g) rfl j u (by
      have e : msgsCells (m :: r) = insCells (Msg.ins m) ++ msgsCells r := by simp [msgsCells, codeCells]
      rw [e, List.getElem?_append_left (List.getElem?_eq_some_iff.mp hu).1]; exact hu)
    rwa [Addr.add_lit, Nat.zero_add] at h1
  have e0 := hget 0 (.int .i64 m.dev) rfl
  have e1 := hget 1 (.int .i64 m.run) rfl
  have e2 := hget 2 (.int .i64 m.num) rfl
  have e3 := hget 3 (.int .i64 m.key) rfl
  have HSRC : Hid (∀ (W : World) (sa : Option Addr), W.heap[g]? = w.heap[g]? → (0 < r.length → sa = some ⟨g, 4, none⟩) → SrcAt W sa r.length (msgsCells r)) := by
    intro W sa hW hsa hp
    refine ⟨_, hsa hp, fun j u hu => ?_⟩
    have h1 := ho.cells (g := g) rfl (4 + j) u (by
      have e : msgsCells (m :: r) = insCells (Msg.ins m) ++ msgsCells r := by simp [msgsCells, codeCells]
      rw [e, List.getElem?_append_right (by simp [insCells])]
      simpa [insCells] using hu)
    rw [Addr.add_lit, Nat.zero_add] at h1
    rw [Addr.add_lit, World.cell?_of_block hW]
    exact h1
  have HH : Hid (SimH M w S Q rec h pv qv rs) := H
  have hSl : S < w.heap.size := heap_lt H.at'.sB
  have hQl : Q < w.heap.size := heap_lt H.at'.qB
  clear H ho hv hq hget hlen
  have HO : Hid (∀ v ∈ msgsCells r, v.oneCell' = true) := by
    intro v hv
    exact codeCells_one _ v hv
  go_enter Try.func94, Try.ntmps94
  go_wp2_with fail
  refine (within_any (d : Nat) 0 2 _).mono ?_
  rw [b1]
  rintro e w' ⟨rfl, rfl⟩
  have HG2 : Hid (∀ A B, ((w.alloc A).alloc B).heap[g]? = w.heap[g]?) := fun A B => by rw [Below.heap_alloc _ _ _ (by simp; omega), Below.heap_alloc _ _ _ hgl]
  have HFIN : Hid (∀ (A B : Obj) (W2 w2 : World) (v2 : Value), W2.heap = ((w.alloc A).alloc B).heap → W2.os = w.os → W2.tape = w.tape → W2.output = w.output → w2.ownsRow 0 83 4 v2 r.length (msgsCells r) → Appended W2 w2 (.slice none 0 0) 0 r.length v2 →
      (∃ a c, v2 = .slice a r.length c) ∧ Below w.heap.size w w2 ∧ w2.heap[w.heap.size]? = some A ∧ w2.heap[w.heap.size + 1]? = some B ∧ SimH M (w2.setCell ⟨Q, d, none⟩ v2) S Q rec { h with qs := updQ h.qs d r } pv (upd qv d v2) rs ∧ Fr (ownS S Q pv qv rs) w (w2.setCell ⟨Q, d, none⟩ v2) ∧ ∀ k, ownS S Q pv (upd qv d v2) rs k → (ownS S Q pv qv rs k ∨ w.heap.size ≤ k) ∧ k ≠ w.heap.size) := by
    intro A B W2 w2 v2 hW o1 o2 o3 hown ha
    have hz : W2.heap.size = w.heap.size + 2 := by rw [hW]; simp
    have hb2 : Below w.heap.size w W2 := ⟨o1, o2, o3, by omega, fun k hk => by rw [hW, Below.heap_alloc _ _ _ (by simp; omega), Below.heap_alloc _ _ _ hk]⟩
    have hown' : w2.ownsRow 0 83 4 v2 (0 + r.length) ([] ++ msgsCells r) := by rw [Nat.zero_add, List.nil_append]; exact hown
    obtain ⟨hB, _⟩ := appended_below hb2 (by omega) (World.ownsRow_nil _ _ _ _) hown' ha
    have hnew : ∀ b, v2.ownBlock = some b → W2.heap.size ≤ b := by
      rcases ha with ⟨g', c', e, _⟩ | ⟨h1, _⟩
      · cases e
      · exact h1
    have hgr : ∀ k, k < W2.heap.size → w2.heap[k]? = W2.heap[k]? := by
      rcases ha with ⟨g', c', e, _⟩ | ⟨_, h2⟩
      · cases e
      · exact fun k hk => h2.block k hk (by simp)
    have H1 := HH.out.below hM hB
    have hno : ∀ b, v2.ownBlock = some b → ¬ ownS S Q pv qv rs b := fun b hb ho => by have := hnew b hb; have := HH.out.at'.lt ho; omega
    have hbB : ∀ b, v2.ownBlock = some b → M.B0 ≤ b := fun b hb => by have := hnew b hb; have := HH.out.base S (.inl rfl); omega
    obtain ⟨H2, f2⟩ := H1.setQ hM d hd v2 r hown hno hbB
    refine ⟨ownsRow_slice hown, hB, ?_, ?_, H2, ?_, fun k hk => ?_⟩
    · rw [hgr _ (by omega), hW, Below.heap_alloc _ _ _ (by simp)]; exact heap_alloc_new _ _
    · rw [hgr _ (by omega), hW]; exact heap_alloc2 _ _ _
    · have f1 : Fr (ownS S Q pv qv rs) w w2 := ⟨hB.os, hB.tape, hB.output, hB.size, fun k hk _ => hB.block k hk⟩
      exact f1.trans (f2.mono fun k _ hk => .inr (.inl hk))
    · have old : ∀ {k}, ownS S Q pv qv rs k → (ownS S Q pv qv rs k ∨ w.heap.size ≤ k) ∧ k ≠ w.heap.size := fun {k} hk => ⟨.inl hk, by have := HH.out.at'.lt hk; omega⟩
      rcases hk with rfl | rfl | ⟨e, he, hk⟩ | hk | hk
      · exact old (.inl rfl)
      · exact old (.inr (.inl rfl))
      · by_cases hed : e = d
        · subst hed
          rw [upd_same] at hk
          have := hnew k hk
          exact ⟨.inr (by omega), by omega⟩
        · rw [upd_other _ _ hed] at hk; exact old (.inr (.inr (.inl ⟨e, he, hk⟩)))
      · exact old (.inr (.inr (.inr (.inl hk))))
      · exact old (.inr (.inr (.inr (.inr hk))))
  have fin : (cap = 1 ∧ r = []) ∨ ¬ cap = 1 := by
    by_cases hc : cap = 1
    · exact .inl ⟨hc, List.eq_nil_of_length_eq_zero (by omega)⟩
    · exact .inr hc
  rcases fin with ⟨rfl, rfl⟩ | hc1
  all_goals
    go_wp2_with (at_builtin; refine wpList_append_src _ rfl (.tmp 33) (.tmp 41) 66 rfl 83 _ 4 32 Try.underlying66 Try.infoMsg rfl (by decide) (by decide) (.slice none 0 0) 0 [] _ _ _ (msgsCells _) (by rfl) (World.ownsRow_nil _ _ _ _) (by rfl) (HSRC.out _ _ (by exact HG2.out _ _) (by first | (intro hp; rfl) | (intro hp; exact absurd hp (by simp)))) (msgsCells_length _) HO.out (by simp; try omega) ?_)
    intro v2 w2 hown2 ha2
    obtain ⟨⟨va, vc, rfl⟩, hB2, hA2, hM2, hS2, hF2, hN2⟩ := HFIN.out _ _ _ w2 v2 rfl rfl rfl rfl hown2 ha2
    have k6 : w2.cell? ⟨S, 6, none⟩ = some (.slice (some ⟨Q, 0, none⟩) 3 3) := (hB2.cell (p := ⟨S, 6, none⟩) hSl).trans c6
    have kq : ∃ u, w2.cell? ⟨Q, d, none⟩ = some u := ⟨_, (hB2.cell (p := ⟨Q, d, none⟩) hQl).trans cq⟩
    obtain ⟨uq, kq⟩ := kq
    have kz : w2.frozen? ⟨Q, d, none⟩ = false := by
      have h1 := (hB2.block Q hQl).trans HH.out.at'.qB
      exact free_of_heap h1
    have H2 : Hid (_ ∧ _ ∧ _ ∧ _ ∧ _) := ⟨hA2, hM2, hS2, hF2, hN2⟩
    have hne : w.heap.size ≠ Q ∧ w.heap.size + 1 ≠ Q ∧ w.heap.size ≠ S ∧ w.heap.size + 1 ≠ S := by omega
    clear hown2 ha2 hB2 hA2 hM2 hS2 hF2 hN2
    go_wp2_with fail
    refine (sim_wrote hM S Q rec _ pv _ rs 68 (d : Nat) 0 _ H2.out.2.2.1 hr).mono ?_
    rintro e w4 ⟨rfl, hW4, hf4⟩
    have hA4 := (hf4.block w.heap.size (by rw [size_setCell]; exact heap_lt H2.out.1) hne.2.2.1).trans ((Below.heap_setCell _ _ _ _ hne.1).trans H2.out.1)
    have hM4 := (hf4.block (w.heap.size + 1) (by rw [size_setCell]; exact heap_lt H2.out.2.1) hne.2.2.2).trans ((Below.heap_setCell _ _ _ _ hne.2.1).trans H2.out.2.1)
    have r0 : w4.cell? ⟨w.heap.size, 0, none⟩ = some (.int .i64 0) := (cell_of_heap hA4).trans rfl
    have r1 : w4.cell? ⟨w.heap.size, 1, none⟩ = some (.int .i64 0) := (cell_of_heap hA4).trans rfl
    have r2 : w4.cell? ⟨w.heap.size, 2, none⟩ = some (.int .i64 0) := (cell_of_heap hA4).trans rfl
    have r3 : w4.cell? ⟨w.heap.size, 3, none⟩ = some (.int .i64 0) := (cell_of_heap hA4).trans rfl
    have y0 : w4.frozen? ⟨w.heap.size, 0, none⟩ = false := free_of_heap hA4
    have y1 : w4.frozen? ⟨w.heap.size, 1, none⟩ = false := free_of_heap hA4
    have y2 : w4.frozen? ⟨w.heap.size, 2, none⟩ = false := free_of_heap hA4
    have y3 : w4.frozen? ⟨w.heap.size, 3, none⟩ = false := free_of_heap hA4
    have m0 : w4.cell? ⟨w.heap.size + 1, 0, none⟩ = some (.int .i64 m.dev) := (cell_of_heap hM4).trans rfl
    have m1 : w4.cell? ⟨w.heap.size + 1, 1, none⟩ = some (.int .i64 m.run) := (cell_of_heap hM4).trans rfl
    have m2 : w4.cell? ⟨w.heap.size + 1, 2, none⟩ = some (.int .i64 m.num) := (cell_of_heap hM4).trans rfl
    have m3 : w4.cell? ⟨w.heap.size + 1, 3, none⟩ = some (.int .i64 m.key) := (cell_of_heap hM4).trans rfl
    have H4 : Hid (SimH M w4 S Q (rec ++ recS 68 (d : Nat) 0) _ pv _ rs ∧ Fr (ownS S Q pv qv rs) w w4 ∧ ∀ k, _ → _) := ⟨hW4, H2.out.2.2.2.1.trans (hf4.mono fun k _ hk => .inl hk), H2.out.2.2.2.2⟩
    have HA4 : Hid (_ = _) := hA4
    clear hA4 hM4 hW4 hf4 k6 kq kz
    go_wp2_with fail
    refine bodyPost_ret (v := .tuple #[msgV m, .int .i64 0]) (by simp [results, Try.results94, go_sem, msgV, r0, r1, r2, r3]) rfl ⟨rfl, ?_⟩
    have hb5 : ∀ k, k ≠ w.heap.size → ((((w4.setCell ⟨w.heap.size, 0, none⟩ (.int .i64 m.dev)).setCell ⟨w.heap.size, 1, none⟩ (.int .i64 m.run)).setCell ⟨w.heap.size, 2, none⟩ (.int .i64 m.num)).setCell ⟨w.heap.size, 3, none⟩ (.int .i64 m.key)).heap[k]? = w4.heap[k]? := fun k hk => by
      rw [Below.heap_setCell _ _ _ _ hk, Below.heap_setCell _ _ _ _ hk, Below.heap_setCell _ _ _ _ hk, Below.heap_setCell _ _ _ _ hk]
    have hBS := HH.out.base S (.inl rfl)
    have hstill : Still M.B0 w4 ((((w4.setCell ⟨w.heap.size, 0, none⟩ (.int .i64 m.dev)).setCell ⟨w.heap.size, 1, none⟩ (.int .i64 m.run)).setCell ⟨w.heap.size, 2, none⟩ (.int .i64 m.num)).setCell ⟨w.heap.size, 3, none⟩ (.int .i64 m.key)) := by
      intro k _ hk
      refine hb5 k fun hh => ?_
      subst hh
      rcases hk with hk | ⟨c, t, z, hc, ht⟩
      · omega
      · rw [HA4.out] at hc
        simp only [Option.some.injEq, Obj.cells.injEq] at hc
        obtain ⟨_, rfl, _⟩ := hc
        rcases ht with ht | ht
        · revert ht; decide
        · revert ht; decide
    refine ⟨⟨pv, _, rs, ⟨H4.out.1.at'.keep fun k hk => hb5 k (H4.out.2.2 k hk).2, H4.out.1.base, relL_imp (fun a b hab => hM.keep _ _ a b hab hstill) H4.out.1.rel⟩, fun k hk => (H4.out.2.2 k hk).1⟩, ?_⟩
    exact (((H4.out.2.1.setCell ⟨w.heap.size, 0, none⟩ (.inr (Nat.le_refl _)) _).setCell ⟨w.heap.size, 1, none⟩ (.inr (Nat.le_refl _)) _).setCell ⟨w.heap.size, 2, none⟩ (.inr (Nat.le_refl _)) _).setCell ⟨w.heap.size, 3, none⟩ (.inr (Nat.le_refl _)) _
end Go.Proofs.Ytmmmnghiegajmaa
