import Derived.Test.YtmmmnghiegajmaaM27
/- The program's herald in memory: find, firstDue, remove; what a run did, seen of the whole. -/
namespace Go.Proofs.Ytmmmnghiegajmaa
open Go.RowKit Go.Proofs.Herald
set_option maxRecDepth 20000 in
set_option maxHeartbeats 4000000 in
theorem h_find (H : Nat) (code rec : Value) (now last : Int) (rv : Value) (qv : Nat → Value) (qs : Nat → List Msg) (ps : List Pr) (id : Int) (w : World) (h : HAt w H code rec now last rv qv qs ps) (hl : ps.length ≤ 1000) :
    Calls Try.prog 105 #[.pointer (some ⟨H, 0, none⟩), .int .i64 id] w fun e w' => e = .returned (.int .i64 (findI id ps : Nat)) ∧ Below w.heap.size w w' := by
  obtain ⟨a, cap, hv⟩ := ownsRow_slice h.rB
  subst hv
  have c3 : w.cell? ⟨H, 3, none⟩ = some (.slice a ps.length cap) := (cell_of_heap h.blk).trans rfl
  have HR : Hid (w.ownsRow 0 187 19 (.slice a ps.length cap) ps.length (runsCells ps) ∧ (∀ p ∈ ps, p.regs.length = 12) ∧ H < w.heap.size) := ⟨h.rB, h.rl, heap_lt h.blk⟩
  clear h
  go_enter Try.func105, Try.ntmps105
  go_wp2_with fail
  go_loopw [12] (fun i wr => ∃ k : Nat, k ≤ ps.length ∧ i = .int .i64 k ∧ Hid (Below w.heap.size w wr) ∧ Hid (∀ p ∈ ps.take k, ¬ p.id = id)) (fun i _ => ps.length - (intOf i).toNat)
  case atStart => exact ⟨0, Nat.zero_le _, rfl, Below.refl _ _, fun x hx => absurd hx (by simp)⟩
  case round =>
    obtain ⟨k, hk, rfl, HB, HT⟩ := hrel
    rw [← HB.out.cell (p := ⟨H, 3, none⟩) HR.out.2.2] at c3
    by_cases hlt : k < ps.length
    · obtain ⟨g, cap', hv, _, hgl⟩ := HR.out.1.form (by omega)
      simp at hv
      obtain ⟨rfl, rfl⟩ := hv
      have hown : wr.ownsRow 0 187 19 (.slice (some ⟨g, 0, none⟩) ps.length cap) ps.length (runsCells ps) := own_keep HR.out.1 fun b hb => by obtain ⟨c, hc⟩ := own_block HR.out.1 hb; exact HB.out.block b (heap_lt hc)
      have hran := run_range hown HR.out.2.1 hlt
      have hrl := HR.out.2.1 _ (List.getElem_mem hlt)
      have HYES : Hid (ps[k].id = id → findI id ps = k) := fun h => findI_at hlt HT.out h
      have HNO : Hid (¬ ps[k].id = id → ∀ p ∈ ps.take (k + 1), ¬ p.id = id) := fun h x hx => by
        rw [List.take_succ_eq_append_getElem hlt, List.mem_append, List.mem_singleton] at hx
        rcases hx with hx | rfl
        · exact HT.out x hx
        · exact h
      generalize ps[k] = m at *
      obtain ⟨C, hC⟩ : ∃ C, C = (runCells m).toArray := ⟨_, rfl⟩
      have HCR : Hid (CellsR C m ∧ wr.rangeAt g (k * 19) C.toList) := ⟨⟨hC, hrl⟩, CellsR.range ⟨hC, hrl⟩ hran⟩
      have c0 : C[0]? = some (.int .i64 m.id) := by rw [hC]; rfl
      clear hown hgl hran hrl hC
      by_cases hr : m.id = id
      · have b1 : (m.id == id) = true := by simpa using hr
        have HY : Hid (_ = _) := HYES.out hr
        clear hr HYES HNO
        go_wp2_with (first | (refine wpList_load_mid rfl 187 (.tmp 15) rfl g (k * 19) (by rfl) C.toList _ HCR.out.2 Try.underlying187 rfl HCR.out.1.infoL ?_) | (refine wpList_store_new wr rfl 187 (.tmp 6) (.tmp 16) rfl zeroRun C (by rfl) (by rfl) HCR.out.1.info HCR.out.1.zero HCR.out.1.one ?_))
        go_ret
        exact ⟨by rw [HY.out]; rfl, HB.out.alloc HB.out.size _⟩
      · have b1 : (m.id == id) = false := by simpa using hr
        have HN : Hid (∀ p ∈ ps.take (k + 1), ¬ p.id = id) := HNO.out hr
        clear hr HYES HNO
        go_wp2_with (first | (refine wpList_load_mid rfl 187 (.tmp 15) rfl g (k * 19) (by rfl) C.toList _ HCR.out.2 Try.underlying187 rfl HCR.out.1.infoL ?_) | (refine wpList_store_new wr rfl 187 (.tmp 6) (.tmp 16) rfl zeroRun C (by rfl) (by rfl) HCR.out.1.info HCR.out.1.zero HCR.out.1.one ?_))
        go_roundw
        case rel => exact ⟨k + 1, by omega, by go_num, HB.out.alloc HB.out.size _, HN⟩
        case measure => simp [intOf]; omega
    · have HE : Hid (findI id ps = ps.length) := by
        have h := HT.out
        rw [List.take_of_length_le (by omega)] at h
        exact findI_none h
      go_wp2_with fail
      go_ret
      exact ⟨by rw [HE.out]; rfl, HB.out⟩
/-- Which run goes on first: the place and the time of the first, as the loop finds them. -/
def dueS (s : Nat × Int) (i : Nat) (p : Pr) : Nat × Int := if p.til < s.2 then (i, p.til) else s
def dueGo (n : Nat) (en : Int) (ps : List Pr) : Nat → Nat × Int
  | 0 => (n, en + 1)
  | k + 1 => match ps[k]? with | some p => dueS (dueGo n en ps k) k p | none => dueGo n en ps k
def dueI (en : Int) (ps : List Pr) : Nat := (dueGo ps.length en ps ps.length).1
theorem dueGo_succ {n : Nat} {en : Int} {ps : List Pr} {k : Nat} (hk : k < ps.length) : dueGo n en ps (k + 1) = dueS (dueGo n en ps k) k ps[k] := by
  rw [dueGo, List.getElem?_eq_getElem hk]
theorem due_at {E : Eng Pr} (hE : ∀ p, E.pub p = pubP p) (en : Int) (ps : List Pr) : ∀ k, k ≤ ps.length →
    ((ps.take k).foldl (dueF E en) none = none ∧ dueGo ps.length en ps k = (ps.length, en + 1)) ∨ ∃ i, ∃ hi : i < ps.length, (ps.take k).foldl (dueF E en) none = some ps[i] ∧ dueGo ps.length en ps k = (i, ps[i].til) ∧ ps[i].til ≤ en := by
  intro k
  induction k with
  | zero => intro _; exact .inl ⟨rfl, rfl⟩
  | succ k ih =>
    intro hk
    have hk' : k < ps.length := hk
    rw [List.take_succ_eq_append_getElem hk', List.foldl_append, dueGo_succ hk']
    have hp : (E.pub ps[k]).til = ps[k].til := by rw [hE]; rfl
    rcases ih (by omega) with ⟨h1, h2⟩ | ⟨i, hi, h1, h2, h3⟩
    · rw [h1, h2]
      simp only [List.foldl_cons, List.foldl_nil, dueF, dueS, hp]
      by_cases hc : ps[k].til ≤ en
      · rw [if_pos hc, if_pos (by omega)]
        exact .inr ⟨k, hk', rfl, rfl, hc⟩
      · rw [if_neg hc, if_neg (by omega)]
        exact .inl ⟨rfl, rfl⟩
    · have hq : (E.pub ps[i]).til = ps[i].til := by rw [hE]; rfl
      rw [h1, h2]
      simp only [List.foldl_cons, List.foldl_nil, dueF, dueS, hp, hq]
      by_cases hc : ps[k].til < ps[i].til
      · rw [if_pos (by omega), if_pos hc, if_pos hc]
        exact .inr ⟨k, hk', rfl, rfl, by omega⟩
      · rw [if_neg hc, if_neg hc]
        right
        refine ⟨i, hi, ?_, rfl, h3⟩
        split <;> rfl
theorem due_same {E : Eng Pr} (hE : ∀ p, E.pub p = pubP p) (en : Int) (ps : List Pr) : (dueR E en ps = none ∧ dueI en ps = ps.length) ∨ ∃ i, ∃ hi : i < ps.length, dueR E en ps = some ps[i] ∧ dueI en ps = i := by
  have h := due_at hE en ps ps.length (Nat.le_refl _)
  rw [List.take_of_length_le (Nat.le_refl _)] at h
  unfold dueR dueI
  rcases h with ⟨h1, h2⟩ | ⟨i, hi, h1, h2, _⟩
  · exact .inl ⟨h1, by rw [h2]⟩
  · exact .inr ⟨i, hi, h1, by rw [h2]⟩
set_option maxRecDepth 20000 in
set_option maxHeartbeats 4000000 in
theorem h_due (H : Nat) (code rec : Value) (now last : Int) (rv : Value) (qv : Nat → Value) (qs : Nat → List Msg) (ps : List Pr) (en : Int) (w : World) (h : HAt w H code rec now last rv qv qs ps) (hl : ps.length ≤ 1000) (he0 : 0 ≤ en) (he1 : en ≤ 1000000000000) :
    Calls Try.prog 102 #[.pointer (some ⟨H, 0, none⟩), .int .i64 en] w fun e w' => e = .returned (.int .i64 (dueI en ps : Nat)) ∧ Below w.heap.size w w' := by
  obtain ⟨a, cap, hv⟩ := ownsRow_slice h.rB
  subst hv
  have c3 : w.cell? ⟨H, 3, none⟩ = some (.slice a ps.length cap) := (cell_of_heap h.blk).trans rfl
  have HR : Hid (w.ownsRow 0 187 19 (.slice a ps.length cap) ps.length (runsCells ps) ∧ (∀ p ∈ ps, p.regs.length = 12) ∧ H < w.heap.size) := ⟨h.rB, h.rl, heap_lt h.blk⟩
  clear h
  go_enter Try.func102, Try.ntmps102
  go_wp2_with fail
  go_loopw [5, 6, 21] (fun f l i wr => ∃ (k fi : Nat) (lt : Int), k ≤ ps.length ∧ i = .int .i64 k ∧ f = .int .i64 fi ∧ l = .int .i64 lt ∧ Hid (dueGo ps.length en ps k = (fi, lt)) ∧ Hid (Below w.heap.size w wr)) (fun _ _ i _ => ps.length - (intOf i).toNat)
  case atStart => exact ⟨0, ps.length, en + 1, Nat.zero_le _, rfl, rfl, rfl, by show _ = _; rfl, Below.refl _ _⟩
  case round =>
    obtain ⟨k, fi, lt, hk, rfl, rfl, rfl, HD, HB⟩ := hrel
    clear c3
    by_cases hlt : k < ps.length
    · obtain ⟨g, cap', hv, _, hgl⟩ := HR.out.1.form (by omega)
      simp at hv
      obtain ⟨rfl, rfl⟩ := hv
      have hown : wr.ownsRow 0 187 19 (.slice (some ⟨g, 0, none⟩) ps.length cap) ps.length (runsCells ps) := own_keep HR.out.1 fun b hb => by obtain ⟨c, hc⟩ := own_block HR.out.1 hb; exact HB.out.block b (heap_lt hc)
      have hran := run_range hown HR.out.2.1 hlt
      have hrl := HR.out.2.1 _ (List.getElem_mem hlt)
      have hstep := dueGo_succ (n := ps.length) (en := en) hlt
      rw [HD.out] at hstep
      generalize ps[k] = m at *
      obtain ⟨C, hC⟩ : ∃ C, C = (runCells m).toArray := ⟨_, rfl⟩
      have HCR : Hid (CellsR C m ∧ wr.rangeAt g (k * 19) C.toList) := ⟨⟨hC, hrl⟩, CellsR.range ⟨hC, hrl⟩ hran⟩
      have c0 : C[3]? = some (.int .i64 m.til) := by rw [hC]; rfl
      clear hown hgl hran hrl hC
      by_cases hr : m.til < lt
      · have HS : Hid (dueGo ps.length en ps (k + 1) = (k, m.til)) := by rw [dueS, if_pos hr] at hstep; exact hstep
        clear hstep
        go_wp2_with (first | (refine wpList_load_mid rfl 187 (.tmp 24) rfl g (k * 19) (by rfl) C.toList _ HCR.out.2 Try.underlying187 rfl HCR.out.1.infoL ?_) | (refine wpList_store_new wr rfl 187 (.tmp 8) (.tmp 25) rfl zeroRun C (by rfl) (by rfl) HCR.out.1.info HCR.out.1.zero HCR.out.1.one ?_))
        go_roundw
        case rel => exact ⟨k + 1, k, m.til, by omega, by go_num, rfl, rfl, HS, HB.out.alloc HB.out.size _⟩
        case measure => simp [intOf]; omega
      · have HS : Hid (dueGo ps.length en ps (k + 1) = (fi, lt)) := by rw [dueS, if_neg hr] at hstep; exact hstep
        clear hstep
        go_wp2_with (first | (refine wpList_load_mid rfl 187 (.tmp 24) rfl g (k * 19) (by rfl) C.toList _ HCR.out.2 Try.underlying187 rfl HCR.out.1.infoL ?_) | (refine wpList_store_new wr rfl 187 (.tmp 8) (.tmp 25) rfl zeroRun C (by rfl) (by rfl) HCR.out.1.info HCR.out.1.zero HCR.out.1.one ?_))
        go_roundw
        case rel => exact ⟨k + 1, fi, lt, by omega, by go_num, rfl, rfl, HS, HB.out.alloc HB.out.size _⟩
        case measure => simp [intOf]; omega
    · have HE : Hid (dueI en ps = fi) := by
        have hk2 : k = ps.length := by omega
        have h := HD.out
        rw [hk2] at h
        show (dueGo _ _ _ _).1 = _
        rw [h]
      go_wp2_with fail
      go_ret
      exact ⟨by rw [HE.out]; rfl, HB.out⟩
open Go.RowKit Go.Proofs.Herald
theorem erase_take {ps : List Pr} {k i : Nat} (hk : k < ps.length) : (ps.take (k + 1)).eraseIdx i = if k = i then (ps.take k).eraseIdx i else (ps.take k).eraseIdx i ++ [ps[k]] := by
  rw [List.take_succ_eq_append_getElem hk]
  have hl : (ps.take k).length = k := by simp; omega
  generalize ps.take k = l at *
  generalize ps[k] = x
  by_cases h : k = i
  · subst h
    rw [if_pos rfl, List.eraseIdx_append_of_length_le (by omega), hl, Nat.sub_self, List.eraseIdx_of_length_le (l := l) (by omega)]
    simp
  · rw [if_neg h]
    by_cases hi : i < k
    · rw [List.eraseIdx_append_of_lt_length (by omega)]
    · rw [List.eraseIdx_append_of_length_le (by omega), List.eraseIdx_of_length_le (l := l) (by omega), List.eraseIdx_of_length_le (by simp; omega)]
/-- The runs are laid anew. -/
structure RNew (w w' : World) (H : Nat) (code rec : Value) (now last : Int) (rv : Value) (qv : Nat → Value) (ps : List Pr) (v' : Value) : Prop where
  blk : w'.heap[H]? = some (.cells (hCells code rec now last v' qv) 150 (0, 0))
  own : w'.ownsRow w.heap.size 187 19 v' ps.length (runsCells ps)
  fr : Fr (fun k => k = H) w w'
theorem HAt.setRuns {w w' : World} {H : Nat} {code rec : Value} {now last : Int} {rv v' : Value} {qv : Nat → Value} {qs : Nat → List Msg} {ps ps' : List Pr} (h : HAt w H code rec now last rv qv qs ps) (hr : RNew w w' H code rec now last rv qv ps' v') (hl : ∀ p ∈ ps', p.regs.length = 12) : HAt w' H code rec now last v' qv qs ps' := by
  refine ⟨hr.blk, fun d hd => own_keep (h.oB d hd) fun b hb => ?_, h.ql, h.dis, own0 hr.own, hl⟩
  obtain ⟨c, hc⟩ := own_block (h.oB d hd) hb
  exact hr.fr.block b (heap_lt hc) fun e => ne_of_type hc h.blk (by decide) e
set_option maxRecDepth 20000 in
set_option maxHeartbeats 4000000 in
theorem h_remove (H : Nat) (code rec : Value) (now last : Int) (rv : Value) (qv : Nat → Value) (qs : Nat → List Msg) (ps : List Pr) (i : Nat) (w : World) (h : HAt w H code rec now last rv qv qs ps) (hl : ps.length ≤ 1000) :
    Calls Try.prog 108 #[.pointer (some ⟨H, 0, none⟩), .int .i64 (i : Nat)] w fun e w' => e = .returned (.tuple #[]) ∧ ∃ v', RNew w w' H code rec now last rv qv (ps.eraseIdx i) v' := by
  obtain ⟨a, cap, hv⟩ := ownsRow_slice h.rB
  subst hv
  have c3 : w.cell? ⟨H, 3, none⟩ = some (.slice a ps.length cap) := (cell_of_heap h.blk).trans rfl
  have HH : Hid (HAt w H code rec now last (.slice a ps.length cap) qv qs ps) := h
  have HR : Hid (w.ownsRow 0 187 19 (.slice a ps.length cap) ps.length (runsCells ps) ∧ (∀ p ∈ ps, p.regs.length = 12) ∧ H < w.heap.size) := ⟨h.rB, h.rl, heap_lt h.blk⟩
  clear h
  go_enter Try.func108, Try.ntmps108
  go_wp2_with fail
  clear c3
  go_loopw [4, 12] (fun v j wr => ∃ k : Nat, k ≤ ps.length ∧ j = .int .i64 k ∧ Hid (wr.ownsRow w.heap.size 187 19 v ((ps.take k).eraseIdx i).length (runsCells ((ps.take k).eraseIdx i))) ∧ Hid (Below w.heap.size w wr)) (fun _ j _ => ps.length - (intOf j).toNat)
  case atStart => exact ⟨0, Nat.zero_le _, rfl, World.ownsRow_nil _ _ _ _, Below.refl _ _⟩
  case round =>
    obtain ⟨k, hk, rfl, HV, HB⟩ := hrel
    obtain ⟨F, hF⟩ : ∃ F, F = (ps.take k).eraseIdx i := ⟨_, rfl⟩
    rw [← hF] at HV
    have hFl : F.length ≤ 1000 := by rw [hF]; have := List.length_eraseIdx_le (ps.take k) i; simp at this; omega
    by_cases hlt : k < ps.length
    · have hstep := erase_take (i := i) hlt
      rw [← hF] at hstep
      obtain ⟨g, cap', hv, _, hgl⟩ := HR.out.1.form (by omega)
      simp at hv
      obtain ⟨rfl, rfl⟩ := hv
      have hown : wr.ownsRow 0 187 19 (.slice (some ⟨g, 0, none⟩) ps.length cap) ps.length (runsCells ps) := own_keep HR.out.1 fun b hb => by obtain ⟨c, hc⟩ := own_block HR.out.1 hb; exact HB.out.block b (heap_lt hc)
      have hran := run_range hown HR.out.2.1 hlt
      have hrl := HR.out.2.1 _ (List.getElem_mem hlt)
      generalize ps[k] = m at *
      obtain ⟨C, hC⟩ : ∃ C, C = (runCells m).toArray := ⟨_, rfl⟩
      have HCR : Hid (CellsR C m ∧ wr.rangeAt g (k * 19) C.toList) := ⟨⟨hC, hrl⟩, CellsR.range ⟨hC, hrl⟩ hran⟩
      clear hown hgl hran hrl hC hF
      by_cases hr : k = i
      · have b1 : ((k : Int) != (i : Int)) = false := by rw [hr]; simp
        have HE : Hid ((ps.take (k + 1)).eraseIdx i = F) := by rw [if_pos hr] at hstep; exact hstep
        clear hr hstep
        go_wp2_with (first | (refine wpList_load_mid rfl 187 (.tmp 15) rfl g (k * 19) (by rfl) C.toList _ HCR.out.2 Try.underlying187 rfl HCR.out.1.infoL ?_) | (refine wpList_store_new wr rfl 187 (.tmp 6) (.tmp 16) rfl zeroRun C (by rfl) (by rfl) HCR.out.1.info HCR.out.1.zero HCR.out.1.one ?_))
        go_roundw
        case rel => exact ⟨k + 1, by omega, by go_num, by rw [HE.out]; exact HV.out.alloc _, HB.out.alloc HB.out.size _⟩
        case measure => simp [intOf]; omega
      · have b1 : ((k : Int) != (i : Int)) = true := by simp; omega
        have HE : Hid ((ps.take (k + 1)).eraseIdx i = F ++ [m]) := by rw [if_neg hr] at hstep; exact hstep
        have HT1 : Hid (C.toList.length = 1 * 19) := by
          show _ = _
          have hcs := HCR.out.1.size
          simp [hcs]
        have HT2 : Hid (∀ u ∈ C.toList, u.oneCell' = true) := by
          rw [HCR.out.1.eq]
          exact runCells_one m
        have HT4 : Hid (((wr.alloc (.cells C 187)).alloc (.cells C 187)).heap[wr.heap.size + 1]? = some (.cells C.toList.toArray 187 (0, 0))) := heap_alloc2 _ _ _
        have HT5 : Hid (((wr.alloc (.cells C 187)).alloc (.cells C 187)).ownsRow 0 187 19 u4 F.length (runsCells F)) := ((own0 HV.out).alloc _).alloc _
        clear hr hstep
        go_wp2_with (first | (refine wpList_load_mid rfl 187 (.tmp 15) rfl g (k * 19) (by rfl) C.toList _ HCR.out.2 Try.underlying187 rfl HCR.out.1.infoL ?_) | (refine wpList_store_new wr rfl 187 (.tmp 6) (.tmp 16) rfl zeroRun C (by rfl) (by rfl) HCR.out.1.info HCR.out.1.zero HCR.out.1.one ?_) | (refine wpList_load_mid rfl 187 (.tmp 6) rfl wr.heap.size 0 (by rfl) C.toList _ (CellsR.new (heap_alloc_new _ _)) Try.underlying187 rfl HCR.out.1.infoL ?_) | (refine wpList_build1 _ rfl (.tmp 21) rfl C (by rfl) HCR.out.1.size (wr.heap.size + 1) (by simp) ?_) | (at_builtin; refine wpList_append_keep _ rfl (.tmp 20) (.tmp 22) 141 rfl 187 _ 19 152 Try.underlying141 Try.infoRunZ rfl (by decide) (by decide) u4 F.length 1 (runsCells F) (wr.heap.size + 1) C.toList (by rfl) HT5.out HT4.out (by rfl) HT1.out HT2.out (by decide) (by omega) ?_))
        intro v2 w2 hown2 ha2
        have hab := appended_below (w0 := w) (B := w.heap.size) ((HB.out.alloc HB.out.size _).alloc (by have := HB.out.size; simp; omega) _) (by have := HB.out.size; simp; omega) ((HV.out.alloc _).alloc _) hown2 ha2
        replace hown2 := hab.2
        have HV2 : Hid (w2.ownsRow w.heap.size 187 19 v2 ((ps.take (k + 1)).eraseIdx i).length (runsCells ((ps.take (k + 1)).eraseIdx i))) := by
          rw [HE.out, runsCells_snoc, List.length_append, show runCells m = C.toList from by rw [HCR.out.1.eq]]; exact hown2
        have HB2 : Hid (Below w.heap.size w w2) := hab.1
        clear hown2 ha2 hab
        go_wp2_with fail
        go_roundw
        case rel => exact ⟨k + 1, by omega, by go_num, HV2, HB2⟩
        case measure => simp [intOf]; omega
    · have HE : Hid (F = ps.eraseIdx i) := by show _ = _; rw [hF, List.take_of_length_le (by omega)]
      have HBK : Hid (HAt wr H code rec now last (.slice a ps.length cap) qv qs ps) := HH.out.below HB.out
      have c1 : wr.cell? ⟨H, 3, none⟩ = some (.slice a ps.length cap) := (cell_of_heap HBK.out.blk).trans rfl
      have z : wr.frozen? ⟨H, 3, none⟩ = false := free_of_heap HBK.out.blk
      clear hF
      obtain ⟨av, cv2, hvv⟩ := ownsRow_slice HV.out
      subst hvv
      go_wp2_with fail
      go_end0
      refine ⟨rfl, _, heap_setCell_self _ HBK.out.blk, ?_, ?_⟩
      · rw [← HE.out]
        refine own_base (own_keep (own0 HV.out) fun b hb => ?_) fun b hb => (ownsRow_lies HV.out hb).1
        obtain ⟨c, hc⟩ := own_block (own0 HV.out) hb
        exact Below.heap_setCell _ _ _ _ (ne_of_type hc HBK.out.blk (by decide))
      · exact ((Fr.of_below HB.out).mono (T := fun k => k = H) fun j hj hs => by omega).setCell ⟨H, 3, none⟩ (Or.inl rfl) _
open Go.RowKit Go.Proofs.Herald
theorem hCells_q {code rec : Value} {now last : Int} {rv : Value} {qv : Nat → Value} {d : Nat} (hd : d < 3) : (hCells code rec now last rv qv)[4 + d]? = some (qv d) := by
  match d, hd with
  | 0, _ => rfl
  | 1, _ => rfl
  | 2, _ => rfl
theorem hCells_setQ {code rec : Value} {now last : Int} {rv v : Value} {qv : Nat → Value} {d : Nat} (hd : d < 3) : (hCells code rec now last rv qv).setIfInBounds (4 + d) v = hCells code rec now last rv (upd qv d v) := by
  match d, hd with
  | 0, _ => rfl
  | 1, _ => rfl
  | 2, _ => rfl
theorem HAt.que {w : World} {H : Nat} {code rec : Value} {now last : Int} {rv : Value} {qv : Nat → Value} {qs : Nat → List Msg} {ps : List Pr} (h : HAt w H code rec now last rv qv qs ps) {d : Nat} (hd : d < 3) : QAt w H (4 + d) (hCells code rec now last rv qv) 150 (qv d) (qs d) :=
  ⟨h.blk, hCells_q hd, by decide, h.oB d hd, h.ql d hd⟩
theorem updQ_upd (f : Nat → List Msg) (d : Nat) (q : List Msg) : updQ f d q = upd f d q := rfl
/-- One of the queues is another. -/
theorem HAt.setQueue {w w1 : World} {H : Nat} {code rec : Value} {now last : Int} {rv v' : Value} {qv : Nat → Value} {qs : Nat → List Msg} {ps : List Pr} {q' : List Msg} {d : Nat} (h : HAt w H code rec now last rv qv qs ps) (hd : d < 3)
    (hq : QAt w1 H (4 + d) ((hCells code rec now last rv qv).setIfInBounds (4 + d) v') 150 v' q') (hv : ∀ b, v'.ownBlock = some b → (qv d).ownBlock = some b ∨ w.heap.size ≤ b) (hf : Fr (fun k => k = H ∨ (qv d).ownBlock = some k) w w1) :
    HAt w1 H code rec now last rv (upd qv d v') (updQ qs d q') ps := by
  have keepQ : ∀ e, e < 3 → e ≠ d → ∀ b, (qv e).ownBlock = some b → w1.heap[b]? = w.heap[b]? := fun e he hne b hb => by
    obtain ⟨c, hc⟩ := own_block (h.oB e he) hb
    refine hf.block b (heap_lt hc) ?_
    rintro (hk | hk)
    · exact ne_of_type hc h.blk (by decide) hk
    · exact hne (h.dis e d b he hd hb hk)
  refine ⟨by rw [← hCells_setQ hd]; exact hq.blk, fun e he => ?_, fun e he => ?_, fun e f b he hf' h1 h2 => ?_, own_keep h.rB fun b hb => ?_, h.rl⟩
  · by_cases hed : e = d
    · subst hed
      rw [upd_same, updQ_upd, upd_same]
      exact hq.own
    · rw [upd_other _ _ hed, updQ_upd, upd_other _ _ hed]
      exact own_keep (h.oB e he) (keepQ e he hed)
  · by_cases hed : e = d
    · subst hed
      rw [updQ_upd, upd_same]
      exact hq.len
    · rw [updQ_upd, upd_other _ _ hed]
      exact h.ql e he
  · have new : ∀ e b, e < 3 → e ≠ d → (qv e).ownBlock = some b → v'.ownBlock ≠ some b := fun e b he hne hb hh => by
      rcases hv b hh with hx | hx
      · exact hne (h.dis e d b he hd hb hx)
      · obtain ⟨c, hc⟩ := own_block (h.oB e he) hb
        have := heap_lt hc
        omega
    by_cases hed : e = d
    · by_cases hfd : f = d
      · omega
      · subst hed
        rw [upd_same] at h1
        rw [upd_other _ _ hfd] at h2
        exact absurd h1 (new f b hf' hfd h2)
    · by_cases hfd : f = d
      · subst hfd
        rw [upd_same] at h2
        rw [upd_other _ _ hed] at h1
        exact absurd h2 (new e b he hed h1)
      · rw [upd_other _ _ hed] at h1
        rw [upd_other _ _ hfd] at h2
        exact h.dis e f b he hf' h1 h2
  · obtain ⟨c, hc⟩ := own_block h.rB hb
    refine hf.block b (heap_lt hc) ?_
    rintro (hk | hk)
    · exact ne_of_type hc h.blk (by decide) hk
    · obtain ⟨c2, hc2⟩ := own_block (h.oB d hd) hk
      exact ne_of_type hc hc2 (by decide) rfl
theorem own_setCells {B : Nat} {e : TypeId} {size n g cap : Nat} : ∀ (cs : List Value) {w : World} {A rest old : List Value} (p : Nat), w.ownsRow B e size (.slice (some ⟨g, 0, none⟩) n cap) n (A ++ old ++ rest) → p = A.length → old.length = cs.length → (w.setCells g p cs).ownsRow B e size (.slice (some ⟨g, 0, none⟩) n cap) n (A ++ cs ++ rest) := by
  intro cs
  induction cs with
  | nil =>
    intro w A rest old p h _ ho
    have : old = [] := List.eq_nil_of_length_eq_zero ho
    subst this
    exact h
  | cons c cs ih =>
    intro w A rest old p h hp ho
    match old, ho with
    | x :: old, ho =>
      have h1 := own_set h p c
      have e1 : (A ++ (x :: old) ++ rest).set p c = (A ++ [c]) ++ old ++ rest := by
        subst hp
        simp
      rw [e1] at h1
      have h2 := ih (p + 1) h1 (by simp [hp]) (by simpa using ho)
      rw [World.setCells]
      simpa using h2
theorem heap_setCells (b : Nat) : ∀ (cs : List Value) (o : Nat) (w : World) (k : Nat), k ≠ b → (w.setCells b o cs).heap[k]? = w.heap[k]? := by
  intro cs
  induction cs with
  | nil => intro o w k _; rfl
  | cons c cs ih =>
    intro o w k hk
    rw [World.setCells, ih (o + 1) _ k hk, Below.heap_setCell _ _ _ _ hk]
theorem fr_setCells {S : Nat → Prop} {b : Nat} (hb : S b) : ∀ (cs : List Value) (o : Nat) {w0 w : World}, Fr S w0 w → Fr S w0 (w.setCells b o cs) := by
  intro cs
  induction cs with
  | nil => intro o w0 w h; exact h
  | cons c cs ih =>
    intro o w0 w h
    rw [World.setCells]
    exact ih (o + 1) (h.setCell ⟨b, o, none⟩ (.inl hb) _)
theorem runsCells_append (a b : List Pr) : runsCells (a ++ b) = runsCells a ++ runsCells b := by unfold runsCells; simp
theorem runsCells_split (ps : List Pr) (i : Nat) (h : i < ps.length) : runsCells ps = runsCells (ps.take i) ++ runCells ps[i] ++ runsCells (ps.drop (i + 1)) := by
  have e : ps = ps.take i ++ [ps[i]] ++ ps.drop (i + 1) := by simp
  conv => lhs; rw [e]
  rw [runsCells_append, runsCells_append]
  simp [runsCells]
theorem runsCells_set (ps : List Pr) (i : Nat) (h : i < ps.length) (p : Pr) : runsCells (ps.set i p) = runsCells (ps.take i) ++ runCells p ++ runsCells (ps.drop (i + 1)) := by
  rw [List.set_eq_take_append_cons_drop, if_pos h, runsCells_append]
  simp [runsCells]
/-- One of the runs is written whole. -/
theorem HAt.setRun {w w1 : World} {H : Nat} {code rec : Value} {now last : Int} {qv : Nat → Value} {qs : Nat → List Msg} {ps : List Pr} {g cap i : Nat} {p : Pr} (h : HAt w H code rec now last (.slice (some ⟨g, 0, none⟩) ps.length cap) qv qs ps) (hi : i < ps.length) (hp : p.regs.length = 12) (e1 : w1 = w.setCells g (i * 19) (runCells p)) :
    HAt w1 H code rec now last (.slice (some ⟨g, 0, none⟩) ps.length cap) qv qs (ps.set i p) := by
  subst e1
  obtain ⟨c, hc⟩ := own_block h.rB (k := g) rfl
  refine ⟨(heap_setCells _ _ _ _ _ (ne_of_type h.blk hc (by decide))).trans h.blk, fun d hd => own_keep (h.oB d hd) fun b hb => ?_, h.ql, h.dis, ?_, fun x hx => ?_⟩
  · obtain ⟨c2, hc2⟩ := own_block (h.oB d hd) hb
    exact heap_setCells _ _ _ _ _ (ne_of_type hc2 hc (by decide))
  · have h1 := h.rB
    rw [runsCells_split ps i hi] at h1
    have h2 := own_setCells (runCells p) (i * 19) h1 (by rw [runsCells_length (fun x hx => h.rl x (List.mem_of_mem_take hx)), List.length_take, Nat.min_eq_left (by omega)]) (by rw [runCells_length hp, runCells_length (h.rl _ (List.getElem_mem hi))])
    rw [List.length_set, runsCells_set ps i hi]
    exact h2
  · rcases List.mem_or_eq_of_mem_set hx with hx | rfl
    · exact h.rl x hx
    · exact hp
/-- A run went on, beside its herald: seen of the herald. -/
theorem HAt.ran {w W wc : World} {H R : Nat} {code rec : Value} {now last : Int} {rv : Value} {qv : Nat → Value} {qs : Nat → List Msg} {ps : List Pr} {q' : List Msg} {p' : Pr} {d : Nat} (h : HAt w H code rec now last rv qv qs ps) (hd : d < 3) (hb : Below w.heap.size w W) (hR : w.heap.size ≤ R)
    (ho : MOut W wc R H (4 + d) (hCells code rec now last rv qv) 150 (qv d) q' p') :
    ∃ v', HAt wc H code rec now last rv (upd qv d v') (updQ qs d q') ps ∧ wc.heap[R]? = some (.cells (runCells p').toArray 187 (0, 0)) ∧ p'.regs.length = 12 ∧ (∀ k, ownH H rv (upd qv d v') k → ownH H rv qv k ∨ w.heap.size ≤ k) ∧ Fr (ownH H rv qv) w wc := by
  obtain ⟨⟨v', hA, hv⟩, hF⟩ := ho
  have f1 : Fr (fun k => (k = H ∨ (qv d).ownBlock = some k) ∨ w.heap.size ≤ k) w W := (Fr.of_below hb).mono fun k _ hk => .inr hk
  have f2 : Fr (fun k => (k = H ∨ (qv d).ownBlock = some k) ∨ w.heap.size ≤ k) W wc := hF.mono fun k _ hk => by
    rcases hk with rfl | hk
    · exact .inr hR
    · exact .inl hk
  have f3 : Fr (fun k => k = H ∨ (qv d).ownBlock = some k) w wc := (f1.trans f2).mono fun k hk hs => by
    rcases hs with h | h
    · exact h
    · omega
  have hv' : ∀ b, v'.ownBlock = some b → (qv d).ownBlock = some b ∨ w.heap.size ≤ b := fun b hb' => by
    rcases hv b hb' with h | h
    · exact .inl h
    · exact .inr (Nat.le_trans hb.size h)
  refine ⟨v', h.setQueue hd hA.que hv' f3, hA.run, hA.rl, fun k hk => ?_, f3.mono fun k _ hk => ?_⟩
  · rcases hk with rfl | ⟨e, he, hk⟩ | hk
    · exact .inl (.inl rfl)
    · by_cases hed : e = d
      · subst hed
        rw [upd_same] at hk
        rcases hv' k hk with h | h
        · exact .inl (.inr (.inl ⟨e, he, h⟩))
        · exact .inr h
      · rw [upd_other _ _ hed] at hk
        exact .inl (.inr (.inl ⟨e, he, hk⟩))
    · exact .inl (.inr (.inr hk))
  · rcases hk with rfl | hk
    · exact .inl rfl
    · exact .inr (.inl ⟨d, hd, hk⟩)
end Go.Proofs.Ytmmmnghiegajmaa
