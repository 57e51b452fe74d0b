import Derived.Test.YtmmmnghiegajmaaM21
/- The program's herald: Ack. -/
namespace Go.Proofs.Ytmmmnghiegajmaa
open Go.RowKit Go.Proofs.Herald
/-- One cell of a run is written. -/
theorem HAt.setEls {w : World} {H : Nat} {code rec : Value} {now last : Int} {qv : Nat → Value} {qs : Nat → List Msg} {ps : List Pr} {g cap i : Nat} (h : HAt w H code rec now last (.slice (some ⟨g, 0, none⟩) ps.length cap) qv qs ps) (hi : i < ps.length) (z : Int) :
    HAt (w.setCell ⟨g, i * 19 + 17, none⟩ (.int .i64 z)) H code rec now last (.slice (some ⟨g, 0, none⟩) ps.length cap) qv qs (ps.set i { ps[i] with els := z }) := by
  obtain ⟨c, hc⟩ := own_block h.rB (k := g) rfl
  have hrl := h.rl _ (List.getElem_mem hi)
  refine ⟨(Below.heap_setCell _ _ _ _ (ne_of_type h.blk hc (by decide))).trans h.blk, fun d hd => own_keep (h.oB d hd) fun b hb => ?_, h.ql, h.dis, ?_, fun x hx => ?_⟩
  · obtain ⟨c2, hc2⟩ := own_block (h.oB d hd) hb
    exact Below.heap_setCell _ _ _ _ (ne_of_type hc2 hc (by decide))
  · have h1 := own_set h.rB (i * 19 + 17) (.int .i64 z)
    have e : (runsCells ps).set (i * 19 + 17) (.int .i64 z) = runsCells (ps.set i { ps[i] with els := z }) := by
      have hlt : (runsCells (ps.take i)).length = i * 19 := by rw [runsCells_length (fun x hx => h.rl x (List.mem_of_mem_take hx)), List.length_take, Nat.min_eq_left (by omega)]
      rw [runsCells_set ps i hi, runsCells_split ps i hi, ← runCells_setEls hrl z, List.append_assoc, List.set_append_right _ _ (by omega), hlt, Nat.add_sub_cancel_left, List.set_append_left _ _ (by rw [runCells_length hrl]; omega), ← List.append_assoc]
    rw [e] at h1
    rw [List.length_set]
    exact h1
  · rcases List.mem_or_eq_of_mem_set hx with hx | rfl
    · exact h.rl x hx
    · exact hrl
theorem afterI_set {ps : List Pr} {i : Nat} {x p : Pr} {done : Bool} : afterI (ps.set i x) i p done = afterI ps i p done := by
  unfold afterI
  cases done with
  | true => simp only [if_true]; exact List.eraseIdx_set_eq
  | false => simp only [Bool.false_eq_true, if_false]; simp
set_option maxRecDepth 20000 in
set_option maxHeartbeats 8000000 in
theorem h_ack_none (H : Nat) (code rec : Value) (now last : Int) (rv : Value) (qv : Nat → Value) (qs : Nat → List Msg) (ps : List Pr) (id num : Int) (w : World) (h : HAt w H code rec now last rv qv qs ps) (hl : ps.length ≤ 1000) (hf : findI id ps = ps.length) :
    Calls Try.prog 72 #[.pointer (some ⟨H, 0, none⟩), .int .i64 id, .int .i64 num] w fun e w' => e = .returned (.int .i64 10) ∧ Below w.heap.size w w' := by
  obtain ⟨a, cap, hv⟩ := ownsRow_slice h.rB
  subst hv
  have HF : Hid (Calls Try.prog 105 #[.pointer (some ⟨H, 0, none⟩), .int .i64 id] w fun e w' => e = .returned (.int .i64 (ps.length : Nat)) ∧ Below w.heap.size w w') := by
    have := h_find H code rec now last _ qv qs ps id w h hl
    rw [hf] at this
    exact this
  have HH : Hid (HAt w H code rec now last (.slice a ps.length cap) qv qs ps) := h
  clear h hf
  go_enter Try.func72, Try.ntmps72
  go_wp2_with fail
  refine HF.out.mono ?_
  rintro e w1 ⟨rfl, hb⟩
  have c3 : w1.cell? ⟨H, 3, none⟩ = some (.slice a ps.length cap) := (cell_of_heap (HH.out.below hb).blk).trans rfl
  have HB : Hid (Below w.heap.size w w1) := hb
  clear hb
  go_wp2_with fail
  go_ret
  exact ⟨rfl, HB.out⟩
set_option maxRecDepth 20000 in
set_option maxHeartbeats 8000000 in
theorem h_ack_wait (H : Nat) (code rec : Value) (now last : Int) (rv : Value) (qv : Nat → Value) (qs : Nat → List Msg) (ps : List Pr) (id num : Int) (i : Nat) (w : World) (h : HAt w H code rec now last rv qv qs ps) (hl : ps.length ≤ 1000) (hi : i < ps.length) (hf : findI id ps = i) (hn : num = 0 ∨ ¬ num = ps[i].num) :
    Calls Try.prog 72 #[.pointer (some ⟨H, 0, none⟩), .int .i64 id, .int .i64 num] w fun e w' => e = .returned (.int .i64 11) ∧ Below w.heap.size w w' := by
  obtain ⟨g, cap, hv, _, hgl⟩ := h.rB.form (by omega)
  subst hv
  have HF : Hid (Calls Try.prog 105 #[.pointer (some ⟨H, 0, none⟩), .int .i64 id] w fun e w' => e = .returned (.int .i64 (i : Nat)) ∧ Below w.heap.size w w') := by
    have := h_find H code rec now last _ qv qs ps id w h hl
    rw [hf] at this
    exact this
  have HH : Hid (HAt w H code rec now last (.slice (some ⟨g, 0, none⟩) ps.length cap) qv qs ps) := h
  have hne : ((i : Int) == (ps.length : Int)) = false := by simp; omega
  clear h hf hgl
  go_enter Try.func72, Try.ntmps72
  go_wp2_with fail
  refine HF.out.mono ?_
  rintro e w1 ⟨rfl, hb⟩
  have h1 := HH.out.below hb
  have c3 : w1.cell? ⟨H, 3, none⟩ = some (.slice (some ⟨g, 0, none⟩) ps.length cap) := (cell_of_heap h1.blk).trans rfl
  have hran := run_range h1.rB h1.rl hi
  have hrl := h1.rl _ (List.getElem_mem hi)
  generalize ps[i] = p at *
  obtain ⟨C, hC⟩ : ∃ C, C = (runCells p).toArray := ⟨_, rfl⟩
  have HCR : Hid (CellsR C p ∧ w1.rangeAt g (i * 19) C.toList) := ⟨⟨hC, hrl⟩, CellsR.range ⟨hC, hrl⟩ hran⟩
  have k4 : C[4]? = some (.int .i64 p.num) := by rw [hC]; rfl
  have HB : Hid (Below w.heap.size w w1) := hb
  clear hb h1 hran hrl hC HF
  by_cases hz : num = 0
  · have hzb : (num == 0) = true := by simpa using hz
    clear hz hn
    go_wp2_with (first | (refine wpList_load_mid rfl 187 (.tmp 24) rfl g (i * 19) (by rfl) C.toList _ HCR.out.2 Try.underlying187 rfl HCR.out.1.infoL ?_) | (refine wpList_store_new w1 rfl 187 (.tmp 8) (.tmp 25) rfl zeroRun C (by rfl) (by rfl) HCR.out.1.info HCR.out.1.zero HCR.out.1.one ?_))
    go_ret
    exact ⟨rfl, HB.out.alloc HB.out.size _⟩
  · have hzb : (num == 0) = false := by simpa using hz
    have hnb : (num != p.num) = true := by
      rcases hn with h | h
      · exact absurd h hz
      · simpa using h
    clear hz hn
    go_wp2_with (first | (refine wpList_load_mid rfl 187 (.tmp 24) rfl g (i * 19) (by rfl) C.toList _ HCR.out.2 Try.underlying187 rfl HCR.out.1.infoL ?_) | (refine wpList_store_new w1 rfl 187 (.tmp 8) (.tmp 25) rfl zeroRun C (by rfl) (by rfl) HCR.out.1.info HCR.out.1.zero HCR.out.1.one ?_))
    go_ret
    exact ⟨rfl, HB.out.alloc HB.out.size _⟩
set_option maxRecDepth 20000 in
set_option maxHeartbeats 8000000 in
theorem h_ack_queue (H : Nat) (code rec : Value) (now last : Int) (rv : Value) (qv : Nat → Value) (qs : Nat → List Msg) (ps : List Pr) (id num : Int) (i d : Nat) (w : World) (h : HAt w H code rec now last rv qv qs ps) (hl : ps.length ≤ 1000) (hi : i < ps.length) (hf : findI id ps = i) (hd : d < 3) (hdev : ps[i].dev = (d : Nat)) (hz : ¬ num = 0) (hn : num = ps[i].num) (hb : hasQ (qs d) id num = true) :
    Calls Try.prog 72 #[.pointer (some ⟨H, 0, none⟩), .int .i64 id, .int .i64 num] w fun e w' => e = .returned (.int .i64 12) ∧ Below w.heap.size w w' := by
  obtain ⟨g, cap, hv, _, hgl⟩ := h.rB.form (by omega)
  subst hv
  have HF : Hid (Calls Try.prog 105 #[.pointer (some ⟨H, 0, none⟩), .int .i64 id] w fun e w' => e = .returned (.int .i64 (i : Nat)) ∧ Below w.heap.size w w') := by
    have := h_find H code rec now last _ qv qs ps id w h hl
    rw [hf] at this
    exact this
  have HH : Hid (HAt w H code rec now last (.slice (some ⟨g, 0, none⟩) ps.length cap) qv qs ps ∧ ps[i].dev = (d : Nat) ∧ hasQ (qs d) id num = true) := ⟨h, hdev, hb⟩
  have hne : ((i : Int) == (ps.length : Int)) = false := by simp; omega
  have hdi : (d : Int) < 3 := by omega
  have hzb : (num == 0) = false := by simpa using hz
  have hnb : (num != ps[i].num) = false := by simpa using hn
  clear h hf hgl hdev hb hz hn
  go_enter Try.func72, Try.ntmps72
  go_wp2_with fail
  refine HF.out.mono ?_
  rintro e w1 ⟨rfl, hb⟩
  have h1 := HH.out.1.below hb
  have c3 : w1.cell? ⟨H, 3, none⟩ = some (.slice (some ⟨g, 0, none⟩) ps.length cap) := (cell_of_heap h1.blk).trans rfl
  have hHl : H < w1.heap.size := heap_lt h1.blk
  have hran := run_range h1.rB h1.rl hi
  have hrl := h1.rl _ (List.getElem_mem hi)
  obtain ⟨C, hC⟩ : ∃ C, C = (runCells ps[i]).toArray := ⟨_, rfl⟩
  have HCR : Hid (CellsR C ps[i] ∧ w1.rangeAt g (i * 19) C.toList) := ⟨⟨hC, hrl⟩, CellsR.range ⟨hC, hrl⟩ hran⟩
  have k1 : C[1]? = some (.int .i64 (d : Nat)) := by rw [hC, ← HH.out.2.1]; rfl
  have k4 : C[4]? = some (.int .i64 ps[i].num) := by rw [hC]; rfl
  have HAS : Hid (∀ W, W = (w1.alloc (.cells C 187)).drew → Calls Try.prog 106 #[.pointer (some ⟨H, 4 + d, none⟩), .int .i64 id, .int .i64 num] W fun e w' => e = .returned (.bool true) ∧ Below w.heap.size w w' ∧ w'.heap[w1.heap.size]? = some (.cells C 187 (0, 0))) := fun W hW => by
    have hb2 : Below w1.heap.size w1 W := by rw [hW]; exact ((Below.refl _ _).alloc (Nat.le_refl _) _).drew
    refine (q_has H (4 + d) _ _ (qv d) (qs d) id num W ((h1.below hb2).que hd)).mono ?_
    rintro e w' ⟨rfl, hb3⟩
    rw [HH.out.2.2]
    refine ⟨rfl, (hb.trans (hb2.mono hb.size)).trans (hb3.mono (Nat.le_trans hb.size hb2.size)), ?_⟩
    have hW1 : W.heap[w1.heap.size]? = some (.cells C 187 (0, 0)) := by rw [hW]; exact heap_alloc_new _ _
    exact (hb3.block _ (heap_lt hW1)).trans hW1
  generalize ps[i] = p at *
  clear hb h1 hran hrl hC HF
  go_upto_region 7 with (first | (refine wpList_load_mid rfl 187 (.tmp 24) rfl g (i * 19) (by rfl) C.toList _ HCR.out.2 Try.underlying187 rfl HCR.out.1.infoL ?_) | (refine wpList_store_new w1 rfl 187 (.tmp 8) (.tmp 25) rfl zeroRun C (by rfl) (by rfl) HCR.out.1.info HCR.out.1.zero HCR.out.1.one ?_))
  go_cut [44] (fun r wx => r = .bool true ∧ Hid (Below w.heap.size w wx ∧ wx.heap[w1.heap.size]? = some (.cells C 187 (0, 0))))
  case first =>
    go_region_with (go_at_call 106; refine (HAS.out _ rfl).mono ?_; rintro e w2 ⟨rfl, ho⟩)
    all_goals
      go_wp2_with fail
      go_meet
      case rel => exact ⟨rfl, ho⟩
  case rest =>
    obtain ⟨rfl, HX⟩ := hcut
    clear HAS HCR k1 k4 c3 hHl hzb hnb hne
    go_wp2_with fail
    go_ret
    exact ⟨rfl, HX.out.1⟩
set_option maxRecDepth 20000 in
set_option maxHeartbeats 8000000 in
theorem h_ack_ok (H : Nat) (code rec : Value) (now last : Int) (rv : Value) (qv : Nat → Value) (qs : Nat → List Msg) (ps : List Pr) (id num : Int) (i d : Nat) (cs : List Ins) (w : World) (h : HAt w H code rec now last rv qv qs ps) (hl : ps.length ≤ 1000) (hi : i < ps.length) (hf : findI id ps = i) (hd : d < 3) (hdev : ps[i].dev = (d : Nat)) (hz : ¬ num = 0) (hn : num = ps[i].num)
    (hc : w.ownsRow 0 128 4 code cs.length (codeCells cs)) (hsnd : soundL cs = true) (hm : goodM cs ps[i]) (hs : ps[i].sent ≤ 999999999999990000) (ht0 : 0 ≤ now) (ht1 : now ≤ 1000000000) (hb : hasQ (qs d) id num = false) :
    Calls Try.prog 72 #[.pointer (some ⟨H, 0, none⟩), .int .i64 id, .int .i64 num] w fun e w' => e = .returned (.int .i64 0) ∧ ProcOut w w' H code rec now last rv qv (updQ qs d (onM now cs true (qs d) ps[i]).1) (afterI ps i (onM now cs true (qs d) ps[i]).2.1 (onM now cs true (qs d) ps[i]).2.2) := by
  obtain ⟨g, cap, hv, _, hgl⟩ := h.rB.form (by omega)
  subst hv
  have HF : Hid (Calls Try.prog 105 #[.pointer (some ⟨H, 0, none⟩), .int .i64 id] w fun e w' => e = .returned (.int .i64 (i : Nat)) ∧ Below w.heap.size w w') := by
    have := h_find H code rec now last _ qv qs ps id w h hl
    rw [hf] at this
    exact this
  have HH : Hid (HAt w H code rec now last (.slice (some ⟨g, 0, none⟩) ps.length cap) qv qs ps ∧ ps[i].dev = (d : Nat) ∧ hasQ (qs d) id num = false) := ⟨h, hdev, hb⟩
  have hon : onM now cs true (qs d) ps[i] = runM now cs 10000 (qs d) { ps[i] with els := ps[i].tow } := rfl
  have HP : Hid (∀ wc, HAt wc H code rec now last (.slice (some ⟨g, 0, none⟩) ps.length cap) qv qs (ps.set i { ps[i] with els := ps[i].tow }) → Fr (ownH H (.slice (some ⟨g, 0, none⟩) ps.length cap) qv) w wc → Calls Try.prog 100 #[.pointer (some ⟨H, 0, none⟩), .int .i64 (i : Nat)] wc fun e w' => e = .returned (.tuple #[]) ∧ ProcOut w w' H code rec now last (.slice (some ⟨g, 0, none⟩) ps.length cap) qv (updQ qs d (onM now cs true (qs d) ps[i]).1) (afterI ps i (onM now cs true (qs d) ps[i]).2.1 (onM now cs true (qs d) ps[i]).2.2)) := fun wc h1 h3 => by
    have hget : (ps.set i { ps[i] with els := ps[i].tow })[i]'(by simpa using hi) = { ps[i] with els := ps[i].tow } := by simp
    have hk := h_proceed H code rec now last (.slice (some ⟨g, 0, none⟩) ps.length cap) qv qs (ps.set i { ps[i] with els := ps[i].tow }) i d cs wc h1 (by simpa using hl) (by simpa using hi) hd (by rw [hget]; exact hdev) (h.code h3 hc) hsnd (by rw [hget]; exact mid_yes (m := ps[i]) hm (by rw [← hn]; exact hz) (h.ql d hd)) (by rw [hget]; exact hs) ht0 ht1
    rw [hget, ← hon, afterI_set] at hk
    refine hk.mono ?_
    rintro e w' ⟨rfl, ho⟩
    exact ⟨rfl, ho.trans (fun k hk => .inl hk) h3⟩
  have hne : ((i : Int) == (ps.length : Int)) = false := by simp; omega
  have hdi : (d : Int) < 3 := by omega
  have hzb : (num == 0) = false := by simpa using hz
  have hnb : (num != ps[i].num) = false := by simpa using hn
  generalize hRR : onM now cs true (qs d) ps[i] = RR at *
  clear h hf hgl hdev hc hsnd hm hs hon hb hRR hz hn
  go_enter Try.func72, Try.ntmps72
  go_wp2_with fail
  refine HF.out.mono ?_
  rintro e w1 ⟨rfl, hb⟩
  have h1 := HH.out.1.below hb
  have c3 : w1.cell? ⟨H, 3, none⟩ = some (.slice (some ⟨g, 0, none⟩) ps.length cap) := (cell_of_heap h1.blk).trans rfl
  have hHl : H < w1.heap.size := heap_lt h1.blk
  have hran := run_range h1.rB h1.rl hi
  have hrl := h1.rl _ (List.getElem_mem hi)
  obtain ⟨C, hC⟩ : ∃ C, C = (runCells ps[i]).toArray := ⟨_, rfl⟩
  have HCR : Hid (CellsR C ps[i] ∧ w1.rangeAt g (i * 19) C.toList) := ⟨⟨hC, hrl⟩, CellsR.range ⟨hC, hrl⟩ hran⟩
  have k1 : C[1]? = some (.int .i64 (d : Nat)) := by rw [hC, ← HH.out.2.1]; rfl
  have k4 : C[4]? = some (.int .i64 ps[i].num) := by rw [hC]; rfl
  have HAS : Hid (∀ W, W = (w1.alloc (.cells C 187)).drew → Calls Try.prog 106 #[.pointer (some ⟨H, 4 + d, none⟩), .int .i64 id, .int .i64 num] W fun e w' => e = .returned (.bool false) ∧ Below w.heap.size w w' ∧ w'.heap[w1.heap.size]? = some (.cells C 187 (0, 0))) := fun W hW => by
    have hb2 : Below w1.heap.size w1 W := by rw [hW]; exact ((Below.refl _ _).alloc (Nat.le_refl _) _).drew
    refine (q_has H (4 + d) _ _ (qv d) (qs d) id num W ((h1.below hb2).que hd)).mono ?_
    rintro e w' ⟨rfl, hb3⟩
    rw [HH.out.2.2]
    refine ⟨rfl, (hb.trans (hb2.mono hb.size)).trans (hb3.mono (Nat.le_trans hb.size hb2.size)), ?_⟩
    have hW1 : W.heap[w1.heap.size]? = some (.cells C 187 (0, 0)) := by rw [hW]; exact heap_alloc_new _ _
    exact (hb3.block _ (heap_lt hW1)).trans hW1
  have k18 : C[18]? = some (.int .i64 ps[i].tow) := by rw [hC, List.getElem?_toArray]; exact runCells_to hrl
  clear hb h1 hran hrl hC HF
  go_upto_region 7 with (first | (refine wpList_load_mid rfl 187 (.tmp 24) rfl g (i * 19) (by rfl) C.toList _ HCR.out.2 Try.underlying187 rfl HCR.out.1.infoL ?_) | (refine wpList_store_new w1 rfl 187 (.tmp 8) (.tmp 25) rfl zeroRun C (by rfl) (by rfl) HCR.out.1.info HCR.out.1.zero HCR.out.1.one ?_))
  go_cut [44] (fun r wx => r = .bool false ∧ Hid (Below w.heap.size w wx ∧ wx.heap[w1.heap.size]? = some (.cells C 187 (0, 0))))
  case first =>
    go_region_with (go_at_call 106; refine (HAS.out _ rfl).mono ?_; rintro e w2 ⟨rfl, ho⟩)
    all_goals
      go_wp2_with fail
      go_meet
      case rel => exact ⟨rfl, ho⟩
  case rest =>
    obtain ⟨rfl, HX⟩ := hcut
    have h1 := HH.out.1.below HX.out.1
    have d3 : wc.cell? ⟨H, 3, none⟩ = some (.slice (some ⟨g, 0, none⟩) ps.length cap) := (cell_of_heap h1.blk).trans rfl
    obtain ⟨_, _, _, _, _, _, _, _, _, _, _, _, _, _, _, _, ⟨e17, _⟩⟩ := run_get h1.rB h1.rl hi
    obtain ⟨_, cg, hcg⟩ := ownsRow_lies h1.rB (k := g) rfl
    have z17 : wc.frozen? ⟨g, i * 19 + 17, none⟩ = false := free_of_heap hcg
    have d18 : wc.cell? ⟨w1.heap.size, 18, none⟩ = some (.int .i64 ps[i].tow) := (cell_of_heap HX.out.2).trans k18
    have HSE : Hid (HAt ((wc.setCell ⟨g, i * 19 + 17, none⟩ (.int .i64 ps[i].tow)).drew) H code rec now last (.slice (some ⟨g, 0, none⟩) ps.length cap) qv qs (ps.set i { ps[i] with els := ps[i].tow }) ∧ Fr (ownH H (.slice (some ⟨g, 0, none⟩) ps.length cap) qv) w ((wc.setCell ⟨g, i * 19 + 17, none⟩ (.int .i64 ps[i].tow)).drew)) := by
      refine ⟨(h1.setEls hi ps[i].tow).below (Below.refl _ _).drew, ?_⟩
      have f0 : Fr (ownH H (.slice (some ⟨g, 0, none⟩) ps.length cap) qv) w wc := (Fr.of_below HX.out.1).mono fun k hk hs => by omega
      exact (f0.setCell ⟨g, i * 19 + 17, none⟩ (.inl (.inr (.inr rfl))) _).drew
    have HP2 : Hid (Calls Try.prog 100 #[.pointer (some ⟨H, 0, none⟩), .int .i64 (i : Nat)] ((wc.setCell ⟨g, i * 19 + 17, none⟩ (.int .i64 ps[i].tow)).drew) fun e w' => e = .returned (.tuple #[]) ∧ ProcOut w w' H code rec now last (.slice (some ⟨g, 0, none⟩) ps.length cap) qv (updQ qs d RR.1) (afterI ps i RR.2.1 RR.2.2)) := HP.out _ HSE.out.1 HSE.out.2
    have hii : (i : Int) < (ps.length : Int) := by omega
    generalize ps[i] = p at *
    clear h1 hcg HP HSE HX HAS HCR k1 k4 k18 c3 hHl hzb hnb hne
    go_wp2_with fail
    go_region
    all_goals
      go_wp2_with fail
      refine HP2.out.mono ?_
      rintro e w3 ⟨rfl, ho⟩
      have HO : Hid (ProcOut w w3 H code rec now last (.slice (some ⟨g, 0, none⟩) ps.length cap) qv (updQ qs d RR.1) (afterI ps i RR.2.1 RR.2.2)) := ho
      clear ho HP2
      go_wp2_with fail
      go_ret
      exact ⟨rfl, HO.out⟩
end Go.Proofs.Ytmmmnghiegajmaa
