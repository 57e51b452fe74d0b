import Derived.Test.YtmmmnghiegajmabGreatM08
import Derived.Test.YtmmmnghiegajmabGreatM18
import Derived.Deep.RegionWith
import Derived.Deep.DeepCutAuto
import Derived.Test.YtmmmnghiegajmabGreatM19
import Derived.Deep.MidRow
import Derived.Deep.WholeRow
/- The program's runs in memory, and the queue of a device: every instruction, till a run stops or ends; its list of runs. -/
namespace Go.Proofs.YtmmmnghiegajmabGreat
open Go.RowKit Go.Proofs.Herald
/-- A queue in memory: its list stands in a cell of a block that is no message's. -/
structure QAt (w : World) (H o : Nat) (cs : Array Value) (T : TypeId) (v : Value) (q : List Msg) : Prop where
  blk : w.heap[H]? = some (.cells cs T (0, 0))
  cel : cs[o]? = some v
  ty : T ≠ 29
  own : w.ownsRow 0 29 4 v q.length (msgsCells q)
  len : q.length ≤ 4
theorem QAt.below {w w' : World} {H o : Nat} {cs : Array Value} {T : TypeId} {v : Value} {q : List Msg} (h : QAt w H o cs T v q) (hb : Below w.heap.size w w') : QAt w' H o cs T v q :=
  ⟨(hb.block H (heap_lt h.blk)).trans h.blk, h.cel, h.ty, own_keep h.own fun b hb' => by obtain ⟨c, hc⟩ := own_block h.own hb'; exact hb.block b (heap_lt hc), h.len⟩
set_option maxRecDepth 20000 in
set_option maxHeartbeats 4000000 in
theorem q_has (H o : Nat) (cs : Array Value) (T : TypeId) (v : Value) (q : List Msg) (id num : Int) (w : World) (h : QAt w H o cs T v q) :
    Calls Tryz.prog 53 #[.pointer (some ⟨H, o, none⟩), .int .i64 id, .int .i64 num] w fun e w' => e = .returned (.bool (hasQ q id num)) ∧ Below w.heap.size w w' := by
  obtain ⟨a, cap, hv⟩ := ownsRow_slice h.own
  subst hv
  have cq : w.cell? ⟨H, o, none⟩ = some (.slice a q.length cap) := (cell_of_heap h.blk).trans h.cel
  have hl := h.len
  have HO : Hid (w.ownsRow 0 29 4 (.slice a q.length cap) q.length (msgsCells q)) := h.own
  have HLT : Hid (H < w.heap.size) := heap_lt h.blk
  clear h
  go_enter Tryz.func53, Tryz.ntmps53
  go_wp2_with fail
  go_loopw [14] (fun i wr => ∃ k : Nat, k ≤ q.length ∧ i = .int .i64 k ∧ Hid (Below w.heap.size w wr) ∧ Hid ((q.take k).any (fun m => m.run == id && m.num == num) = false)) (fun i _ => q.length - (intOf i).toNat)
  case atStart => exact ⟨0, Nat.zero_le _, rfl, Below.refl _ _, by show _ = _; simp⟩
  case round =>
    obtain ⟨k, hk, rfl, HB, HT⟩ := hrel
    by_cases hlt : k < q.length
    · obtain ⟨g, cap', hv, _, hgl⟩ := HO.out.form (by omega)
      simp at hv
      obtain ⟨rfl, rfl⟩ := hv
      obtain ⟨e0, e1, e2, e3⟩ := msg_get HO.out hlt
      rw [← HB.out.cell (p := ⟨g, k * 4, none⟩) hgl] at e0
      rw [← HB.out.cell (p := ⟨g, k * 4 + 1, none⟩) hgl] at e1
      rw [← HB.out.cell (p := ⟨g, k * 4 + 2, none⟩) hgl] at e2
      rw [← HB.out.cell (p := ⟨g, k * 4 + 3, none⟩) hgl] at e3
      have HYES : Hid (q[k].run = id → q[k].num = num → hasQ q id num = true) := fun h1 h2 => by
        unfold hasQ
        rw [List.any_eq_true]
        exact ⟨q[k], List.getElem_mem hlt, by simp [h1, h2]⟩
      have HNO : Hid (¬ (q[k].run = id ∧ q[k].num = num) → (q.take (k + 1)).any (fun m => m.run == id && m.num == num) = false) := fun h1 => by
        rw [List.take_succ_eq_append_getElem hlt, List.any_append, HT.out]
        simp
        exact fun h2 h3 => h1 ⟨h2, h3⟩
      clear hgl
      generalize q[k] = m at *
      by_cases hr : m.run = id
      · have b1 : (m.run == id) = true := by simpa using hr
        by_cases hn : m.num = num
        · have b2 : (m.num == num) = true := by simpa using hn
          have HY : Hid (_ = _) := HYES.out hr hn
          clear hr hn HYES HNO
          go_wp2_with fail
          go_ret
          exact ⟨ret_bool HY.out.symm, HB.out.alloc HB.out.size _⟩
        · have b2 : (m.num == num) = false := by simpa using hn
          have HN : Hid (_ = _) := HNO.out (fun h => hn h.2)
          clear hr hn HYES HNO
          go_wp2_with fail
          go_roundw
          case rel => exact ⟨k + 1, by omega, by go_num, HB.out.alloc HB.out.size _, HN⟩
          case measure => simp [intOf]; omega
      · have b1 : (m.run == id) = false := by simpa using hr
        have HN : Hid (_ = _) := HNO.out (fun h => hr h.1)
        clear hr HYES HNO
        go_wp2_with fail
        go_roundw
        case rel => exact ⟨k + 1, by omega, by go_num, HB.out.alloc HB.out.size _, HN⟩
        case measure => simp [intOf]; omega
    · have HE : Hid (q.take k = q) := List.take_of_length_le (by omega)
      go_wp2_with fail
      go_ret
      exact ⟨ret_bool (by unfold hasQ; have h := HT.out; rw [HE.out] at h; exact h.symm), HB.out⟩
/-- A queue is laid anew. -/
structure QNew (w w' : World) (H o : Nat) (cs : Array Value) (T : TypeId) (q : List Msg) (v' : Value) : Prop where
  blk : w'.heap[H]? = some (.cells (cs.setIfInBounds o v') T (0, 0))
  own : w'.ownsRow w.heap.size 29 4 v' q.length (msgsCells q)
  fr : Fr (fun k => k = H) w w'
set_option maxRecDepth 20000 in
set_option maxHeartbeats 4000000 in
theorem q_remove (H o : Nat) (cs : Array Value) (T : TypeId) (v : Value) (q : List Msg) (id num : Int) (w : World) (h : QAt w H o cs T v q) (hnum : ¬ num = 0) :
    Calls Tryz.prog 56 #[.pointer (some ⟨H, o, none⟩), .int .i64 id, .int .i64 num] w fun e w' => e = .returned (.tuple #[]) ∧ ∃ v', QNew w w' H o cs T (takeQ q id num) v' := by
  obtain ⟨a, cap, hv⟩ := ownsRow_slice h.own
  subst hv
  have cq : w.cell? ⟨H, o, none⟩ = some (.slice a q.length cap) := (cell_of_heap h.blk).trans h.cel
  have hl := h.len
  have HO : Hid (w.ownsRow 0 29 4 (.slice a q.length cap) q.length (msgsCells q)) := h.own
  have HH : Hid (QAt w H o cs T (.slice a q.length cap) q) := h
  clear h
  go_enter Tryz.func56, Tryz.ntmps56
  go_wp2_with fail
  go_loopw [6, 14] (fun v i wr => ∃ k : Nat, k ≤ q.length ∧ i = .int .i64 k ∧ Hid (wr.ownsRow w.heap.size 29 4 v ((q.take k).filter (keepsM id num)).length (msgsCells ((q.take k).filter (keepsM id num)))) ∧ Hid (Below w.heap.size w wr)) (fun _ i _ => q.length - (intOf i).toNat)
  case atStart => exact ⟨0, Nat.zero_le _, rfl, World.ownsRow_nil _ _ _ _, Below.refl _ _⟩
  case round =>
    obtain ⟨k, hk, rfl, HV, HB⟩ := hrel
    obtain ⟨F, hF⟩ : ∃ F, F = (q.take k).filter (keepsM id num) := ⟨_, rfl⟩
    rw [← hF] at HV
    have hFl : F.length ≤ 4 := by rw [hF]; have := List.length_filter_le (keepsM id num) (q.take k); simp at this; omega
    by_cases hlt : k < q.length
    · have HKEEP : Hid (keepsM id num q[k] = true → (q.take (k + 1)).filter (keepsM id num) = F ++ [q[k]]) := fun h => by
        rw [List.take_succ_eq_append_getElem hlt, List.filter_append, ← hF]; simp [h]
      have HDROP : Hid (keepsM id num q[k] = false → (q.take (k + 1)).filter (keepsM id num) = F) := fun h => by
        rw [List.take_succ_eq_append_getElem hlt, List.filter_append, ← hF]; simp [h]
      obtain ⟨g, cap', hv, _, hgl⟩ := HO.out.form (by omega)
      simp at hv
      obtain ⟨rfl, rfl⟩ := hv
      obtain ⟨e0, e1, e2, e3⟩ := msg_get HO.out hlt
      rw [← HB.out.cell (p := ⟨g, k * 4, none⟩) hgl] at e0
      rw [← HB.out.cell (p := ⟨g, k * 4 + 1, none⟩) hgl] at e1
      rw [← HB.out.cell (p := ⟨g, k * 4 + 2, none⟩) hgl] at e2
      rw [← HB.out.cell (p := ⟨g, k * 4 + 3, none⟩) hgl] at e3
      clear hF hgl
      generalize q[k] = m at *
      by_cases hkeep : keepsM id num m = true
      · have HE : Hid ((q.take (k + 1)).filter (keepsM id num) = F ++ [m]) := HKEEP.out hkeep
        by_cases hr : m.run = id
        · have b1 : (m.run != id) = false := by simpa using hr
          have b2 : (m.num != num) = true := by unfold keepsM at hkeep; simp [hr] at hkeep; simpa using hkeep.2
          clear hr hkeep HKEEP HDROP
          go_wp2_with (at_builtin; refine wpList_append_keep _ rfl (.tmp 28) (.tmp 30) 47 rfl 29 _ 4 32 Tryz.underlying47 Tryz.infoMsg rfl (by decide) (by decide) u6 F.length 1 (msgsCells F) (wr.heap.size + 1) [.int .i64 m.dev, .int .i64 m.run, .int .i64 m.num, .int .i64 m.key] (by rfl) (by exact ((own0 HV.out).alloc _).alloc _) (by exact heap_alloc2 _ _ _) (by rfl) rfl (by simp [Value.oneCell']) (by decide) (by omega) ?_)
          intro v2 w2 hown2 ha2
          have hab := appended_below (w0 := w) (B := w.heap.size) ((HB.out.alloc HB.out.size _).alloc (by have := HB.out.size; simp; omega) _) (by have := HB.out.size; simp; omega) ((HV.out.alloc _).alloc _) hown2 ha2
          replace hown2 := hab.2
          have HV2 : Hid (w2.ownsRow w.heap.size 29 4 v2 ((q.take (k + 1)).filter (keepsM id num)).length (msgsCells ((q.take (k + 1)).filter (keepsM id num)))) := by
            rw [HE.out, msgsCells_snoc, List.length_append]; exact hown2
          have HB2 : Hid (Below w.heap.size w w2) := hab.1
          clear hown2 ha2 hab
          go_wp2_with fail
          go_roundw
          case rel => exact ⟨k + 1, by omega, by go_num, HV2, HB2⟩
          case measure => simp [intOf]; omega
        · have b1 : (m.run != id) = true := by simpa using hr
          clear hr hkeep HKEEP HDROP
          go_wp2_with (at_builtin; refine wpList_append_keep _ rfl (.tmp 28) (.tmp 30) 47 rfl 29 _ 4 32 Tryz.underlying47 Tryz.infoMsg rfl (by decide) (by decide) u6 F.length 1 (msgsCells F) (wr.heap.size + 1) [.int .i64 m.dev, .int .i64 m.run, .int .i64 m.num, .int .i64 m.key] (by rfl) (by exact ((own0 HV.out).alloc _).alloc _) (by exact heap_alloc2 _ _ _) (by rfl) rfl (by simp [Value.oneCell']) (by decide) (by omega) ?_)
          intro v2 w2 hown2 ha2
          have hab := appended_below (w0 := w) (B := w.heap.size) ((HB.out.alloc HB.out.size _).alloc (by have := HB.out.size; simp; omega) _) (by have := HB.out.size; simp; omega) ((HV.out.alloc _).alloc _) hown2 ha2
          replace hown2 := hab.2
          have HV2 : Hid (w2.ownsRow w.heap.size 29 4 v2 ((q.take (k + 1)).filter (keepsM id num)).length (msgsCells ((q.take (k + 1)).filter (keepsM id num)))) := by
            rw [HE.out, msgsCells_snoc, List.length_append]; exact hown2
          have HB2 : Hid (Below w.heap.size w w2) := hab.1
          clear hown2 ha2 hab
          go_wp2_with fail
          go_roundw
          case rel => exact ⟨k + 1, by omega, by go_num, HV2, HB2⟩
          case measure => simp [intOf]; omega
      · have hkeep : keepsM id num m = false := by simpa using hkeep
        have HE : Hid ((q.take (k + 1)).filter (keepsM id num) = F) := HDROP.out hkeep
        have hb : m.run = id ∧ m.num = num := by
          unfold keepsM at hkeep
          simp [hnum] at hkeep
          exact hkeep
        have b1 : (m.run != id) = false := by simpa using hb.1
        have b2 : (m.num != num) = false := by simpa using hb.2
        clear hb hkeep HKEEP HDROP
        go_wp2_with fail
        go_roundw
        case rel => exact ⟨k + 1, by omega, by go_num, by rw [HE.out]; exact HV.out.alloc _, HB.out.alloc HB.out.size _⟩
        case measure => simp [intOf]; omega
    · have HE : Hid (F = takeQ q id num) := by show _ = _; rw [hF, List.take_of_length_le (by omega)]; rfl
      have HBK : Hid (QAt wr H o cs T (.slice a q.length cap) q) := HH.out.below HB.out
      have c1 : wr.cell? ⟨H, o, none⟩ = some (.slice a q.length cap) := (cell_of_heap HBK.out.blk).trans HBK.out.cel
      have z : wr.frozen? ⟨H, o, none⟩ = false := free_of_heap HBK.out.blk
      clear hF
      obtain ⟨av, cv2, hvv⟩ := ownsRow_slice HV.out
      subst hvv
      go_wp2_with fail
      go_end0
      refine ⟨rfl, _, heap_setCell_self _ HBK.out.blk, ?_, ?_⟩
      · rw [← HE.out]
        refine own_base (own_keep (own0 HV.out) fun b hb => ?_) fun b hb => (ownsRow_lies HV.out hb).1
        obtain ⟨c, hc⟩ := own_block (own0 HV.out) hb
        exact Below.heap_setCell _ _ _ _ (ne_of_type hc HBK.out.blk HBK.out.ty.symm)
      · exact ((Fr.of_below HB.out).mono (T := fun k => k = H) fun j hj hs => by omega).setCell ⟨H, o, none⟩ (Or.inl rfl) _
set_option maxRecDepth 20000 in
set_option maxHeartbeats 4000000 in
theorem q_removeAll (H o : Nat) (cs : Array Value) (T : TypeId) (v : Value) (q : List Msg) (id : Int) (w : World) (h : QAt w H o cs T v q) :
    Calls Tryz.prog 54 #[.pointer (some ⟨H, o, none⟩), .int .i64 id] w fun e w' => e = .returned (.tuple #[]) ∧ ∃ v', QNew w w' H o cs T (takeQ q id 0) v' := by
  obtain ⟨a, cap, hv⟩ := ownsRow_slice h.own
  subst hv
  have cq : w.cell? ⟨H, o, none⟩ = some (.slice a q.length cap) := (cell_of_heap h.blk).trans h.cel
  have hl := h.len
  have HO : Hid (w.ownsRow 0 29 4 (.slice a q.length cap) q.length (msgsCells q)) := h.own
  have HH : Hid (QAt w H o cs T (.slice a q.length cap) q) := h
  clear h
  go_enter Tryz.func54, Tryz.ntmps54
  go_wp2_with fail
  go_loopw [4, 12] (fun v i wr => ∃ k : Nat, k ≤ q.length ∧ i = .int .i64 k ∧ Hid (wr.ownsRow w.heap.size 29 4 v ((q.take k).filter (keepsM id 0)).length (msgsCells ((q.take k).filter (keepsM id 0)))) ∧ Hid (Below w.heap.size w wr)) (fun _ i _ => q.length - (intOf i).toNat)
  case atStart => exact ⟨0, Nat.zero_le _, rfl, World.ownsRow_nil _ _ _ _, Below.refl _ _⟩
  case round =>
    obtain ⟨k, hk, rfl, HV, HB⟩ := hrel
    obtain ⟨F, hF⟩ : ∃ F, F = (q.take k).filter (keepsM id 0) := ⟨_, rfl⟩
    rw [← hF] at HV
    have hFl : F.length ≤ 4 := by rw [hF]; have := List.length_filter_le (keepsM id 0) (q.take k); simp at this; omega
    by_cases hlt : k < q.length
    · have HKEEP : Hid (keepsM id 0 q[k] = true → (q.take (k + 1)).filter (keepsM id 0) = F ++ [q[k]]) := fun h => by
        rw [List.take_succ_eq_append_getElem hlt, List.filter_append, ← hF]; simp [h]
      have HDROP : Hid (keepsM id 0 q[k] = false → (q.take (k + 1)).filter (keepsM id 0) = F) := fun h => by
        rw [List.take_succ_eq_append_getElem hlt, List.filter_append, ← hF]; simp [h]
      obtain ⟨g, cap', hv, _, hgl⟩ := HO.out.form (by omega)
      simp at hv
      obtain ⟨rfl, rfl⟩ := hv
      obtain ⟨e0, e1, e2, e3⟩ := msg_get HO.out hlt
      rw [← HB.out.cell (p := ⟨g, k * 4, none⟩) hgl] at e0
      rw [← HB.out.cell (p := ⟨g, k * 4 + 1, none⟩) hgl] at e1
      rw [← HB.out.cell (p := ⟨g, k * 4 + 2, none⟩) hgl] at e2
      rw [← HB.out.cell (p := ⟨g, k * 4 + 3, none⟩) hgl] at e3
      clear hF hgl
      generalize q[k] = m at *
      by_cases hr : m.run = id
      · have b1 : (m.run != id) = false := by simpa using hr
        have HE : Hid ((q.take (k + 1)).filter (keepsM id 0) = F) := HDROP.out (keepsM_all hr rfl)
        clear hr HKEEP HDROP
        go_wp2_with fail
        go_roundw
        case rel => exact ⟨k + 1, by omega, by go_num, by rw [HE.out]; exact HV.out.alloc _, HB.out.alloc HB.out.size _⟩
        case measure => simp [intOf]; omega
      · have b1 : (m.run != id) = true := by simpa using hr
        have HE : Hid ((q.take (k + 1)).filter (keepsM id 0) = F ++ [m]) := HKEEP.out (keepsM_run hr)
        clear hr HKEEP HDROP
        go_wp2_with (at_builtin; refine wpList_append_keep _ rfl (.tmp 20) (.tmp 22) 47 rfl 29 _ 4 32 Tryz.underlying47 Tryz.infoMsg rfl (by decide) (by decide) u4 F.length 1 (msgsCells F) (wr.heap.size + 1) [.int .i64 m.dev, .int .i64 m.run, .int .i64 m.num, .int .i64 m.key] (by rfl) (by exact ((own0 HV.out).alloc _).alloc _) (by exact heap_alloc2 _ _ _) (by rfl) rfl (by simp [Value.oneCell']) (by decide) (by omega) ?_)
        intro v2 w2 hown2 ha2
        have hab := appended_below (w0 := w) (B := w.heap.size) ((HB.out.alloc HB.out.size _).alloc (by have := HB.out.size; simp; omega) _) (by have := HB.out.size; simp; omega) ((HV.out.alloc _).alloc _) hown2 ha2
        replace hown2 := hab.2
        have HV2 : Hid (w2.ownsRow w.heap.size 29 4 v2 ((q.take (k + 1)).filter (keepsM id 0)).length (msgsCells ((q.take (k + 1)).filter (keepsM id 0)))) := by
          rw [HE.out, msgsCells_snoc, List.length_append]; exact hown2
        have HB2 : Hid (Below w.heap.size w w2) := hab.1
        clear hown2 ha2 hab
        go_wp2_with fail
        go_roundw
        case rel => exact ⟨k + 1, by omega, by go_num, HV2, HB2⟩
        case measure => simp [intOf]; omega
    · have HE : Hid (F = takeQ q id 0) := by show _ = _; rw [hF, List.take_of_length_le (by omega)]; rfl
      have HBK : Hid (QAt wr H o cs T (.slice a q.length cap) q) := HH.out.below HB.out
      have c1 : wr.cell? ⟨H, o, none⟩ = some (.slice a q.length cap) := (cell_of_heap HBK.out.blk).trans HBK.out.cel
      have z : wr.frozen? ⟨H, o, none⟩ = false := free_of_heap HBK.out.blk
      clear hF
      obtain ⟨av, cv2, hvv⟩ := ownsRow_slice HV.out
      subst hvv
      go_wp2_with fail
      go_end0
      refine ⟨rfl, _, heap_setCell_self _ HBK.out.blk, ?_, ?_⟩
      · rw [← HE.out]
        refine own_base (own_keep (own0 HV.out) fun b hb => ?_) fun b hb => (ownsRow_lies HV.out hb).1
        obtain ⟨c, hc⟩ := own_block (own0 HV.out) hb
        exact Below.heap_setCell _ _ _ _ (ne_of_type hc HBK.out.blk HBK.out.ty.symm)
      · exact ((Fr.of_below HB.out).mono (T := fun k => k = H) fun j hj hs => by omega).setCell ⟨H, o, none⟩ (Or.inl rfl) _
open Go.RowKit Go.Proofs.Herald
/-- A run's cells. -/
def runCells (p : Pr) : List Value := .int .i64 p.id :: .int .i64 p.dev :: .int .i64 p.sent :: .int .i64 p.til :: .int .i64 p.num :: ((p.regs.map fun z => Value.int .i64 z) ++ [.int .i64 p.els, .int .i64 p.tow])
theorem runCells_length {p : Pr} (h : p.regs.length = 12) : (runCells p).length = 19 := by simp [runCells, h]
theorem runCells_els {p : Pr} (h : p.regs.length = 12) : (runCells p)[17]? = some (.int .i64 p.els) := by
  unfold runCells
  simp [h]
theorem runCells_to {p : Pr} (h : p.regs.length = 12) : (runCells p)[18]? = some (.int .i64 p.tow) := by
  unfold runCells
  simp [h]
theorem runCells_reg {p : Pr} (h : p.regs.length = 12) {j : Nat} (hj : j < 12) : (runCells p)[5 + j]? = some (.int .i64 (regP p (j : Int))) := by
  unfold runCells regP
  have e : 5 + j = j + 1 + 1 + 1 + 1 + 1 := by omega
  rw [e]
  simp [List.getElem?_append_left, h, hj]
theorem runCells_setEls {p : Pr} (h : p.regs.length = 12) (z : Int) : (runCells p).set 17 (.int .i64 z) = runCells { p with els := z } := by
  unfold runCells
  simp [List.set_append_right, h]
theorem runCells_setTo {p : Pr} (h : p.regs.length = 12) (z : Int) : (runCells p).set 18 (.int .i64 z) = runCells { p with tow := z } := by
  unfold runCells
  simp [List.set_append_right, h]
theorem runCells_setReg {p : Pr} (h : p.regs.length = 12) {j : Nat} (hj : j < 12) (z : Int) : (runCells p).set (5 + j) (.int .i64 z) = runCells (setP p (j : Int) z) := by
  unfold runCells setP
  have e : 5 + j = j + 1 + 1 + 1 + 1 + 1 := by omega
  rw [e]
  simp [List.set_append_left, h, hj, List.map_set]
/-- A run and the queue of its device, in memory. -/
structure MAt (w : World) (R H o : Nat) (cs : Array Value) (T : TypeId) (v : Value) (q : List Msg) (p : Pr) : Prop where
  run : w.heap[R]? = some (.cells (runCells p).toArray 102 (0, 0))
  rl : p.regs.length = 12
  que : QAt w H o cs T v q
  ty : T ≠ 102
theorem MAt.below {w w' : World} {R H o : Nat} {cs : Array Value} {T : TypeId} {v : Value} {q : List Msg} {p : Pr} (h : MAt w R H o cs T v q p) (hb : Below w.heap.size w w') : MAt w' R H o cs T v q p :=
  ⟨(hb.block R (heap_lt h.run)).trans h.run, h.rl, h.que.below hb, h.ty⟩
/-- What a run and its queue are behind some of its doing. -/
structure MOut (w w' : World) (R H o : Nat) (cs : Array Value) (T : TypeId) (v : Value) (q : List Msg) (p : Pr) : Prop where
  ex : ∃ v', MAt w' R H o (cs.setIfInBounds o v') T v' q p ∧ ∀ b, v'.ownBlock = some b → v.ownBlock = some b ∨ w.heap.size ≤ b
  fr : Fr (fun k => k = R ∨ k = H ∨ v.ownBlock = some k) w w'
theorem set_self {cs : Array Value} {o : Nat} {v : Value} (h : cs[o]? = some v) : cs.setIfInBounds o v = cs := by
  apply Array.ext
  · simp
  · intro i h1 h2
    by_cases e : o = i
    · subst e
      rw [Array.getElem?_eq_getElem h2] at h
      simp at h
      simp [h]
    · rw [Array.getElem_setIfInBounds_ne _ e]
theorem MOut.of {w : World} {R H o : Nat} {cs : Array Value} {T : TypeId} {v : Value} {q : List Msg} {p : Pr} (h : MAt w R H o cs T v q p) : MOut w w R H o cs T v q p :=
  ⟨⟨v, by rw [set_self h.que.cel]; exact h, fun _ hb => .inl hb⟩, Fr.refl _ _⟩
theorem MOut.below {w w1 w2 : World} {R H o : Nat} {cs : Array Value} {T : TypeId} {v : Value} {q : List Msg} {p : Pr} (h : MOut w w1 R H o cs T v q p) (hb : Below w1.heap.size w1 w2) : MOut w w2 R H o cs T v q p := by
  obtain ⟨⟨v', h1, h2⟩, h3⟩ := h
  exact ⟨⟨v', h1.below hb, h2⟩, h3.trans ((Fr.of_below hb).mono fun k hk hs => by omega)⟩
theorem MOut.trans {w w1 w2 : World} {R H o : Nat} {cs : Array Value} {T : TypeId} {v v1 : Value} {q : List Msg} {p : Pr} (hv : ∀ b, v1.ownBlock = some b → v.ownBlock = some b ∨ w.heap.size ≤ b) (hf : Fr (fun k => k = R ∨ k = H ∨ v.ownBlock = some k) w w1) (h : MOut w1 w2 R H o (cs.setIfInBounds o v1) T v1 q p) : MOut w w2 R H o cs T v q p := by
  obtain ⟨⟨v', h1, h2⟩, h3⟩ := h
  refine ⟨⟨v', by rw [Array.setIfInBounds_setIfInBounds] at h1; exact h1, fun b hb => ?_⟩, ?_⟩
  · rcases h2 b hb with h | h
    · exact hv b h
    · exact .inr (Nat.le_trans hf.size h)
  · have f1 : Fr (fun k => (k = R ∨ k = H ∨ v.ownBlock = some k) ∨ w.heap.size ≤ k) w w1 := hf.mono fun k _ hk => .inl hk
    have f2 : Fr (fun k => (k = R ∨ k = H ∨ v.ownBlock = some k) ∨ w.heap.size ≤ k) w1 w2 := h3.mono fun k _ hk => by
      rcases hk with h | h | h
      · exact .inl (.inl h)
      · exact .inl (.inr (.inl h))
      · rcases hv k h with h | h
        · exact .inl (.inr (.inr h))
        · exact .inr h
    exact (f1.trans f2).mono fun k hk hs => by
      rcases hs with h | h
      · exact h
      · omega
/-- A cell of the run is written. -/
theorem MAt.setR {w : World} {R H o : Nat} {cs : Array Value} {T : TypeId} {v : Value} {q : List Msg} {p p' : Pr} (h : MAt w R H o cs T v q p) (j : Nat) (u : Value) (hc : (runCells p).set j u = runCells p') (hl : p'.regs.length = 12) : MAt (w.setCell ⟨R, j, none⟩ u) R H o cs T v q p' := by
  refine ⟨?_, hl, ⟨?_, h.que.cel, h.que.ty, own_keep h.que.own fun b hb => ?_, h.que.len⟩, h.ty⟩
  · rw [heap_setCell_self _ h.run, List.setIfInBounds_toArray, hc]
  · rw [Below.heap_setCell _ _ _ _ (ne_of_type h.que.blk h.run h.ty)]; exact h.que.blk
  · obtain ⟨c, hc⟩ := own_block h.que.own hb
    exact Below.heap_setCell _ _ _ _ (ne_of_type hc h.run (by decide))
theorem MOut.setR {w w1 : World} {R H o : Nat} {cs : Array Value} {T : TypeId} {v : Value} {q : List Msg} {p p' : Pr} (h : MOut w w1 R H o cs T v q p) (j : Nat) (u : Value) (hc : (runCells p).set j u = runCells p') (hl : p'.regs.length = 12) : MOut w (w1.setCell ⟨R, j, none⟩ u) R H o cs T v q p' := by
  obtain ⟨⟨v', h1, h2⟩, h3⟩ := h
  exact ⟨⟨v', h1.setR j u hc hl, h2⟩, h3.setCell ⟨R, j, none⟩ (.inl (.inl rfl)) _⟩
set_option maxHeartbeats 1000000 in
theorem m_stop (R H o : Nat) (cs : Array Value) (T : TypeId) (v : Value) (q : List Msg) (p : Pr) (til num : Int) (w : World) (h : MAt w R H o cs T v q p) :
    Calls Tryz.prog 100 #[.pointer (some ⟨R, 0, none⟩), .int .i64 til, .int .i64 num] w fun e w' => e = .returned (.int .i64 1) ∧ MAt w' R H o cs T v q { p with til := til, num := num } ∧ Fr (fun k => k = R) w w' := by
  have p3 : w.cell? ⟨R, 3, none⟩ = some (.int .i64 p.til) := (cell_of_heap h.run).trans rfl
  have p4 : w.cell? ⟨R, 4, none⟩ = some (.int .i64 p.num) := (cell_of_heap h.run).trans rfl
  have z3 : w.frozen? ⟨R, 3, none⟩ = false := free_of_heap h.run
  have z4 : w.frozen? ⟨R, 4, none⟩ = false := free_of_heap h.run
  have HH : Hid (MAt w R H o cs T v q p) := h
  clear h
  go_enter Tryz.func100, Tryz.ntmps100
  go_wp2_with fail
  go_ret
  refine ⟨rfl, ?_, ((Fr.refl (fun k => k = R) _).setCell ⟨R, 3, none⟩ (Or.inl rfl) _).setCell ⟨R, 4, none⟩ (Or.inl rfl) _⟩
  exact (HH.out.setR (p' := { p with til := til }) 3 _ rfl HH.out.rl).setR (p' := { p with til := til, num := num }) 4 _ rfl HH.out.rl
/-- A message is put, or finds no room. -/
structure PutOut (w w' : World) (H o : Nat) (cs : Array Value) (T : TypeId) (v : Value) (q : List Msg) : Prop where
  ex : ∃ v', QAt w' H o (cs.setIfInBounds o v') T v' q ∧ ∀ b, v'.ownBlock = some b → v.ownBlock = some b ∨ w.heap.size ≤ b
  fr : Fr (fun k => k = H ∨ v.ownBlock = some k) w w'
theorem putQ_at {q : List Msg} {m : Msg} {k : Nat} (hk : k < q.length) (h : ∀ x ∈ q.take k, ¬ matchM m x) (hm : matchM m q[k]) : putQ q m = some (q.set k m) := by
  unfold putQ; rw [putAt_at q m k hk h hm]
theorem putQ_full {q : List Msg} {m : Msg} (h : ∀ x ∈ q, ¬ matchM m x) (hl : 4 ≤ q.length) : putQ q m = none := by
  unfold putQ; rw [putAt_none q m h]; simp only [if_pos hl]
theorem putQ_new {q : List Msg} {m : Msg} (h : ∀ x ∈ q, ¬ matchM m x) (hl : ¬ 4 ≤ q.length) : putQ q m = some (q ++ [m]) := by
  unfold putQ; rw [putAt_none q m h]; simp only [if_neg hl]
open Go.RowKit Go.Proofs.Herald
set_option maxRecDepth 20000 in
set_option maxHeartbeats 8000000 in
theorem q_put (H o : Nat) (cs : Array Value) (T : TypeId) (v : Value) (q : List Msg) (m : Msg) (w : World) (h : QAt w H o cs T v q) :
    Calls Tryz.prog 107 #[.pointer (some ⟨H, o, none⟩), .agg #[.int .i64 m.dev, .int .i64 m.run, .int .i64 m.num, .int .i64 m.key]] w fun e w' => e = .returned (.bool (putQ q m).isSome) ∧ PutOut w w' H o cs T v ((putQ q m).getD q) := by
  obtain ⟨a, cap, hv⟩ := ownsRow_slice h.own
  have HV : Hid (v = .slice a q.length cap) := hv
  subst hv
  have hl := h.len
  have HH : Hid (QAt w H o cs T (.slice a q.length cap) q) := h
  have cq : w.cell? ⟨H, o, none⟩ = some (.slice a q.length cap) := (cell_of_heap h.blk).trans h.cel
  have hHw : H < w.heap.size := heap_lt h.blk
  clear h
  go_enter Tryz.func107, Tryz.ntmps107
  go_wp2_with fail
  clear cq
  go_loopw [12] (fun i wr => ∃ k : Nat, k ≤ q.length ∧ i = .int .i64 k ∧ Hid (∀ x ∈ q.take k, ¬ matchM m x) ∧ Hid (wr.heap[w.heap.size]? = some (.cells #[.int .i64 m.dev, .int .i64 m.run, .int .i64 m.num, .int .i64 m.key] 29 (0, 0)) ∧ Below w.heap.size w wr)) (fun i _ => q.length - (intOf i).toNat)
  case atStart => exact ⟨0, Nat.zero_le _, rfl, fun x hx => absurd hx (by simp), heap_alloc_new _ _, (Below.refl _ _).alloc (Nat.le_refl _) _⟩
  case round =>
    obtain ⟨k, hk, rfl, HT, HR⟩ := hrel
    have HC : Hid (QAt wr H o cs T (.slice a q.length cap) q) := HH.out.below HR.out.2
    have cq : wr.cell? ⟨H, o, none⟩ = some (.slice a q.length cap) := (cell_of_heap HC.out.blk).trans HC.out.cel
    have zq : wr.frozen? ⟨H, o, none⟩ = false := free_of_heap HC.out.blk
    obtain ⟨m0, m1, m2, m3⟩ := mark4 HR.out.1
    have hMl : w.heap.size < wr.heap.size := heap_lt HR.out.1
    have hHl : H < wr.heap.size := heap_lt HC.out.blk
    by_cases hlt : k < q.length
    · obtain ⟨g, cap', hv, _, hgl⟩ := HC.out.own.form (by omega)
      simp at hv
      obtain ⟨rfl, rfl⟩ := hv
      obtain ⟨e0, e1, e2, e3⟩ := msg_get HC.out.own hlt
      obtain ⟨_, curg, hcg⟩ := ownsRow_lies HC.out.own (k := g) rfl
      have y0 : wr.frozen? ⟨g, k * 4, none⟩ = false := free_of_heap hcg
      have y1 : wr.frozen? ⟨g, k * 4 + 1, none⟩ = false := free_of_heap hcg
      have y2 : wr.frozen? ⟨g, k * 4 + 2, none⟩ = false := free_of_heap hcg
      have y3 : wr.frozen? ⟨g, k * 4 + 3, none⟩ = false := free_of_heap hcg
      have hgw : g < w.heap.size := by
        obtain ⟨_, c0, hc0⟩ := ownsRow_lies HH.out.own (k := g) rfl
        exact heap_lt hc0
      by_cases hm : q[k].run = m.run ∧ q[k].key = m.key
      · have b1 : (q[k].run == m.run) = true := by simpa using hm.1
        have b2 : (q[k].key == m.key) = true := by simpa using hm.2
        have HSE : Hid (putQ q m = some (q.set k m)) := putQ_at hlt HT.out hm
        have HFR : Hid (∀ ob, PutOut w (((((wr.setCell ⟨g, k * 4, none⟩ (.int .i64 m.dev)).setCell ⟨g, k * 4 + 1, none⟩ (.int .i64 m.run)).setCell ⟨g, k * 4 + 2, none⟩ (.int .i64 m.num)).setCell ⟨g, k * 4 + 3, none⟩ (.int .i64 m.key)).alloc ob).drew H o cs T (.slice (some ⟨g, 0, none⟩) q.length cap) (q.set k m)) := fun ob => by
          have f0 : Fr (fun j => j = H ∨ (Value.slice (some ⟨g, 0, none⟩) q.length cap).ownBlock = some j) w wr := (Fr.of_below HR.out.2).mono fun j hj hs => by omega
          have hgS : g = H ∨ (Value.slice (some ⟨g, 0, none⟩) q.length cap).ownBlock = some g := .inr rfl
          refine ⟨⟨_, ⟨?_, ?_, HC.out.ty, ?_, by simp; exact HC.out.len⟩, fun b hb => .inl hb⟩, (((((f0.setCell ⟨g, k * 4, none⟩ (Or.inl hgS) _).setCell ⟨g, k * 4 + 1, none⟩ (Or.inl hgS) _).setCell ⟨g, k * 4 + 2, none⟩ (Or.inl hgS) _).setCell ⟨g, k * 4 + 3, none⟩ (Or.inl hgS) _).alloc _).drew⟩
          · have hne : H ≠ g := ne_of_type HC.out.blk hcg HC.out.ty
            have ed : ∀ W : World, W.drew.heap = W.heap := fun _ => rfl
            rw [set_self HC.out.cel, ed, Below.heap_alloc _ _ _ (by rw [size_setCell, size_setCell, size_setCell, size_setCell]; exact hHl), Below.heap_setCell _ _ _ _ hne, Below.heap_setCell _ _ _ _ hne, Below.heap_setCell _ _ _ _ hne, Below.heap_setCell _ _ _ _ hne]
            exact HC.out.blk
          · rw [set_self HC.out.cel]; exact HC.out.cel
          · have h1 := HC.out.own
            rw [msgsCells_split q k hlt] at h1
            have h2 := own_set4 (p := k * 4) h1 (by rw [msgsCells_length, List.length_take, Nat.min_eq_left (by omega)]) (.int .i64 m.dev) (.int .i64 m.run) (.int .i64 m.num) (.int .i64 m.key)
            rw [← msgsCells_set q k hlt m] at h2
            rw [List.length_set]
            exact h2.alloc _
        clear hm hcg
        generalize q[k] = x at *
        go_wp2_with fail
        go_region
        all_goals
          go_wp2_with fail
          go_ret
          rw [HSE.out]
          exact ⟨rfl, HFR.out _⟩
      · have HT2 : Hid (∀ x ∈ q.take (k + 1), ¬ matchM m x) := by
          intro x hx
          rw [List.take_succ_eq_append_getElem hlt, List.mem_append, List.mem_singleton] at hx
          rcases hx with hx | rfl
          · exact HT.out x hx
          · exact hm
        have HRA : Hid (∀ ob, (wr.alloc ob).heap[w.heap.size]? = some (.cells #[.int .i64 m.dev, .int .i64 m.run, .int .i64 m.num, .int .i64 m.key] 29 (0, 0)) ∧ Below w.heap.size w (wr.alloc ob)) := fun ob => ⟨by rw [Below.heap_alloc _ _ _ hMl]; exact HR.out.1, HR.out.2.alloc HR.out.2.size _⟩
        clear hcg
        by_cases hr : q[k].run = m.run
        · have b1 : (q[k].run == m.run) = true := by simpa using hr
          have b2 : (q[k].key == m.key) = false := by simpa using (fun h => hm ⟨hr, h⟩)
          clear hm hr
          generalize q[k] = x at *
          go_wp2_with fail
          go_roundw
          case rel => exact ⟨k + 1, by omega, by go_num, HT2, HRA.out _⟩
          case measure => simp [intOf]; omega
        · have b1 : (q[k].run == m.run) = false := by simpa using hr
          clear hm hr
          generalize q[k] = x at *
          go_wp2_with fail
          go_roundw
          case rel => exact ⟨k + 1, by omega, by go_num, HT2, HRA.out _⟩
          case measure => simp [intOf]; omega
    · have HALL : Hid (∀ x ∈ q, ¬ matchM m x) := by
        have h := HT.out
        rw [List.take_of_length_le (by omega)] at h
        exact h
      by_cases hfull : 4 ≤ q.length
      · have HSE : Hid (putQ q m = none) := putQ_full HALL.out hfull
        go_wp2_with fail
        go_ret
        rw [HSE.out]
        refine ⟨rfl, ⟨_, by rw [set_self HC.out.cel]; exact HC.out, fun b hb => .inl hb⟩, (Fr.of_below HR.out.2).mono fun j hj hs => by omega⟩
      · have HSE : Hid (putQ q m = some (q ++ [m])) := putQ_new HALL.out hfull
        have HNT : Hid ((Value.slice a q.length cap).ownBlock ≠ some H) := fun hh => by
          obtain ⟨c2, hc2⟩ := own_block HC.out.own hh
          exact ne_of_type HC.out.blk hc2 HC.out.ty rfl
        have HMN : Hid ((Value.slice a q.length cap).ownBlock ≠ some w.heap.size) := fun hh => by
          obtain ⟨c2, hc2⟩ := own_block HH.out.own hh
          have := heap_lt hc2
          omega
        go_upto_region 10 with fail
        go_region_law (refine step_push2 _ rfl (.tmp 47) (.tmp 49) 47 rfl 29 _ 4 32 Tryz.underlying47 Tryz.infoMsg rfl (by decide) (by decide) (.slice a q.length cap) q.length (msgsCells q) wr.heap.size [.int .i64 m.dev, .int .i64 m.run, .int .i64 m.num, .int .i64 m.key] (by rfl) (by exact HC.out.own.alloc _) (by exact heap_alloc_new _ _) (by rfl) rfl (by simp [Value.oneCell']) (by omega) ?_; intro g1 cap1 w1 hown1 hgrow hat hlt1; have hq1 : w1.cell? ⟨H, o, none⟩ = some (.slice a q.length cap) := (cell_of_heap (grown_block (OneMore.alloc _ _).drew hgrow HC.out.blk HNT.out)).trans HC.out.cel; have hf1 : w1.frozen? ⟨H, o, none⟩ = false := free_of_heap (grown_block (OneMore.alloc _ _).drew hgrow HC.out.blk HNT.out))
        all_goals
          go_wp2_with fail
          go_ret
          rw [HSE.out]
          have hB1 := grown_block (OneMore.alloc _ _).drew hgrow HC.out.blk HNT.out
          have f0 : Fr (fun j => j = H ∨ (Value.slice a q.length cap).ownBlock = some j) w wr := (Fr.of_below HR.out.2).mono fun j hj hs => by omega
          refine ⟨rfl, ⟨_, ⟨heap_setCell_self _ hB1, ?_, HC.out.ty, ?_, by show (q ++ [m]).length ≤ 4; simp; omega⟩, fun b hb => ?_⟩, ?_⟩
          · have hsz : o < cs.size := (Array.getElem?_eq_some_iff.mp HC.out.cel).1
            simp [hsz]
          · show World.ownsRow _ _ _ _ _ (q ++ [m]).length (msgsCells (q ++ [m]))
            rw [msgsCells_snoc, List.length_append]
            refine own_keep hown1 fun b hb => ?_
            obtain ⟨c, hc⟩ := own_block hown1 hb
            exact Below.heap_setCell _ _ _ _ (ne_of_type hc hB1 HC.out.ty.symm)
          · simp [Value.ownBlock] at hb
            subst hb
            rcases hat with h | h
            · exact .inl h
            · right; simp at h; omega
          · exact (f0.trans (Fr.of_push (OneMore.alloc _ _).drew hgrow fun k hk => .inr hk)).setCell ⟨H, o, none⟩ (.inl (.inl rfl)) _
open Go.RowKit Go.Proofs.Herald
/-- Behind what a run did the run itself is written on. -/
theorem MOut.more {w w1 : World} {R H o : Nat} {cs : Array Value} {T : TypeId} {v : Value} {q : List Msg} {p : Pr} (h : MOut w w1 R H o cs T v q p) :
    ∃ v', MAt w1 R H o (cs.setIfInBounds o v') T v' q p ∧ ∀ w2 p2, MAt w2 R H o (cs.setIfInBounds o v') T v' q p2 → Fr (fun k => k = R) w1 w2 → MOut w w2 R H o cs T v q p2 := by
  obtain ⟨⟨v', h1, h2⟩, h3⟩ := h
  exact ⟨v', h1, fun w2 p2 h4 h5 => ⟨⟨v', h4, h2⟩, h3.trans (h5.mono fun k _ hk => .inl hk)⟩⟩
theorem MOut.from {w w1 w2 : World} {R H o : Nat} {cs : Array Value} {T : TypeId} {v : Value} {q : List Msg} {p : Pr} (hc : cs[o]? = some v) (hf : Fr (fun k => k = R ∨ k = H ∨ v.ownBlock = some k) w w1) (h : MOut w1 w2 R H o cs T v q p) : MOut w w2 R H o cs T v q p := by
  refine MOut.trans (v1 := v) (fun b hb => .inl hb) hf ?_
  rw [set_self hc]
  exact h
/-- What is none of the run's, nor the queue's, stays. -/
theorem MOut.other {w w1 : World} {R H o : Nat} {cs : Array Value} {T : TypeId} {v : Value} {q : List Msg} {p : Pr} (h : MOut w w1 R H o cs T v q p) {k : Nat} (hk : k < w.heap.size) (h1 : k ≠ R) (h2 : k ≠ H) (h3 : v.ownBlock ≠ some k) : w1.heap[k]? = w.heap[k]? :=
  h.fr.block k hk (by rintro (h | h | h) <;> contradiction)
theorem sendP_some {q q' : List Msg} {p : Pr} {key : Int} (h : putQ q ⟨p.dev, p.id, p.sent + 1, key⟩ = some q') : sendP q p key = (q', { p with sent := p.sent + 1 }, p.sent + 1) := by unfold sendP; rw [h]
theorem sendP_none {q : List Msg} {p : Pr} {key : Int} (h : putQ q ⟨p.dev, p.id, p.sent + 1, key⟩ = none) : sendP q p key = (q, p, 0) := by unfold sendP; rw [h]
/-- The queue of a run and the run: what a put leaves. -/
theorem MAt.put {w w1 : World} {R H o : Nat} {cs : Array Value} {T : TypeId} {v : Value} {q q' : List Msg} {p : Pr} (h : MAt w R H o cs T v q p) (hp : PutOut w w1 H o cs T v q') : MOut w w1 R H o cs T v q' p := by
  obtain ⟨⟨v', h1, h2⟩, h3⟩ := hp
  refine ⟨⟨v', ⟨(h3.block R (heap_lt h.run) ?_).trans h.run, h.rl, h1, h.ty⟩, h2⟩, h3.mono fun k _ hk => .inr hk⟩
  rintro (e | e)
  · exact ne_of_type h.que.blk h.run h.ty e.symm
  · obtain ⟨c, hc⟩ := own_block h.que.own e
    exact ne_of_type hc h.run (by decide) rfl
set_option maxRecDepth 20000 in
set_option maxHeartbeats 4000000 in
theorem m_send (R H o : Nat) (cs : Array Value) (T : TypeId) (v : Value) (q : List Msg) (p : Pr) (key : Int) (w : World) (h : MAt w R H o cs T v q p) (hs0 : 0 ≤ p.sent) (hs1 : p.sent ≤ 1000000000000000000) :
    Calls Tryz.prog 99 #[.pointer (some ⟨R, 0, none⟩), .int .i64 key, .pointer (some ⟨H, o, none⟩)] w fun e w' => e = .returned (.int .i64 (sendP q p key).2.2) ∧ MOut w w' R H o cs T v (sendP q p key).1 (sendP q p key).2.1 := by
  have p0 : w.cell? ⟨R, 0, none⟩ = some (.int .i64 p.id) := (cell_of_heap h.run).trans rfl
  have p1 : w.cell? ⟨R, 1, none⟩ = some (.int .i64 p.dev) := (cell_of_heap h.run).trans rfl
  have p2 : w.cell? ⟨R, 2, none⟩ = some (.int .i64 p.sent) := (cell_of_heap h.run).trans rfl
  have hRl : R < w.heap.size := heap_lt h.run
  have HH : Hid (MAt w R H o cs T v q p) := h
  clear h
  go_enter Tryz.func99, Tryz.ntmps99
  go_upto_region 2 with fail
  go_cut [7, 8] (fun n r wx => n = .int .i64 (p.sent + 1) ∧ r = .pointer (some ⟨w.heap.size, 0, none⟩) ∧ Hid (wx.heap[w.heap.size]? = some (.cells #[.int .i64 p.dev, .int .i64 p.id, .int .i64 (p.sent + 1), .int .i64 key] 29 (0, 0)) ∧ Below w.heap.size w wx))
  case first =>
    go_region
    all_goals
      go_wp2_with fail
      go_meet
      case rel => exact ⟨rfl, rfl, heap_alloc_new _ _, ((Below.refl _ _).alloc (Nat.le_refl _) _).drew⟩
  case rest =>
    obtain ⟨rfl, rfl, HX⟩ := hcut
    clear p0 p1 p2 hRl
    have HC : Hid (MAt wc R H o cs T v q p) := HH.out.below HX.out.2
    obtain ⟨m0, m1, m2, m3⟩ := mark4 HX.out.1
    have HPUT : Hid (Calls Tryz.prog 107 #[.pointer (some ⟨H, o, none⟩), .agg #[.int .i64 p.dev, .int .i64 p.id, .int .i64 (p.sent + 1), .int .i64 key]] wc fun e w' => e = .returned (.bool (putQ q ⟨p.dev, p.id, p.sent + 1, key⟩).isSome) ∧ PutOut wc w' H o cs T v ((putQ q ⟨p.dev, p.id, p.sent + 1, key⟩).getD q)) := q_put H o cs T v q ⟨p.dev, p.id, p.sent + 1, key⟩ wc HC.out.que
    cases hpq : putQ q ⟨p.dev, p.id, p.sent + 1, key⟩ with
    | some q' =>
      have HSE : Hid (sendP q p key = (q', { p with sent := p.sent + 1 }, p.sent + 1)) := sendP_some hpq
      rw [hpq] at HPUT
      clear hpq
      go_wp2_with fail
      refine HPUT.out.mono ?_
      rintro e w1 ⟨rfl, ho⟩
      have HO : Hid (MOut w w1 R H o cs T v q' p) := (HC.out.put ho).from HC.out.que.cel ((Fr.of_below HX.out.2).mono fun j hj hs => by omega)
      have g1 : w1.heap[R]? = some (.cells (runCells p).toArray 102 (0, 0)) := by obtain ⟨⟨_, h1, _⟩, _⟩ := HO.out; exact h1.run
      have k2 : w1.cell? ⟨R, 2, none⟩ = some (.int .i64 p.sent) := (cell_of_heap g1).trans rfl
      have z2 : w1.frozen? ⟨R, 2, none⟩ = false := free_of_heap g1
      clear ho HPUT HC g1 m0 m1 m2 m3
      go_wp2_with fail
      go_ret
      rw [HSE.out]
      exact ⟨rfl, HO.out.setR (p' := { p with sent := p.sent + 1 }) 2 _ rfl HH.out.rl⟩
    | none =>
      have HSE : Hid (sendP q p key = (q, p, 0)) := sendP_none hpq
      rw [hpq] at HPUT
      clear hpq
      go_wp2_with fail
      refine HPUT.out.mono ?_
      rintro e w1 ⟨rfl, ho⟩
      have HO : Hid (MOut w w1 R H o cs T v q p) := (HC.out.put ho).from HC.out.que.cel ((Fr.of_below HX.out.2).mono fun j hj hs => by omega)
      clear ho HPUT HC m0 m1 m2 m3
      go_wp2_with fail
      go_ret
      rw [HSE.out]
      exact ⟨rfl, HO.out⟩
theorem MAt.reg {w : World} {R H o : Nat} {cs : Array Value} {T : TypeId} {v : Value} {q : List Msg} {p : Pr} (h : MAt w R H o cs T v q p) {j : Nat} (hj : j < 12) : w.cell? ⟨R, 5 + j, none⟩ = some (.int .i64 (regP p (j : Int))) := by
  rw [cell_of_heap h.run, List.getElem?_toArray]
  exact runCells_reg h.rl hj
theorem MAt.els {w : World} {R H o : Nat} {cs : Array Value} {T : TypeId} {v : Value} {q : List Msg} {p : Pr} (h : MAt w R H o cs T v q p) : w.cell? ⟨R, 17, none⟩ = some (.int .i64 p.els) := by
  rw [cell_of_heap h.run, List.getElem?_toArray]
  exact runCells_els h.rl
theorem MAt.tow {w : World} {R H o : Nat} {cs : Array Value} {T : TypeId} {v : Value} {q : List Msg} {p : Pr} (h : MAt w R H o cs T v q p) : w.cell? ⟨R, 18, none⟩ = some (.int .i64 p.tow) := by
  rw [cell_of_heap h.run, List.getElem?_toArray]
  exact runCells_to h.rl
theorem MAt.setReg {w : World} {R H o : Nat} {cs : Array Value} {T : TypeId} {v : Value} {q : List Msg} {p : Pr} (h : MAt w R H o cs T v q p) {j : Nat} (hj : j < 12) (z : Int) : MAt (w.setCell ⟨R, 5 + j, none⟩ (.int .i64 z)) R H o cs T v q (setP p (j : Int) z) :=
  h.setR _ _ (runCells_setReg h.rl hj z) (by unfold setP; simp [h.rl])
theorem MAt.setEls {w : World} {R H o : Nat} {cs : Array Value} {T : TypeId} {v : Value} {q : List Msg} {p : Pr} (h : MAt w R H o cs T v q p) (z : Int) : MAt (w.setCell ⟨R, 17, none⟩ (.int .i64 z)) R H o cs T v q { p with els := z } :=
  h.setR _ _ (runCells_setEls h.rl z) h.rl
theorem MAt.setTo {w : World} {R H o : Nat} {cs : Array Value} {T : TypeId} {v : Value} {q : List Msg} {p : Pr} (h : MAt w R H o cs T v q p) (z : Int) : MAt (w.setCell ⟨R, 18, none⟩ (.int .i64 z)) R H o cs T v q { p with tow := z } :=
  h.setR _ _ (runCells_setTo h.rl z) h.rl
theorem setP_setP (p : Pr) (r a b : Int) : setP (setP p r a) r b = setP p r b := by unfold setP; simp
set_option maxRecDepth 20000 in
set_option maxHeartbeats 4000000 in
theorem m_twice (R H o : Nat) (cs : Array Value) (T : TypeId) (v : Value) (q : List Msg) (p : Pr) (j : Nat) (w : World) (h : MAt w R H o cs T v q p) (hj : j < 12) (hr0 : 0 ≤ regP p (j : Int)) (hr1 : regP p (j : Int) ≤ 1000000) :
    Calls Tryz.prog 102 #[.pointer (some ⟨R, 0, none⟩), .int .i64 (j : Int)] w fun e w' => e = .returned (.tuple #[]) ∧ MAt w' R H o cs T v q (twiceM p (j : Int)) ∧ Fr (fun k => k = R) w w' := by
  have r0 := h.reg hj
  have z0 : w.frozen? ⟨R, 5 + j, none⟩ = false := free_of_heap h.run
  have hRl : R < w.heap.size := heap_lt h.run
  have hji : (j : Int) < 12 := by omega
  have HH : Hid (MAt w R H o cs T v q p) := h
  clear h
  by_cases hb : 1000000 < regP p (j : Int) * 2
  · have HE : Hid (twiceM p (j : Int) = setP (setP p (j : Int) (regP p (j : Int) * 2)) (j : Int) 1000000) := by show _ = _; unfold twiceM; rw [if_pos hb, setP_setP]
    go_enter Tryz.func102, Tryz.ntmps102
    go_wp2_with fail
    go_region
    all_goals
      go_wp2_with fail
      go_end0
      rw [HE.out]
      exact ⟨rfl, ((HH.out.setReg hj _).setReg hj _).below (Below.refl _ _).drew, (((Fr.refl (fun k => k = R) _).setCell ⟨R, 5 + j, none⟩ (Or.inl rfl) _).setCell ⟨R, 5 + j, none⟩ (Or.inl rfl) _).drew⟩
  · have HE : Hid (twiceM p (j : Int) = setP p (j : Int) (regP p (j : Int) * 2)) := by show _ = _; unfold twiceM; rw [if_neg hb]
    go_enter Tryz.func102, Tryz.ntmps102
    go_wp2_with fail
    go_region
    all_goals
      go_wp2_with fail
      go_end0
      rw [HE.out]
      exact ⟨rfl, (HH.out.setReg hj _).below (Below.refl _ _).drew, ((Fr.refl (fun k => k = R) _).setCell ⟨R, 5 + j, none⟩ (Or.inl rfl) _).drew⟩
end Go.Proofs.YtmmmnghiegajmabGreat
namespace Go.Proofs.Herald
/-- A run on its way, k instructions behind its going on. -/
def MidM (n : Int) (k : Nat) (s0 : Int) (q : List Msg) (m : Pr) : Prop := ∃ pc p, InR pc p m ∧ RegsOk p ∧ pc ≤ n ∧ s0 ≤ p.sent ∧ p.sent ≤ s0 + k ∧ q.length ≤ 4
theorem MidM.els {n : Int} {k : Nat} {s0 : Int} {q : List Msg} {m : Pr} (h : MidM n k s0 q m) : 0 ≤ m.els ∧ m.els ≤ n := by
  obtain ⟨pc, p, h1, _, h3, _⟩ := h
  rw [h1.els]
  exact ⟨h1.pc0, h3⟩
theorem MidM.sent {n : Int} {k : Nat} {s0 : Int} {q : List Msg} {m : Pr} (h : MidM n k s0 q m) : s0 ≤ m.sent ∧ m.sent ≤ s0 + k ∧ 0 ≤ m.sent := by
  obtain ⟨pc, p, h1, _, _, h4, h5, _⟩ := h
  rw [← h1.sent]
  exact ⟨h4, h5, h1.sent0⟩
theorem MidM.regs {n : Int} {k : Nat} {s0 : Int} {q : List Msg} {m : Pr} (h : MidM n k s0 q m) : RegsOk m := by
  obtain ⟨pc, p, h1, h2, _⟩ := h
  unfold RegsOk at h2 ⊢
  rw [← h1.regs]
  exact h2
theorem MidM.len {n : Int} {k : Nat} {s0 : Int} {q : List Msg} {m : Pr} (h : MidM n k s0 q m) : q.length ≤ 4 := by
  obtain ⟨_, _, _, _, _, _, _, h6⟩ := h
  exact h6
theorem MidM.step {n now : Int} {k : Nat} {s0 : Int} {q : List Msg} {m : Pr} {x : Ins} (h : MidM n k s0 q m) (hx : soundI n x = true) (hlt : m.els < n) (hg : (stepM now x q m).2.2 = 0) : MidM n (k + 1) s0 (stepM now x q m).1 (stepM now x q m).2.1 := by
  obtain ⟨pc, p, h1, h2, h3, h4, h5, h6⟩ := h
  rw [h1.els] at hlt
  have k1 := step_same (now := now) (q := q) hx h1
  have k2 := stepP_ok (now := now) hx h1.pc0 hlt h2 h6
  obtain ⟨g1, g2⟩ := k1.go hg
  have s0' := k2.sent0
  have s1' := k2.sent1
  refine ⟨_, _, g2, k2.regs, ?_, by omega, by omega, by rw [← k1.q]; exact k2.len⟩
  rcases k2.pc with h | h
  · omega
  · exact h.2
end Go.Proofs.Herald
namespace Go.Proofs.YtmmmnghiegajmabGreat
open Go.RowKit Go.Proofs.Herald
set_option maxRecDepth 20000 in
set_option maxHeartbeats 4000000 in
theorem m_loop_more (R H o : Nat) (cs : Array Value) (T : TypeId) (v : Value) (q : List Msg) (p : Pr) (op b c : Int) (j : Nat) (w : World) (h : MAt w R H o cs T v q p) (hj : j < 12) (hr1 : regP p (j : Int) ≤ 1000000) (hlt : 1 < regP p (j : Int)) :
    Calls Tryz.prog 104 #[.pointer (some ⟨R, 0, none⟩), .agg #[.int .i64 op, .int .i64 (j : Int), .int .i64 b, .int .i64 c]] w fun e w' => e = .returned (.tuple #[]) ∧ MAt w' R H o cs T v q { setP p (j : Int) (regP p (j : Int) - 1) with els := c } ∧ Fr (fun k => k = R) w w' := by
  have r0 := h.reg hj
  have z0 : w.frozen? ⟨R, 5 + j, none⟩ = false := free_of_heap h.run
  have r1 := h.els
  have z1 : w.frozen? ⟨R, 17, none⟩ = false := free_of_heap h.run
  have hRl : R < w.heap.size := heap_lt h.run
  have HH : Hid (MAt w R H o cs T v q p) := h
  clear h
  generalize regP p (j : Int) = r at *
  go_enter Tryz.func104, Tryz.ntmps104
  go_wp2_with fail
  go_region
  all_goals
    go_wp2_with fail
    go_region
    all_goals
      go_wp2_with fail
      go_region
      all_goals
        go_wp2_with fail
        go_end0
        exact ⟨rfl, (((HH.out.setReg hj (r - 1)).setEls c).below (((Below.refl _ _).alloc (Nat.le_refl _) _).drew.drew.drew)), ((((Fr.refl (fun k => k = R) _).setCell ⟨R, 5 + j, none⟩ (Or.inl rfl) _).setCell ⟨R, 17, none⟩ (Or.inl rfl) _).alloc _).drew.drew.drew⟩
set_option maxRecDepth 20000 in
set_option maxHeartbeats 4000000 in
theorem m_loop_last (R H o : Nat) (cs : Array Value) (T : TypeId) (v : Value) (q : List Msg) (p : Pr) (op b c : Int) (j : Nat) (w : World) (h : MAt w R H o cs T v q p) (hj : j < 12) (hlt : regP p (j : Int) = 1) :
    Calls Tryz.prog 104 #[.pointer (some ⟨R, 0, none⟩), .agg #[.int .i64 op, .int .i64 (j : Int), .int .i64 b, .int .i64 c]] w fun e w' => e = .returned (.tuple #[]) ∧ MAt w' R H o cs T v q (setP p (j : Int) 0) ∧ Fr (fun k => k = R) w w' := by
  have r0 := h.reg hj
  have z0 : w.frozen? ⟨R, 5 + j, none⟩ = false := free_of_heap h.run
  have hRl : R < w.heap.size := heap_lt h.run
  have HH : Hid (MAt w R H o cs T v q p) := h
  clear h
  generalize regP p (j : Int) = r at *
  go_enter Tryz.func104, Tryz.ntmps104
  go_wp2_with fail
  go_region
  all_goals
    go_wp2_with fail
    go_region
    all_goals
      go_wp2_with fail
      go_region
      all_goals
        go_wp2_with fail
        go_end0
        exact ⟨rfl, ((HH.out.setReg hj 0).below (((Below.refl _ _).alloc (Nat.le_refl _) _).drew.drew.drew)), (((Fr.refl (fun k => k = R) _).setCell ⟨R, 5 + j, none⟩ (Or.inl rfl) _).alloc _).drew.drew.drew⟩
set_option maxRecDepth 20000 in
set_option maxHeartbeats 4000000 in
theorem m_loop_none (R H o : Nat) (cs : Array Value) (T : TypeId) (v : Value) (q : List Msg) (p : Pr) (op b c : Int) (j : Nat) (w : World) (h : MAt w R H o cs T v q p) (hj : j < 12) (hr0 : 0 ≤ regP p (j : Int)) (hlt : regP p (j : Int) ≤ 0) :
    Calls Tryz.prog 104 #[.pointer (some ⟨R, 0, none⟩), .agg #[.int .i64 op, .int .i64 (j : Int), .int .i64 b, .int .i64 c]] w fun e w' => e = .returned (.tuple #[]) ∧ MAt w' R H o cs T v q p ∧ Fr (fun k => k = R) w w' := by
  have r0 := h.reg hj
  have z0 : w.frozen? ⟨R, 5 + j, none⟩ = false := free_of_heap h.run
  have hRl : R < w.heap.size := heap_lt h.run
  have HH : Hid (MAt w R H o cs T v q p) := h
  clear h
  generalize regP p (j : Int) = r at *
  go_enter Tryz.func104, Tryz.ntmps104
  go_wp2_with fail
  go_region
  all_goals
    go_wp2_with fail
    go_region
    all_goals
      go_wp2_with fail
      go_end0
      exact ⟨rfl, HH.out.below (((Below.refl _ _).alloc (Nat.le_refl _) _).drew.drew), ((Fr.refl (fun k => k = R) _).alloc _).drew.drew⟩
theorem m_loop (R H o : Nat) (cs : Array Value) (T : TypeId) (v : Value) (q : List Msg) (p : Pr) (op b c : Int) (j : Nat) (w : World) (h : MAt w R H o cs T v q p) (hj : j < 12) (hr0 : 0 ≤ regP p (j : Int)) (hr1 : regP p (j : Int) ≤ 1000000) :
    Calls Tryz.prog 104 #[.pointer (some ⟨R, 0, none⟩), .agg #[.int .i64 op, .int .i64 (j : Int), .int .i64 b, .int .i64 c]] w fun e w' => e = .returned (.tuple #[]) ∧ MAt w' R H o cs T v q (loopM p (j : Int) c) ∧ Fr (fun k => k = R) w w' := by
  have hjl : ((j : Int).toNat) < p.regs.length := by rw [h.rl]; omega
  by_cases hb : 0 < regP p (j : Int)
  · by_cases hb2 : 0 < regP p (j : Int) - 1
    · have e : loopM p (j : Int) c = { setP p (j : Int) (regP p (j : Int) - 1) with els := c } := by unfold loopM downM; rw [if_pos hb, regP_set hjl, if_pos hb2]
      rw [e]
      exact m_loop_more R H o cs T v q p op b c j w h hj hr1 (by omega)
    · have e1 : regP p (j : Int) = 1 := by omega
      have e : loopM p (j : Int) c = setP p (j : Int) 0 := by unfold loopM downM; rw [if_pos hb, regP_set hjl, if_neg hb2, e1]; rfl
      rw [e]
      exact m_loop_last R H o cs T v q p op b c j w h hj e1
  · have e : loopM p (j : Int) c = p := by unfold loopM downM; rw [if_neg hb, if_neg hb]
    rw [e]
    exact m_loop_none R H o cs T v q p op b c j w h hj hr0 (by omega)
set_option maxRecDepth 20000 in
set_option maxHeartbeats 4000000 in
theorem m_ask_no (R H o : Nat) (cs : Array Value) (T : TypeId) (v : Value) (q : List Msg) (p : Pr) (op a b c now : Int) (w : World) (h : MAt w R H o cs T v q p) (hs0 : 0 ≤ p.sent) (hs1 : p.sent ≤ 1000000000000000000) (_ht0 : 0 ≤ now) (_ht1 : now ≤ 1000000000) (_hb0 : 1 ≤ b) (_hb1 : b ≤ 999) (hz : (sendP q (askM p c) a).2.2 = 0) :
    Calls Tryz.prog 101 #[.pointer (some ⟨R, 0, none⟩), .agg #[.int .i64 op, .int .i64 a, .int .i64 b, .int .i64 c], .pointer (some ⟨H, o, none⟩), .int .i64 now] w fun e w' =>
      e = .returned (.int .i64 0) ∧ MOut w w' R H o cs T v (sendP q (askM p c) a).1 (sendP q (askM p c) a).2.1 := by
  have r0 := h.els
  have r1 := h.tow
  have z0 : w.frozen? ⟨R, 17, none⟩ = false := free_of_heap h.run
  have z1 : w.frozen? ⟨R, 18, none⟩ = false := free_of_heap h.run
  have hRl : R < w.heap.size := heap_lt h.run
  have HH : Hid (MAt w R H o cs T v q p) := h
  have HW : Hid (∀ ob, MAt (((w.setCell ⟨R, 18, none⟩ (.int .i64 p.els)).setCell ⟨R, 17, none⟩ (.int .i64 c)).alloc ob) R H o cs T v q (askM p c) ∧ Fr (fun k => k = R ∨ k = H ∨ v.ownBlock = some k) w (((w.setCell ⟨R, 18, none⟩ (.int .i64 p.els)).setCell ⟨R, 17, none⟩ (.int .i64 c)).alloc ob)) := fun ob =>
    ⟨((h.setTo p.els).setEls c).below ((Below.refl _ _).alloc (Nat.le_refl _) _), (((Fr.refl _ _).setCell ⟨R, 18, none⟩ (.inl (.inl rfl)) _).setCell ⟨R, 17, none⟩ (.inl (.inl rfl)) _).alloc _⟩
  have HNV : Hid (R ≠ w.heap.size ∧ H ≠ w.heap.size ∧ v.ownBlock ≠ some w.heap.size) := ⟨by omega, by have := heap_lt h.que.blk; omega, fun e => by obtain ⟨c, hc⟩ := own_block h.que.own e; have := heap_lt hc; omega⟩
  clear h
  have es : (askM p c).sent = p.sent := rfl
  generalize hS : sendP q (askM p c) a = S at *
  have HS : Hid (sendP q (askM p c) a = S) := hS
  clear hS
  go_enter Tryz.func101, Tryz.ntmps101
  go_wp2_with fail
  refine (m_send R H o cs T v q (askM p c) a _ (HW.out _).1 (by rw [es]; exact hs0) (by rw [es]; exact hs1)).mono ?_
  rintro e w1 ⟨he, ho⟩
  rw [HS.out] at he ho
  subst he
  have g1 : w1.heap[w.heap.size]? = some (.cells #[.int .i64 op, .int .i64 a, .int .i64 b, .int .i64 c] 117 (0, 0)) := by
    rw [ho.other (by simp [World.setCell]) HNV.out.1.symm HNV.out.2.1.symm HNV.out.2.2]
    exact heap_alloc_at _ _ _ (by simp [World.setCell])
  obtain ⟨m0, m1, m2, m3⟩ := mark4 g1
  have HO : Hid (MOut w w1 R H o cs T v S.1 S.2.1) := ho.from HH.out.que.cel (HW.out _).2
  clear ho g1 r0 r1 z0 z1 hRl HW HH es
  have hzb : (S.2.2 == 0) = true := by simpa using hz
  clear hz
  go_wp2_with fail
  go_ret
  exact ⟨rfl, HO.out⟩
set_option maxRecDepth 20000 in
set_option maxHeartbeats 4000000 in
theorem m_ask_yes (R H o : Nat) (cs : Array Value) (T : TypeId) (v : Value) (q : List Msg) (p : Pr) (op a b c now : Int) (w : World) (h : MAt w R H o cs T v q p) (hs0 : 0 ≤ p.sent) (hs1 : p.sent ≤ 1000000000000000000) (ht0 : 0 ≤ now) (ht1 : now ≤ 1000000000) (hb0 : 1 ≤ b) (hb1 : b ≤ 999) (hz : ¬ (sendP q (askM p c) a).2.2 = 0) :
    Calls Tryz.prog 101 #[.pointer (some ⟨R, 0, none⟩), .agg #[.int .i64 op, .int .i64 a, .int .i64 b, .int .i64 c], .pointer (some ⟨H, o, none⟩), .int .i64 now] w fun e w' =>
      e = .returned (.int .i64 1) ∧ MOut w w' R H o cs T v (sendP q (askM p c) a).1 (stopP (sendP q (askM p c) a).2.1 now b (sendP q (askM p c) a).2.2) := by
  have r0 := h.els
  have r1 := h.tow
  have z0 : w.frozen? ⟨R, 17, none⟩ = false := free_of_heap h.run
  have z1 : w.frozen? ⟨R, 18, none⟩ = false := free_of_heap h.run
  have hRl : R < w.heap.size := heap_lt h.run
  have HH : Hid (MAt w R H o cs T v q p) := h
  have HW : Hid (∀ ob, MAt (((w.setCell ⟨R, 18, none⟩ (.int .i64 p.els)).setCell ⟨R, 17, none⟩ (.int .i64 c)).alloc ob) R H o cs T v q (askM p c) ∧ Fr (fun k => k = R ∨ k = H ∨ v.ownBlock = some k) w (((w.setCell ⟨R, 18, none⟩ (.int .i64 p.els)).setCell ⟨R, 17, none⟩ (.int .i64 c)).alloc ob)) := fun ob =>
    ⟨((h.setTo p.els).setEls c).below ((Below.refl _ _).alloc (Nat.le_refl _) _), (((Fr.refl _ _).setCell ⟨R, 18, none⟩ (.inl (.inl rfl)) _).setCell ⟨R, 17, none⟩ (.inl (.inl rfl)) _).alloc _⟩
  have HNV : Hid (R ≠ w.heap.size ∧ H ≠ w.heap.size ∧ v.ownBlock ≠ some w.heap.size) := ⟨by omega, by have := heap_lt h.que.blk; omega, fun e => by obtain ⟨c, hc⟩ := own_block h.que.own e; have := heap_lt hc; omega⟩
  clear h
  have es : (askM p c).sent = p.sent := rfl
  generalize hS : sendP q (askM p c) a = S at *
  have HS : Hid (sendP q (askM p c) a = S) := hS
  clear hS
  go_enter Tryz.func101, Tryz.ntmps101
  go_wp2_with fail
  refine (m_send R H o cs T v q (askM p c) a _ (HW.out _).1 (by rw [es]; exact hs0) (by rw [es]; exact hs1)).mono ?_
  rintro e w1 ⟨he, ho⟩
  rw [HS.out] at he ho
  subst he
  have g1 : w1.heap[w.heap.size]? = some (.cells #[.int .i64 op, .int .i64 a, .int .i64 b, .int .i64 c] 117 (0, 0)) := by
    rw [ho.other (by simp [World.setCell]) HNV.out.1.symm HNV.out.2.1.symm HNV.out.2.2]
    exact heap_alloc_at _ _ _ (by simp [World.setCell])
  obtain ⟨m0, m1, m2, m3⟩ := mark4 g1
  have HO : Hid (MOut w w1 R H o cs T v S.1 S.2.1) := ho.from HH.out.que.cel (HW.out _).2
  clear ho g1 r0 r1 z0 z1 hRl HW HH es
  have hzb : (S.2.2 == 0) = false := by simpa using hz
  clear hz
  obtain ⟨v', hA, hB⟩ := HO.out.more
  have HA : Hid (MAt w1 R H o (cs.setIfInBounds o v') T v' S.1 S.2.1 ∧ ∀ w2 p2, MAt w2 R H o (cs.setIfInBounds o v') T v' S.1 p2 → Fr (fun k => k = R) w1 w2 → MOut w w2 R H o cs T v S.1 p2) := ⟨hA, hB⟩
  clear hA hB
  go_wp2_with fail
  refine (m_stop R H o _ T v' S.1 S.2.1 (now + b) S.2.2 _ HA.out.1).mono ?_
  rintro e w2 ⟨rfl, h2, hf⟩
  have H2 : Hid (MOut w w2 R H o cs T v S.1 (stopP S.2.1 now b S.2.2)) := HA.out.2 w2 _ h2 hf
  clear h2 hf HA
  go_wp2_with fail
  go_ret
  exact ⟨rfl, H2.out⟩
set_option maxRecDepth 20000 in
set_option maxHeartbeats 4000000 in
theorem m_hold (R H o : Nat) (cs : Array Value) (T : TypeId) (v : Value) (q : List Msg) (p : Pr) (op a c now : Int) (j : Nat) (w : World) (h : MAt w R H o cs T v q p) (hs0 : 0 ≤ p.sent) (hs1 : p.sent ≤ 1000000000000000000) (ht0 : 0 ≤ now) (ht1 : now ≤ 1000000000) (hj : j < 12) (hr0 : 0 ≤ regP p (j : Int)) (hr1 : regP p (j : Int) ≤ 1000000) :
    Calls Tryz.prog 103 #[.pointer (some ⟨R, 0, none⟩), .agg #[.int .i64 op, .int .i64 a, .int .i64 (j : Int), .int .i64 c], .pointer (some ⟨H, o, none⟩), .int .i64 now] w fun e w' =>
      e = .returned (.int .i64 1) ∧ MOut w w' R H o cs T v (sendP q (holdM p c) a).1 (stopP (sendP q (holdM p c) a).2.1 now (if regP p (j : Int) < 1 then 1 else regP p (j : Int)) (sendP q (holdM p c) a).2.2) := by
  have r0 := h.reg hj
  have r1 := h.tow
  have z1 : w.frozen? ⟨R, 18, none⟩ = false := free_of_heap h.run
  have hRl : R < w.heap.size := heap_lt h.run
  have hj18 : 18 ≠ 5 + j := by omega
  have HH : Hid (MAt w R H o cs T v q p) := h
  have HW : Hid (∀ ob, MAt (((w.setCell ⟨R, 18, none⟩ (.int .i64 c)).alloc ob).drew) R H o cs T v q (holdM p c) ∧ Fr (fun k => k = R ∨ k = H ∨ v.ownBlock = some k) w (((w.setCell ⟨R, 18, none⟩ (.int .i64 c)).alloc ob).drew)) := fun ob =>
    ⟨(h.setTo c).below ((Below.refl _ _).alloc (Nat.le_refl _) _).drew, (((Fr.refl _ _).setCell ⟨R, 18, none⟩ (.inl (.inl rfl)) _).alloc _).drew⟩
  have HNV : Hid (R ≠ w.heap.size ∧ H ≠ w.heap.size ∧ v.ownBlock ≠ some w.heap.size) := ⟨by omega, by have := heap_lt h.que.blk; omega, fun e => by obtain ⟨c, hc⟩ := own_block h.que.own e; have := heap_lt hc; omega⟩
  clear h
  obtain ⟨t, ht⟩ : ∃ t, t = (if regP p (j : Int) < 1 then 1 else regP p (j : Int)) := ⟨_, rfl⟩
  have es : (holdM p c).sent = p.sent := rfl
  generalize hS : sendP q (holdM p c) a = S at *
  have HS : Hid (sendP q (holdM p c) a = S) := hS
  clear hS
  have HT : Hid (t = (if regP p (j : Int) < 1 then 1 else regP p (j : Int))) := ht
  rw [← ht]
  clear ht
  generalize regP p (j : Int) = r at *
  go_enter Tryz.func103, Tryz.ntmps103
  by_cases hb : r < 1
  · have HE : Hid (t = 1) := by show _ = _; rw [HT.out, if_pos hb]
    go_wp2_with fail
    go_region
    all_goals
      go_wp2_with fail
      refine (m_send R H o cs T v q (holdM p c) a _ (HW.out _).1 (by rw [es]; exact hs0) (by rw [es]; exact hs1)).mono ?_
      rintro e w1 ⟨he, ho⟩
      rw [HS.out] at he ho
      subst he
      have HO : Hid (MOut w w1 R H o cs T v S.1 S.2.1) := ho.from HH.out.que.cel (HW.out _).2
      clear ho
      obtain ⟨v', hA, hB⟩ := HO.out.more
      have HA : Hid (MAt w1 R H o (cs.setIfInBounds o v') T v' S.1 S.2.1 ∧ ∀ w2 p2, MAt w2 R H o (cs.setIfInBounds o v') T v' S.1 p2 → Fr (fun k => k = R) w1 w2 → MOut w w2 R H o cs T v S.1 p2) := ⟨hA, hB⟩
      clear hA hB
      go_wp2_with fail
      refine (m_stop R H o _ T v' S.1 S.2.1 (now + 1) S.2.2 _ HA.out.1).mono ?_
      rintro e w2 ⟨rfl, h2, hf⟩
      have H2 : Hid (MOut w w2 R H o cs T v S.1 (stopP S.2.1 now t S.2.2)) := by rw [HE.out]; exact HA.out.2 w2 _ h2 hf
      clear h2 hf HA
      go_wp2_with fail
      go_ret
      exact ⟨rfl, H2.out⟩
  · have HE : Hid (t = r) := by show _ = _; rw [HT.out, if_neg hb]
    go_wp2_with fail
    go_region
    all_goals
      go_wp2_with fail
      refine (m_send R H o cs T v q (holdM p c) a _ (HW.out _).1 (by rw [es]; exact hs0) (by rw [es]; exact hs1)).mono ?_
      rintro e w1 ⟨he, ho⟩
      rw [HS.out] at he ho
      subst he
      have HO : Hid (MOut w w1 R H o cs T v S.1 S.2.1) := ho.from HH.out.que.cel (HW.out _).2
      clear ho
      obtain ⟨v', hA, hB⟩ := HO.out.more
      have HA : Hid (MAt w1 R H o (cs.setIfInBounds o v') T v' S.1 S.2.1 ∧ ∀ w2 p2, MAt w2 R H o (cs.setIfInBounds o v') T v' S.1 p2 → Fr (fun k => k = R) w1 w2 → MOut w w2 R H o cs T v S.1 p2) := ⟨hA, hB⟩
      clear hA hB
      go_wp2_with fail
      refine (m_stop R H o _ T v' S.1 S.2.1 (now + r) S.2.2 _ HA.out.1).mono ?_
      rintro e w2 ⟨rfl, h2, hf⟩
      have H2 : Hid (MOut w w2 R H o cs T v S.1 (stopP S.2.1 now t S.2.2)) := by rw [HE.out]; exact HA.out.2 w2 _ h2 hf
      clear h2 hf HA
      go_wp2_with fail
      go_ret
      exact ⟨rfl, H2.out⟩
open Go.RowKit Go.Proofs.Herald
/-- What an instruction wants of a run. -/
structure DoOk (n now : Int) (p : Pr) : Prop where
  s0 : 0 ≤ p.sent
  s1 : p.sent ≤ 1000000000000000000
  e0 : 0 ≤ p.els
  e1 : p.els ≤ 1000
  regs : RegsOk p
  t0 : 0 ≤ now
  t1 : now ≤ 1000000000
/-- The run stands at the next instruction; the instruction itself lies beside. -/
theorem MAt.inc {w : World} {R H o : Nat} {cs : Array Value} {T : TypeId} {v : Value} {q : List Msg} {p : Pr} (h : MAt w R H o cs T v q p) (ob : Obj) :
    MAt ((w.setCell ⟨R, 17, none⟩ (.int .i64 (p.els + 1))).alloc ob) R H o cs T v q (incM p) ∧ Fr (fun k => k = R ∨ k = H ∨ v.ownBlock = some k) w ((w.setCell ⟨R, 17, none⟩ (.int .i64 (p.els + 1))).alloc ob) :=
  ⟨(h.setEls (p.els + 1)).below ((Below.refl _ _).alloc (Nat.le_refl _) _), ((Fr.refl _ _).setCell ⟨R, 17, none⟩ (.inl (.inl rfl)) _).alloc _⟩
theorem MAt.out {w w1 : World} {R H o : Nat} {cs : Array Value} {T : TypeId} {v : Value} {q : List Msg} {p : Pr} (hc : cs[o]? = some v) (h : MAt w1 R H o cs T v q p) (hf : Fr (fun k => k = R ∨ k = H ∨ v.ownBlock = some k) w w1) : MOut w w1 R H o cs T v q p :=
  ⟨⟨v, by rw [set_self hc]; exact h, fun b hb => .inl hb⟩, hf⟩
set_option maxRecDepth 20000 in
set_option maxHeartbeats 4000000 in
theorem m_do0 (R H o : Nat) (cs : Array Value) (T : TypeId) (v : Value) (q : List Msg) (p : Pr) (n a b c now : Int) (w : World) (h : MAt w R H o cs T v q p) (hb : DoOk n now p) :
    Calls Tryz.prog 88 #[.pointer (some ⟨R, 0, none⟩), .agg #[.int .i64 0, .int .i64 a, .int .i64 b, .int .i64 c], .pointer (some ⟨H, o, none⟩), .int .i64 now] w fun e w' => e = .returned (.int .i64 2) ∧ MOut w w' R H o cs T v q (incM p) := by
  have r0 := h.els
  have z0 : w.frozen? ⟨R, 17, none⟩ = false := free_of_heap h.run
  have hRl : R < w.heap.size := heap_lt h.run
  have he0 := hb.e0
  have he1 := hb.e1
  have HH : Hid (MAt w R H o cs T v q p) := h
  have HB : Hid (DoOk n now p) := hb
  have HW : Hid (∀ ob, MAt ((w.setCell ⟨R, 17, none⟩ (.int .i64 (p.els + 1))).alloc ob) R H o cs T v q (incM p) ∧ Fr (fun k => k = R ∨ k = H ∨ v.ownBlock = some k) w ((w.setCell ⟨R, 17, none⟩ (.int .i64 (p.els + 1))).alloc ob)) := fun ob => h.inc ob
  clear h hb
  go_enter Tryz.func88, Tryz.ntmps88
  go_wp2_with fail
  go_ret
  exact ⟨rfl, (HW.out _).1.out HH.out.que.cel (HW.out _).2⟩
set_option maxRecDepth 20000 in
set_option maxHeartbeats 4000000 in
theorem m_do1 (R H o : Nat) (cs : Array Value) (T : TypeId) (v : Value) (q : List Msg) (p : Pr) (n a b c now : Int) (w : World) (h : MAt w R H o cs T v q p) (hb : DoOk n now p) :
    Calls Tryz.prog 88 #[.pointer (some ⟨R, 0, none⟩), .agg #[.int .i64 1, .int .i64 a, .int .i64 b, .int .i64 c], .pointer (some ⟨H, o, none⟩), .int .i64 now] w fun e w' => e = .returned (.int .i64 0) ∧ MOut w w' R H o cs T v (sendP q (incM p) a).1 (sendP q (incM p) a).2.1 := by
  have r0 := h.els
  have z0 : w.frozen? ⟨R, 17, none⟩ = false := free_of_heap h.run
  have hRl : R < w.heap.size := heap_lt h.run
  have he0 := hb.e0
  have he1 := hb.e1
  have HH : Hid (MAt w R H o cs T v q p) := h
  have HB : Hid (DoOk n now p) := hb
  have HW : Hid (∀ ob, MAt ((w.setCell ⟨R, 17, none⟩ (.int .i64 (p.els + 1))).alloc ob) R H o cs T v q (incM p) ∧ Fr (fun k => k = R ∨ k = H ∨ v.ownBlock = some k) w ((w.setCell ⟨R, 17, none⟩ (.int .i64 (p.els + 1))).alloc ob)) := fun ob => h.inc ob
  clear h hb
  go_enter Tryz.func88, Tryz.ntmps88
  go_wp2_with fail
  refine (m_send R H o cs T v q (incM p) a _ (HW.out _).1 HB.out.s0 HB.out.s1).mono ?_
  rintro e w1 ⟨rfl, ho⟩
  have HO : Hid (MOut w w1 R H o cs T v (sendP q (incM p) a).1 (sendP q (incM p) a).2.1) := ho.from HH.out.que.cel (HW.out _).2
  clear ho r0 z0 hRl
  go_wp2_with fail
  go_ret
  exact ⟨rfl, HO.out⟩
set_option maxRecDepth 20000 in
set_option maxHeartbeats 4000000 in
theorem m_do2 (R H o : Nat) (cs : Array Value) (T : TypeId) (v : Value) (q : List Msg) (p : Pr) (n a b c now : Int) (w : World) (h : MAt w R H o cs T v q p) (hb : DoOk n now p) (ha0 : 1 ≤ a) (ha1 : a ≤ 999) :
    Calls Tryz.prog 88 #[.pointer (some ⟨R, 0, none⟩), .agg #[.int .i64 2, .int .i64 a, .int .i64 b, .int .i64 c], .pointer (some ⟨H, o, none⟩), .int .i64 now] w fun e w' => e = .returned (.int .i64 1) ∧ MOut w w' R H o cs T v q (stopP (incM p) now a 0) := by
  have r0 := h.els
  have z0 : w.frozen? ⟨R, 17, none⟩ = false := free_of_heap h.run
  have hRl : R < w.heap.size := heap_lt h.run
  have he0 := hb.e0
  have he1 := hb.e1
  have ht0 := hb.t0
  have ht1 := hb.t1
  have HH : Hid (MAt w R H o cs T v q p) := h
  have HB : Hid (DoOk n now p) := hb
  have HW : Hid (∀ ob, MAt ((w.setCell ⟨R, 17, none⟩ (.int .i64 (p.els + 1))).alloc ob) R H o cs T v q (incM p) ∧ Fr (fun k => k = R ∨ k = H ∨ v.ownBlock = some k) w ((w.setCell ⟨R, 17, none⟩ (.int .i64 (p.els + 1))).alloc ob)) := fun ob => h.inc ob
  clear h hb
  go_enter Tryz.func88, Tryz.ntmps88
  go_wp2_with fail
  refine (m_stop R H o cs T v q (incM p) (now + a) 0 _ (HW.out _).1).mono ?_
  rintro e w1 ⟨rfl, h1, hf⟩
  have HO : Hid (MOut w w1 R H o cs T v q (stopP (incM p) now a 0)) := MAt.out HH.out.que.cel h1 ((HW.out _).2.trans (hf.mono fun k _ hk => .inl hk))
  clear h1 hf r0 z0 hRl
  go_wp2_with fail
  go_ret
  exact ⟨rfl, HO.out⟩
set_option maxRecDepth 20000 in
set_option maxHeartbeats 4000000 in
theorem m_do3_no (R H o : Nat) (cs : Array Value) (T : TypeId) (v : Value) (q : List Msg) (p : Pr) (n a b c now : Int) (w : World) (h : MAt w R H o cs T v q p) (hb : DoOk n now p) (hb0 : 1 ≤ b) (hb1 : b ≤ 999) (hz : (sendP q (askM (incM p) c) a).2.2 = 0) :
    Calls Tryz.prog 88 #[.pointer (some ⟨R, 0, none⟩), .agg #[.int .i64 3, .int .i64 a, .int .i64 b, .int .i64 c], .pointer (some ⟨H, o, none⟩), .int .i64 now] w fun e w' => e = .returned (.int .i64 0) ∧ MOut w w' R H o cs T v (sendP q (askM (incM p) c) a).1 (sendP q (askM (incM p) c) a).2.1 := by
  have r0 := h.els
  have z0 : w.frozen? ⟨R, 17, none⟩ = false := free_of_heap h.run
  have hRl : R < w.heap.size := heap_lt h.run
  have he0 := hb.e0
  have he1 := hb.e1
  have HH : Hid (MAt w R H o cs T v q p) := h
  have HB : Hid (DoOk n now p) := hb
  have HW : Hid (∀ ob, MAt ((w.setCell ⟨R, 17, none⟩ (.int .i64 (p.els + 1))).alloc ob) R H o cs T v q (incM p) ∧ Fr (fun k => k = R ∨ k = H ∨ v.ownBlock = some k) w ((w.setCell ⟨R, 17, none⟩ (.int .i64 (p.els + 1))).alloc ob)) := fun ob => h.inc ob
  clear h hb
  go_enter Tryz.func88, Tryz.ntmps88
  go_wp2_with fail
  refine (m_ask_no R H o cs T v q (incM p) 3 a b c now _ (HW.out _).1 HB.out.s0 HB.out.s1 HB.out.t0 HB.out.t1 hb0 hb1 hz).mono ?_
  rintro e w1 ⟨rfl, ho⟩
  have HO : Hid (MOut w w1 R H o cs T v (sendP q (askM (incM p) c) a).1 (sendP q (askM (incM p) c) a).2.1) := ho.from HH.out.que.cel (HW.out _).2
  clear ho r0 z0 hRl
  go_wp2_with fail
  go_ret
  exact ⟨rfl, HO.out⟩
set_option maxRecDepth 20000 in
set_option maxHeartbeats 4000000 in
theorem m_do3_yes (R H o : Nat) (cs : Array Value) (T : TypeId) (v : Value) (q : List Msg) (p : Pr) (n a b c now : Int) (w : World) (h : MAt w R H o cs T v q p) (hb : DoOk n now p) (hb0 : 1 ≤ b) (hb1 : b ≤ 999) (hz : ¬ (sendP q (askM (incM p) c) a).2.2 = 0) :
    Calls Tryz.prog 88 #[.pointer (some ⟨R, 0, none⟩), .agg #[.int .i64 3, .int .i64 a, .int .i64 b, .int .i64 c], .pointer (some ⟨H, o, none⟩), .int .i64 now] w fun e w' => e = .returned (.int .i64 1) ∧ MOut w w' R H o cs T v (sendP q (askM (incM p) c) a).1 (stopP (sendP q (askM (incM p) c) a).2.1 now b (sendP q (askM (incM p) c) a).2.2) := by
  have r0 := h.els
  have z0 : w.frozen? ⟨R, 17, none⟩ = false := free_of_heap h.run
  have hRl : R < w.heap.size := heap_lt h.run
  have he0 := hb.e0
  have he1 := hb.e1
  have HH : Hid (MAt w R H o cs T v q p) := h
  have HB : Hid (DoOk n now p) := hb
  have HW : Hid (∀ ob, MAt ((w.setCell ⟨R, 17, none⟩ (.int .i64 (p.els + 1))).alloc ob) R H o cs T v q (incM p) ∧ Fr (fun k => k = R ∨ k = H ∨ v.ownBlock = some k) w ((w.setCell ⟨R, 17, none⟩ (.int .i64 (p.els + 1))).alloc ob)) := fun ob => h.inc ob
  clear h hb
  go_enter Tryz.func88, Tryz.ntmps88
  go_wp2_with fail
  refine (m_ask_yes R H o cs T v q (incM p) 3 a b c now _ (HW.out _).1 HB.out.s0 HB.out.s1 HB.out.t0 HB.out.t1 hb0 hb1 hz).mono ?_
  rintro e w1 ⟨rfl, ho⟩
  have HO : Hid (MOut w w1 R H o cs T v (sendP q (askM (incM p) c) a).1 (stopP (sendP q (askM (incM p) c) a).2.1 now b (sendP q (askM (incM p) c) a).2.2)) := ho.from HH.out.que.cel (HW.out _).2
  clear ho r0 z0 hRl
  go_wp2_with fail
  go_ret
  exact ⟨rfl, HO.out⟩
set_option maxRecDepth 20000 in
set_option maxHeartbeats 4000000 in
theorem m_do4 (R H o : Nat) (cs : Array Value) (T : TypeId) (v : Value) (q : List Msg) (p : Pr) (n b c now : Int) (j : Nat) (w : World) (h : MAt w R H o cs T v q p) (hb : DoOk n now p) (hj : j < 12) :
    Calls Tryz.prog 88 #[.pointer (some ⟨R, 0, none⟩), .agg #[.int .i64 4, .int .i64 (j : Int), .int .i64 b, .int .i64 c], .pointer (some ⟨H, o, none⟩), .int .i64 now] w fun e w' => e = .returned (.int .i64 0) ∧ MOut w w' R H o cs T v q (setP (incM p) (j : Int) b) := by
  have r0 := h.els
  have z0 : w.frozen? ⟨R, 17, none⟩ = false := free_of_heap h.run
  have hRl : R < w.heap.size := heap_lt h.run
  have he0 := hb.e0
  have he1 := hb.e1
  have r1 := h.reg hj
  have z1 : w.frozen? ⟨R, 5 + j, none⟩ = false := free_of_heap h.run
  have hj17 : 17 ≠ 5 + j := by omega
  have hji : (j : Int) < 12 := by omega
  have HS : Hid (∀ ob, MAt (((w.setCell ⟨R, 17, none⟩ (.int .i64 (p.els + 1))).setCell ⟨R, 5 + j, none⟩ (.int .i64 b)).alloc ob).drew R H o cs T v q (setP (incM p) (j : Int) b) ∧ Fr (fun k => k = R ∨ k = H ∨ v.ownBlock = some k) w (((w.setCell ⟨R, 17, none⟩ (.int .i64 (p.els + 1))).setCell ⟨R, 5 + j, none⟩ (.int .i64 b)).alloc ob).drew) := fun ob => ⟨((h.setEls (p.els + 1)).setReg hj b).below ((Below.refl _ _).alloc (Nat.le_refl _) _).drew, ((((Fr.refl _ _).setCell ⟨R, 17, none⟩ (.inl (.inl rfl)) _).setCell ⟨R, 5 + j, none⟩ (.inl (.inl rfl)) _).alloc _).drew⟩
  have HH : Hid (MAt w R H o cs T v q p) := h
  have HB : Hid (DoOk n now p) := hb
  have HW : Hid (∀ ob, MAt ((w.setCell ⟨R, 17, none⟩ (.int .i64 (p.els + 1))).alloc ob) R H o cs T v q (incM p) ∧ Fr (fun k => k = R ∨ k = H ∨ v.ownBlock = some k) w ((w.setCell ⟨R, 17, none⟩ (.int .i64 (p.els + 1))).alloc ob)) := fun ob => h.inc ob
  clear h hb
  go_enter Tryz.func88, Tryz.ntmps88
  go_wp2_with fail
  go_region
  all_goals
    go_wp2_with fail
    go_ret
    exact ⟨rfl, (HS.out _).1.out HH.out.que.cel (HS.out _).2⟩
set_option maxRecDepth 20000 in
set_option maxHeartbeats 4000000 in
theorem m_do5 (R H o : Nat) (cs : Array Value) (T : TypeId) (v : Value) (q : List Msg) (p : Pr) (n b c now : Int) (j : Nat) (w : World) (h : MAt w R H o cs T v q p) (hb : DoOk n now p) (hj : j < 12) :
    Calls Tryz.prog 88 #[.pointer (some ⟨R, 0, none⟩), .agg #[.int .i64 5, .int .i64 (j : Int), .int .i64 b, .int .i64 c], .pointer (some ⟨H, o, none⟩), .int .i64 now] w fun e w' => e = .returned (.int .i64 0) ∧ MOut w w' R H o cs T v q (twiceM (incM p) (j : Int)) := by
  have r0 := h.els
  have z0 : w.frozen? ⟨R, 17, none⟩ = false := free_of_heap h.run
  have hRl : R < w.heap.size := heap_lt h.run
  have he0 := hb.e0
  have he1 := hb.e1
  have HH : Hid (MAt w R H o cs T v q p) := h
  have HB : Hid (DoOk n now p) := hb
  have HW : Hid (∀ ob, MAt ((w.setCell ⟨R, 17, none⟩ (.int .i64 (p.els + 1))).alloc ob) R H o cs T v q (incM p) ∧ Fr (fun k => k = R ∨ k = H ∨ v.ownBlock = some k) w ((w.setCell ⟨R, 17, none⟩ (.int .i64 (p.els + 1))).alloc ob)) := fun ob => h.inc ob
  clear h hb
  go_enter Tryz.func88, Tryz.ntmps88
  go_wp2_with fail
  refine (m_twice R H o cs T v q (incM p) j _ (HW.out _).1 hj (HB.out.regs.get (j : Int)).1 (HB.out.regs.get (j : Int)).2).mono ?_
  rintro e w1 ⟨rfl, h1, hf⟩
  have HO : Hid (MOut w w1 R H o cs T v q (twiceM (incM p) (j : Int))) := MAt.out HH.out.que.cel h1 ((HW.out _).2.trans (hf.mono fun k _ hk => .inl hk))
  clear h1 hf r0 z0 hRl
  go_wp2_with fail
  go_ret
  exact ⟨rfl, HO.out⟩
set_option maxRecDepth 20000 in
set_option maxHeartbeats 4000000 in
theorem m_do6 (R H o : Nat) (cs : Array Value) (T : TypeId) (v : Value) (q : List Msg) (p : Pr) (n a c now : Int) (j : Nat) (w : World) (h : MAt w R H o cs T v q p) (hb : DoOk n now p) (hj : j < 12) (t : Int) (ht : t = (if regP p (j : Int) < 1 then 1 else regP p (j : Int))) :
    Calls Tryz.prog 88 #[.pointer (some ⟨R, 0, none⟩), .agg #[.int .i64 6, .int .i64 a, .int .i64 (j : Int), .int .i64 c], .pointer (some ⟨H, o, none⟩), .int .i64 now] w fun e w' => e = .returned (.int .i64 1) ∧ MOut w w' R H o cs T v (sendP q (holdM (incM p) c) a).1 (stopP (sendP q (holdM (incM p) c) a).2.1 now t (sendP q (holdM (incM p) c) a).2.2) := by
  have r0 := h.els
  have z0 : w.frozen? ⟨R, 17, none⟩ = false := free_of_heap h.run
  have hRl : R < w.heap.size := heap_lt h.run
  have he0 := hb.e0
  have he1 := hb.e1
  have HH : Hid (MAt w R H o cs T v q p) := h
  have HB : Hid (DoOk n now p) := hb
  have HW : Hid (∀ ob, MAt ((w.setCell ⟨R, 17, none⟩ (.int .i64 (p.els + 1))).alloc ob) R H o cs T v q (incM p) ∧ Fr (fun k => k = R ∨ k = H ∨ v.ownBlock = some k) w ((w.setCell ⟨R, 17, none⟩ (.int .i64 (p.els + 1))).alloc ob)) := fun ob => h.inc ob
  have HT : Hid (t = (if regP p (j : Int) < 1 then 1 else regP p (j : Int))) := ht
  clear h hb ht
  go_enter Tryz.func88, Tryz.ntmps88
  go_wp2_with fail
  refine (m_hold R H o cs T v q (incM p) 6 a c now j _ (HW.out _).1 HB.out.s0 HB.out.s1 HB.out.t0 HB.out.t1 hj (HB.out.regs.get (j : Int)).1 (HB.out.regs.get (j : Int)).2).mono ?_
  rintro e w1 ⟨rfl, ho⟩
  have HO : Hid (MOut w w1 R H o cs T v (sendP q (holdM (incM p) c) a).1 (stopP (sendP q (holdM (incM p) c) a).2.1 now t (sendP q (holdM (incM p) c) a).2.2)) := by rw [HT.out]; exact ho.from HH.out.que.cel (HW.out _).2
  clear ho r0 z0 hRl
  go_wp2_with fail
  go_ret
  exact ⟨rfl, HO.out⟩
set_option maxRecDepth 20000 in
set_option maxHeartbeats 4000000 in
theorem m_do7 (R H o : Nat) (cs : Array Value) (T : TypeId) (v : Value) (q : List Msg) (p : Pr) (n b c now : Int) (j : Nat) (w : World) (h : MAt w R H o cs T v q p) (hb : DoOk n now p) (hj : j < 12) :
    Calls Tryz.prog 88 #[.pointer (some ⟨R, 0, none⟩), .agg #[.int .i64 7, .int .i64 (j : Int), .int .i64 b, .int .i64 c], .pointer (some ⟨H, o, none⟩), .int .i64 now] w fun e w' => e = .returned (.int .i64 0) ∧ MOut w w' R H o cs T v q (loopM (incM p) (j : Int) c) := by
  have r0 := h.els
  have z0 : w.frozen? ⟨R, 17, none⟩ = false := free_of_heap h.run
  have hRl : R < w.heap.size := heap_lt h.run
  have he0 := hb.e0
  have he1 := hb.e1
  have HH : Hid (MAt w R H o cs T v q p) := h
  have HB : Hid (DoOk n now p) := hb
  have HW : Hid (∀ ob, MAt ((w.setCell ⟨R, 17, none⟩ (.int .i64 (p.els + 1))).alloc ob) R H o cs T v q (incM p) ∧ Fr (fun k => k = R ∨ k = H ∨ v.ownBlock = some k) w ((w.setCell ⟨R, 17, none⟩ (.int .i64 (p.els + 1))).alloc ob)) := fun ob => h.inc ob
  clear h hb
  go_enter Tryz.func88, Tryz.ntmps88
  go_wp2_with fail
  refine (m_loop R H o cs T v q (incM p) 7 b c j _ (HW.out _).1 hj (HB.out.regs.get (j : Int)).1 (HB.out.regs.get (j : Int)).2).mono ?_
  rintro e w1 ⟨rfl, h1, hf⟩
  have HO : Hid (MOut w w1 R H o cs T v q (loopM (incM p) (j : Int) c)) := MAt.out HH.out.que.cel h1 ((HW.out _).2.trans (hf.mono fun k _ hk => .inl hk))
  clear h1 hf r0 z0 hRl
  go_wp2_with fail
  go_ret
  exact ⟨rfl, HO.out⟩
set_option maxRecDepth 20000 in
set_option maxHeartbeats 4000000 in
theorem m_do8 (R H o : Nat) (cs : Array Value) (T : TypeId) (v : Value) (q : List Msg) (p : Pr) (n a b c now : Int) (w : World) (h : MAt w R H o cs T v q p) (hb : DoOk n now p) :
    Calls Tryz.prog 88 #[.pointer (some ⟨R, 0, none⟩), .agg #[.int .i64 8, .int .i64 a, .int .i64 b, .int .i64 c], .pointer (some ⟨H, o, none⟩), .int .i64 now] w fun e w' => e = .returned (.int .i64 0) ∧ MOut w w' R H o cs T v q { incM p with els := c } := by
  have r0 := h.els
  have z0 : w.frozen? ⟨R, 17, none⟩ = false := free_of_heap h.run
  have hRl : R < w.heap.size := heap_lt h.run
  have he0 := hb.e0
  have he1 := hb.e1
  have HS : Hid (∀ ob, MAt (((w.setCell ⟨R, 17, none⟩ (.int .i64 (p.els + 1))).setCell ⟨R, 17, none⟩ (.int .i64 c)).alloc ob) R H o cs T v q { incM p with els := c } ∧ Fr (fun k => k = R ∨ k = H ∨ v.ownBlock = some k) w (((w.setCell ⟨R, 17, none⟩ (.int .i64 (p.els + 1))).setCell ⟨R, 17, none⟩ (.int .i64 c)).alloc ob)) := fun ob => ⟨((h.setEls (p.els + 1)).setEls c).below ((Below.refl _ _).alloc (Nat.le_refl _) _), (((Fr.refl _ _).setCell ⟨R, 17, none⟩ (.inl (.inl rfl)) _).setCell ⟨R, 17, none⟩ (.inl (.inl rfl)) _).alloc _⟩
  have HH : Hid (MAt w R H o cs T v q p) := h
  have HB : Hid (DoOk n now p) := hb
  have HW : Hid (∀ ob, MAt ((w.setCell ⟨R, 17, none⟩ (.int .i64 (p.els + 1))).alloc ob) R H o cs T v q (incM p) ∧ Fr (fun k => k = R ∨ k = H ∨ v.ownBlock = some k) w ((w.setCell ⟨R, 17, none⟩ (.int .i64 (p.els + 1))).alloc ob)) := fun ob => h.inc ob
  clear h hb
  go_enter Tryz.func88, Tryz.ntmps88
  go_wp2_with fail
  go_ret
  exact ⟨rfl, (HS.out _).1.out HH.out.que.cel (HS.out _).2⟩
/-- Any instruction of sound code. -/
theorem m_do (R H o : Nat) (cs : Array Value) (T : TypeId) (v : Value) (q : List Msg) (p : Pr) (n now : Int) (x : Ins) (w : World) (h : MAt w R H o cs T v q p) (hb : DoOk n now p) (hx : soundI n x = true) :
    Calls Tryz.prog 88 #[.pointer (some ⟨R, 0, none⟩), .agg #[.int .i64 x.op, .int .i64 x.a, .int .i64 x.b, .int .i64 x.c], .pointer (some ⟨H, o, none⟩), .int .i64 now] w fun e w' => e = .returned (.int .i64 (stepM now x q p).2.2) ∧ MOut w w' R H o cs T v (stepM now x q p).1 (stepM now x q p).2.1 := by
  obtain ⟨op, a, b, c⟩ := x
  unfold soundI at hx
  unfold stepM
  simp only at hx ⊢
  by_cases g0 : op = 0
  · rw [if_pos g0, g0]
    exact m_do0 R H o cs T v q p n a b c now w h hb
  rw [if_neg g0] at hx ⊢
  by_cases g1 : op = 1
  · rw [if_pos g1, g1]
    exact m_do1 R H o cs T v q p n a b c now w h hb
  rw [if_neg g1] at hx ⊢
  by_cases g2 : op = 2
  · rw [if_pos g2] at hx ⊢
    rw [g2]
    simp only [Bool.and_eq_true] at hx
    have ha := within_parts hx.1.1
    exact m_do2 R H o cs T v q p n a b c now w h hb ha.1 ha.2
  rw [if_neg g2] at hx ⊢
  by_cases g3 : op = 3
  · rw [if_pos g3] at hx ⊢
    rw [g3]
    simp only [Bool.and_eq_true] at hx
    have ha := within_parts hx.1.2
    by_cases hz : (sendP q (askM (incM p) c) a).2.2 = 0
    · rw [if_pos hz]
      exact m_do3_no R H o cs T v q p n a b c now w h hb ha.1 ha.2 hz
    · rw [if_neg hz]
      exact m_do3_yes R H o cs T v q p n a b c now w h hb ha.1 ha.2 hz
  rw [if_neg g3] at hx ⊢
  by_cases g4 : op = 4
  · rw [if_pos g4] at hx ⊢
    rw [g4]
    simp only [Bool.and_eq_true] at hx
    have ha := within_parts hx.1.1
    obtain ⟨j, rfl⟩ := nat_of ha.1
    exact m_do4 R H o cs T v q p n b c now j w h hb (by omega)
  rw [if_neg g4] at hx ⊢
  by_cases g5 : op = 5
  · rw [if_pos g5] at hx ⊢
    rw [g5]
    simp only [Bool.and_eq_true] at hx
    have ha := within_parts hx.1.1
    obtain ⟨j, rfl⟩ := nat_of ha.1
    exact m_do5 R H o cs T v q p n b c now j w h hb (by omega)
  rw [if_neg g5] at hx ⊢
  by_cases g6 : op = 6
  · rw [if_pos g6] at hx ⊢
    rw [g6]
    simp only [Bool.and_eq_true] at hx
    have ha := within_parts hx.1.2
    obtain ⟨j, rfl⟩ := nat_of ha.1
    exact m_do6 R H o cs T v q p n a c now j w h hb (by omega) _ rfl
  rw [if_neg g6] at hx ⊢
  by_cases g7 : op = 7
  · rw [if_pos g7] at hx ⊢
    rw [g7]
    simp only [Bool.and_eq_true] at hx
    have ha := within_parts hx.1.1
    obtain ⟨j, rfl⟩ := nat_of ha.1
    exact m_do7 R H o cs T v q p n b c now j w h hb (by omega)
  rw [if_neg g7] at hx ⊢
  by_cases g8 : op = 8
  · rw [if_pos g8, g8]
    exact m_do8 R H o cs T v q p n a b c now w h hb
  rw [if_neg g8] at hx
  cases hx
end Go.Proofs.YtmmmnghiegajmabGreat
namespace Go.Proofs.Herald
theorem runM_out {now : Int} {cs : List Ins} {f : Nat} {q : List Msg} {p : Pr} (h : ¬ p.els.toNat < cs.length) : runM now cs f q p = (q, p, true) := by
  cases f with
  | zero => rfl
  | succ f => rw [runM, dif_neg h]
theorem runM_stop {now : Int} {cs : List Ins} {f : Nat} {q : List Msg} {p : Pr} {pn : Nat} (hp : p.els = (pn : Nat)) (h : pn < cs.length) (hs : (stepM now cs[pn] q p).2.2 ≠ 0) : runM now cs (f + 1) q p = ((stepM now cs[pn] q p).1, (stepM now cs[pn] q p).2.1, (stepM now cs[pn] q p).2.2 != 1) := by
  have e : p.els.toNat = pn := by omega
  rw [runM]
  simp only [e]
  rw [dif_pos h, if_neg hs]
theorem runM_on {now : Int} {cs : List Ins} {f : Nat} {q : List Msg} {p : Pr} {pn : Nat} (hp : p.els = (pn : Nat)) (h : pn < cs.length) (hs : (stepM now cs[pn] q p).2.2 = 0) : runM now cs (f + 1) q p = runM now cs f (stepM now cs[pn] q p).1 (stepM now cs[pn] q p).2.1 := by
  have e : p.els.toNat = pn := by omega
  rw [runM]
  simp only [e]
  rw [dif_pos h, if_pos hs]
end Go.Proofs.Herald
namespace Go.Proofs.YtmmmnghiegajmabGreat
open Go.RowKit Go.Proofs.Herald
theorem code_get {w : World} {g cap k : Nat} {cs : List Ins} (h : w.ownsRow 0 117 4 (.slice (some ⟨g, 0, none⟩) cs.length cap) cs.length (codeCells cs)) (hk : k < cs.length) :
    w.cell? ⟨g, k * 4, none⟩ = some (.int .i64 cs[k].op) ∧ w.cell? ⟨g, k * 4 + 1, none⟩ = some (.int .i64 cs[k].a) ∧ w.cell? ⟨g, k * 4 + 2, none⟩ = some (.int .i64 cs[k].b) ∧ w.cell? ⟨g, k * 4 + 3, none⟩ = some (.int .i64 cs[k].c) := by
  have get : ∀ j u, j < 4 → (insCells cs[k])[j]? = some u → w.cell? ⟨g, k * 4 + j, none⟩ = some u := fun j u hj hu => (own_get h (k * 4 + j) u (by rw [codeCells_get cs k hk j hj]; exact hu)).1
  exact ⟨get 0 _ (by omega) rfl, get 1 _ (by omega) rfl, get 2 _ (by omega) rfl, get 3 _ (by omega) rfl⟩
/-- The code stays where it is. -/
theorem MOut.code {w w1 : World} {R H o : Nat} {cs : Array Value} {T : TypeId} {v cv : Value} {q q1 : List Msg} {p p1 : Pr} {code : List Ins} (h : MOut w w1 R H o cs T v q p) (h0 : MAt w R H o cs T v q1 p1) (hT : T ≠ 117) (hc : w.ownsRow 0 117 4 cv code.length (codeCells code)) : w1.ownsRow 0 117 4 cv code.length (codeCells code) := by
  refine own_keep hc fun b hb => ?_
  obtain ⟨c, hb'⟩ := own_block hc hb
  refine h.other (heap_lt hb') (ne_of_type hb' h0.run (by decide)) (ne_of_type hb' h0.que.blk hT.symm) fun e => ?_
  obtain ⟨c2, hc2⟩ := own_block h0.que.own e
  exact ne_of_type hb' hc2 (by decide) rfl
set_option maxRecDepth 400000 in
set_option maxHeartbeats 8000000 in
theorem m_goOn (R H o : Nat) (cs : Array Value) (T : TypeId) (v cv : Value) (q : List Msg) (p : Pr) (now : Int) (code : List Ins) (w : World) (h : MAt w R H o cs T v q p) (hc : w.ownsRow 0 117 4 cv code.length (codeCells code)) (hT : T ≠ 117) (hsnd : soundL code = true) (hm : MidM code.length 0 p.sent q p) (hs : p.sent ≤ 999999999999990000) (ht0 : 0 ≤ now) (ht1 : now ≤ 1000000000) :
    Calls Tryz.prog 66 #[.pointer (some ⟨R, 0, none⟩), cv, .pointer (some ⟨H, o, none⟩), .int .i64 now] w fun e w' => e = .returned (.bool (!(runM now code 10000 q p).2.2)) ∧ MOut w w' R H o cs T v (runM now code 10000 q p).1 (runM now code 10000 q p).2.1 := by
  have hlen : code.length ≤ 1000 := by
    rcases Nat.lt_or_ge 1000 code.length with h | h
    · rw [soundL_long h] at hsnd; cases hsnd
    · exact h
  have HALL : Hid (∀ x ∈ code, soundI code.length x = true) := by
    have := hsnd
    rw [soundL_short hlen] at this
    exact List.all_eq_true.mp this
  obtain ⟨a, cap, hcv⟩ := ownsRow_slice hc
  subst hcv
  have HH : Hid (MAt w R H o cs T v q p) := h
  have HC : Hid (w.ownsRow 0 117 4 (.slice a code.length cap) code.length (codeCells code) ∧ T ≠ 117) := ⟨hc, hT⟩
  have HM0 : Hid (MidM code.length 0 p.sent q p) := hm
  have HSENT : Hid (p.sent ≤ 999999999999990000) := hs
  clear h hc hT hsnd hm hs
  obtain ⟨N, hN⟩ : ∃ N : Nat, N = 10000 := ⟨_, rfl⟩
  have HN : Hid (N = 10000) := hN
  rw [← hN]
  clear hN
  generalize hR : runM now code N q p = RR
  have HR : Hid (runM now code N q p = RR) := hR
  clear hR
  go_enter Tryz.func66, Tryz.ntmps66
  go_wp2_with fail
  go_loopw [9] (fun i wr => ∃ (k : Nat) (q' : List Msg) (p' : Pr), k ≤ N ∧ i = .int .i64 k ∧ Hid (MOut w wr R H o cs T v q' p') ∧ Hid (MidM code.length k p.sent q' p') ∧ Hid (runM now code (N - k) q' p' = RR)) (fun i _ => N - (intOf i).toNat)
  case atStart => exact ⟨0, q, p, by omega, rfl, MOut.of HH.out, HM0, HR⟩
  case round =>
    obtain ⟨k, q', p', hk, rfl, HO, HM, HQ⟩ := hrel
    obtain ⟨⟨v', hA, hv⟩, hF⟩ := HO.out
    have hcd := HO.out.code HH.out HC.out.2 HC.out.1
    obtain ⟨pn, hpn⟩ : ∃ pn : Nat, p'.els = (pn : Nat) := nat_of HM.out.els.1
    have r0 := hA.els
    rw [hpn] at r0
    have hpl : pn ≤ code.length := by have := HM.out.els.2; omega
    by_cases hk2 : k < N
    · have hk3 : (k : Int) < 10000 := by have := HN.out; omega
      obtain ⟨f, hf⟩ : ∃ f, N - k = f + 1 := ⟨N - k - 1, by omega⟩
      have hf2 : f = N - (k + 1) := by omega
      by_cases hlt : pn < code.length
      · obtain ⟨g, cap', hv', _, hgl⟩ := hcd.form (by omega)
        simp at hv'
        obtain ⟨rfl, rfl⟩ := hv'
        obtain ⟨e0, e1, e2, e3⟩ := code_get hcd hlt
        have hsx := HALL.out _ (List.getElem_mem hlt)
        have hstep := HM.out.step (now := now) hsx (by omega)
        have hstop := runM_stop (now := now) (f := f) (q := q') hpn hlt
        have hon := runM_on (now := now) (f := f) (q := q') hpn hlt
        have hq := HQ.out
        rw [hf] at hq
        have hbd : DoOk code.length now p' := by
          have h1 := HM.out.sent
          have h2 := HSENT.out
          have h3 := HN.out
          exact ⟨h1.2.2, by omega, by omega, by omega, HM.out.regs, ht0, ht1⟩
        have HD : Hid (∀ ob, Calls Tryz.prog 88 #[.pointer (some ⟨R, 0, none⟩), .agg #[.int .i64 code[pn].op, .int .i64 code[pn].a, .int .i64 code[pn].b, .int .i64 code[pn].c], .pointer (some ⟨H, o, none⟩), .int .i64 now] (wr.alloc ob) fun e w' => e = .returned (.int .i64 (stepM now code[pn] q' p').2.2) ∧ MOut w w' R H o cs T v (stepM now code[pn] q' p').1 (stepM now code[pn] q' p').2.1) := fun ob => by
          refine (m_do R H o _ T v' q' p' code.length now code[pn] (wr.alloc ob) (hA.below ((Below.refl _ _).alloc (Nat.le_refl _) _)) hbd hsx).mono ?_
          rintro e w' ⟨rfl, ho⟩
          exact ⟨rfl, MOut.trans hv (hF.alloc _) ho⟩
        clear hbd
        generalize stepM now code[pn] q' p' = r at *
        generalize code[pn] = x at *
        by_cases hz : r.2.2 = 0
        · have HRR : Hid (runM now code (N - (k + 1)) r.1 r.2.1 = RR) := by rw [← hf2]; exact (hon hz).symm.trans hq
          have HM2 : Hid (MidM code.length (k + 1) p.sent r.1 r.2.1) := hstep hz
          have hzb : (r.2.2 != 0) = false := by simpa using hz
          clear hstep hstop hon hq hz HQ hA hv hF hcd hsx hf hf2 HM HO
          go_wp2_with fail
          refine (HD.out _).mono ?_
          rintro e w' ⟨rfl, hout⟩
          have HOUT : Hid (MOut w w' R H o cs T v r.1 r.2.1) := hout
          clear hout HD
          go_wp2_with fail
          go_roundw
          case rel => exact ⟨k + 1, r.1, r.2.1, by omega, by go_num, HOUT, HM2, HRR⟩
          case measure => simp [intOf]; omega
        · have HRR : Hid ((r.1, r.2.1, r.2.2 != 1) = RR) := (hstop hz).symm.trans hq
          have hzb : (r.2.2 != 0) = true := by simpa using hz
          clear hstep hstop hon hq hz HQ hA hv hF hcd hsx hf hf2 HM HO
          by_cases h1 : r.2.2 = 1
          · have h1b : (r.2.2 == 1) = true := by simpa using h1
            have HV1 : Hid (r.2.2 = 1) := h1
            clear h1
            go_wp2_with fail
            refine (HD.out _).mono ?_
            rintro e w' ⟨rfl, hout⟩
            have HOUT : Hid (MOut w w' R H o cs T v r.1 r.2.1) := hout
            clear hout HD
            go_wp2_with fail
            go_ret
            rw [← HRR.out]
            exact ⟨ret_bool (by simp [HV1.out]), HOUT.out⟩
          · have h1b : (r.2.2 == 1) = false := by simpa using h1
            have HV1 : Hid (¬ r.2.2 = 1) := h1
            clear h1
            go_wp2_with fail
            refine (HD.out _).mono ?_
            rintro e w' ⟨rfl, hout⟩
            have HOUT : Hid (MOut w w' R H o cs T v r.1 r.2.1) := hout
            clear hout HD
            go_wp2_with fail
            go_ret
            rw [← HRR.out]
            exact ⟨ret_bool (by simp [HV1.out]), HOUT.out⟩
      · have HRR : Hid ((q', p', true) = RR) := by
          have hq := HQ.out
          rw [runM_out (by omega)] at hq
          exact hq
        clear hA hv hF hcd hf hf2 HQ HM
        go_wp2_with fail
        go_ret
        rw [← HRR.out]
        exact ⟨rfl, HO.out⟩
    · have HRR : Hid ((q', p', true) = RR) := by
        have hq := HQ.out
        rw [show N - k = 0 from by omega, runM] at hq
        exact hq
      have hk3 : k = 10000 := by have := HN.out; omega
      subst hk3
      clear hA hv hF hcd HQ HM
      go_wp2_with fail
      go_ret
      rw [← HRR.out]
      exact ⟨rfl, HO.out⟩
open Go.RowKit Go.Proofs.Herald
def runsCells (ps : List Pr) : List Value := ps.flatMap runCells
theorem runsCells_length {ps : List Pr} (h : ∀ p ∈ ps, p.regs.length = 12) : (runsCells ps).length = ps.length * 19 := by
  induction ps with
  | nil => rfl
  | cons p ps ih =>
    have h1 := ih fun x hx => h x (List.mem_cons_of_mem _ hx)
    have h2 := runCells_length (h p (List.mem_cons_self ..))
    unfold runsCells at h1 ⊢
    rw [List.flatMap_cons, List.length_append, h1, h2, List.length_cons]
    omega
theorem runsCells_get : ∀ {ps : List Pr} (_ : ∀ p ∈ ps, p.regs.length = 12) {k : Nat} (hk : k < ps.length) {j : Nat} (_ : j < 19), (runsCells ps)[k * 19 + j]? = (runCells ps[k])[j]? := by
  intro ps
  induction ps with
  | nil => intro _ k hk; simp at hk
  | cons p ps ih =>
    intro h k hk j hj
    have hl := runCells_length (h p (List.mem_cons_self ..))
    unfold runsCells at ih ⊢
    rw [List.flatMap_cons]
    cases k with
    | zero =>
      rw [List.getElem?_append_left (by rw [hl]; omega)]
      simp
    | succ k =>
      rw [List.getElem?_append_right (by rw [hl]; omega), hl, show (k + 1) * 19 + j - 19 = k * 19 + j from by omega, ih (fun x hx => h x (List.mem_cons_of_mem _ hx)) (by simpa using hk) hj]
      simp
theorem runsCells_snoc (ps : List Pr) (p : Pr) : runsCells (ps ++ [p]) = runsCells ps ++ runCells p := by unfold runsCells; simp
theorem twelve {l : List Int} (h : l.length = 12) : ∃ r0 r1 r2 r3 r4 r5 r6 r7 r8 r9 r10 r11, l = [r0, r1, r2, r3, r4, r5, r6, r7, r8, r9, r10, r11] := by
  match l, h with
  | [r0, r1, r2, r3, r4, r5, r6, r7, r8, r9, r10, r11], _ => exact ⟨r0, r1, r2, r3, r4, r5, r6, r7, r8, r9, r10, r11, rfl⟩
/-- The cells of one run of a list. -/
theorem run_get {w : World} {g cap k : Nat} {ps : List Pr} (h : w.ownsRow 0 102 19 (.slice (some ⟨g, 0, none⟩) ps.length cap) ps.length (runsCells ps)) (hr : ∀ p ∈ ps, p.regs.length = 12) (hk : k < ps.length) :
    ∃ r0 r1 r2 r3 r4 r5 r6 r7 r8 r9 r10 r11, ps[k].regs = [r0, r1, r2, r3, r4, r5, r6, r7, r8, r9, r10, r11] ∧
      (w.cell? ⟨g, k * 19, none⟩ = some (.int .i64 ps[k].id) ∧ w.cell? ⟨g, k * 19 + 1, none⟩ = some (.int .i64 ps[k].dev) ∧ w.cell? ⟨g, k * 19 + 2, none⟩ = some (.int .i64 ps[k].sent) ∧ w.cell? ⟨g, k * 19 + 3, none⟩ = some (.int .i64 ps[k].til) ∧ w.cell? ⟨g, k * 19 + 4, none⟩ = some (.int .i64 ps[k].num)) ∧
      (w.cell? ⟨g, k * 19 + 5, none⟩ = some (.int .i64 r0) ∧ w.cell? ⟨g, k * 19 + 6, none⟩ = some (.int .i64 r1) ∧ w.cell? ⟨g, k * 19 + 7, none⟩ = some (.int .i64 r2) ∧ w.cell? ⟨g, k * 19 + 8, none⟩ = some (.int .i64 r3) ∧ w.cell? ⟨g, k * 19 + 9, none⟩ = some (.int .i64 r4) ∧ w.cell? ⟨g, k * 19 + 10, none⟩ = some (.int .i64 r5)) ∧
      (w.cell? ⟨g, k * 19 + 11, none⟩ = some (.int .i64 r6) ∧ w.cell? ⟨g, k * 19 + 12, none⟩ = some (.int .i64 r7) ∧ w.cell? ⟨g, k * 19 + 13, none⟩ = some (.int .i64 r8) ∧ w.cell? ⟨g, k * 19 + 14, none⟩ = some (.int .i64 r9) ∧ w.cell? ⟨g, k * 19 + 15, none⟩ = some (.int .i64 r10) ∧ w.cell? ⟨g, k * 19 + 16, none⟩ = some (.int .i64 r11)) ∧
      (w.cell? ⟨g, k * 19 + 17, none⟩ = some (.int .i64 ps[k].els) ∧ w.cell? ⟨g, k * 19 + 18, none⟩ = some (.int .i64 ps[k].tow)) := by
  obtain ⟨r0, r1, r2, r3, r4, r5, r6, r7, r8, r9, r10, r11, e⟩ := twelve (hr ps[k] (List.getElem_mem hk))
  have get : ∀ j u, j < 19 → (runCells ps[k])[j]? = some u → w.cell? ⟨g, k * 19 + j, none⟩ = some u := fun j u hj hu => (own_get h (k * 19 + j) u (by rw [runsCells_get hr hk hj]; exact hu)).1
  have hc : runCells ps[k] = [.int .i64 ps[k].id, .int .i64 ps[k].dev, .int .i64 ps[k].sent, .int .i64 ps[k].til, .int .i64 ps[k].num, .int .i64 r0, .int .i64 r1, .int .i64 r2, .int .i64 r3, .int .i64 r4, .int .i64 r5, .int .i64 r6, .int .i64 r7, .int .i64 r8, .int .i64 r9, .int .i64 r10, .int .i64 r11, .int .i64 ps[k].els, .int .i64 ps[k].tow] := by unfold runCells; rw [e]; rfl
  rw [hc] at get
  exact ⟨r0, r1, r2, r3, r4, r5, r6, r7, r8, r9, r10, r11, e, ⟨get 0 _ (by omega) rfl, get 1 _ (by omega) rfl, get 2 _ (by omega) rfl, get 3 _ (by omega) rfl, get 4 _ (by omega) rfl⟩,
    ⟨get 5 _ (by omega) rfl, get 6 _ (by omega) rfl, get 7 _ (by omega) rfl, get 8 _ (by omega) rfl, get 9 _ (by omega) rfl, get 10 _ (by omega) rfl⟩,
    ⟨get 11 _ (by omega) rfl, get 12 _ (by omega) rfl, get 13 _ (by omega) rfl, get 14 _ (by omega) rfl, get 15 _ (by omega) rfl, get 16 _ (by omega) rfl⟩, ⟨get 17 _ (by omega) rfl, get 18 _ (by omega) rfl⟩⟩
/-- The cells of a herald. -/
def hCells (code rec : Value) (now last : Int) (rv : Value) (qv : Nat → Value) : Array Value := #[code, .int .i64 now, .int .i64 last, rv, qv 0, qv 1, qv 2, rec]
/-- The program's herald in memory: its machine, and the list of its records. -/
structure HAt (w : World) (H : Nat) (code rec : Value) (now last : Int) (rv : Value) (qv : Nat → Value) (qs : Nat → List Msg) (ps : List Pr) : Prop where
  blk : w.heap[H]? = some (.cells (hCells code rec now last rv qv) 75 (0, 0))
  oB : ∀ d, d < 3 → w.ownsRow 0 29 4 (qv d) (qs d).length (msgsCells (qs d))
  ql : ∀ d, d < 3 → (qs d).length ≤ 4
  dis : ∀ d e b, d < 3 → e < 3 → (qv d).ownBlock = some b → (qv e).ownBlock = some b → d = e
  rB : w.ownsRow 0 102 19 rv ps.length (runsCells ps)
  rl : ∀ p ∈ ps, p.regs.length = 12
/-- What a herald owns: itself, its queues, its runs. -/
def ownH (H : Nat) (rv : Value) (qv : Nat → Value) (k : Nat) : Prop := k = H ∨ (∃ d, d < 3 ∧ (qv d).ownBlock = some k) ∨ rv.ownBlock = some k
theorem HAt.keep {w w' : World} {H : Nat} {code rec : Value} {now last : Int} {rv : Value} {qv : Nat → Value} {qs : Nat → List Msg} {ps : List Pr} (h : HAt w H code rec now last rv qv qs ps) (hk : ∀ k, ownH H rv qv k → w'.heap[k]? = w.heap[k]?) : HAt w' H code rec now last rv qv qs ps :=
  ⟨(hk H (.inl rfl)).trans h.blk, fun d hd => own_keep (h.oB d hd) fun b hb => hk b (.inr (.inl ⟨d, hd, hb⟩)), h.ql, h.dis, own_keep h.rB fun b hb => hk b (.inr (.inr hb)), h.rl⟩
theorem HAt.sort {w : World} {H : Nat} {code rec : Value} {now last : Int} {rv : Value} {qv : Nat → Value} {qs : Nat → List Msg} {ps : List Pr} (h : HAt w H code rec now last rv qv qs ps) {k : Nat} (hk : ownH H rv qv k) : ∃ c t, w.heap[k]? = some (.cells c t (0, 0)) ∧ (t = 75 ∨ t = 29 ∨ t = 102) := by
  rcases hk with rfl | ⟨d, hd, hk⟩ | hk
  · exact ⟨_, _, h.blk, .inl rfl⟩
  · obtain ⟨c, hc⟩ := own_block (h.oB d hd) hk
    exact ⟨_, _, hc, .inr (.inl rfl)⟩
  · obtain ⟨c, hc⟩ := own_block h.rB hk
    exact ⟨_, _, hc, .inr (.inr rfl)⟩
theorem HAt.lt {w : World} {H : Nat} {code rec : Value} {now last : Int} {rv : Value} {qv : Nat → Value} {qs : Nat → List Msg} {ps : List Pr} (h : HAt w H code rec now last rv qv qs ps) {k : Nat} (hk : ownH H rv qv k) : k < w.heap.size := by
  obtain ⟨c, t, hc, _⟩ := h.sort hk
  exact heap_lt hc
theorem HAt.below {w w' : World} {H : Nat} {code rec : Value} {now last : Int} {rv : Value} {qv : Nat → Value} {qs : Nat → List Msg} {ps : List Pr} (h : HAt w H code rec now last rv qv qs ps) (hb : Below w.heap.size w w') : HAt w' H code rec now last rv qv qs ps :=
  h.keep fun k hk => hb.block k (h.lt hk)
/-- Where the run of a number stands, or how many there are. -/
def findI (id : Int) : List Pr → Nat
  | [] => 0
  | p :: ps => if p.id = id then 0 else findI id ps + 1
theorem findI_none {id : Int} : ∀ {ps : List Pr}, (∀ p ∈ ps, ¬ p.id = id) → findI id ps = ps.length := by
  intro ps
  induction ps with
  | nil => intro _; rfl
  | cons p ps ih =>
    intro h
    rw [findI, if_neg (h p (List.mem_cons_self ..)), ih fun x hx => h x (List.mem_cons_of_mem _ hx)]
    rfl
theorem findI_at {id : Int} : ∀ {ps : List Pr} {k : Nat} (hk : k < ps.length), (∀ p ∈ ps.take k, ¬ p.id = id) → ps[k].id = id → findI id ps = k := by
  intro ps
  induction ps with
  | nil => intro k hk; simp at hk
  | cons p ps ih =>
    intro k hk h he
    cases k with
    | zero =>
      have he' : p.id = id := he
      rw [findI, if_pos he']
    | succ k =>
      rw [findI, if_neg (h p (by simp)), ih (by simpa using hk) (fun x hx => h x (by simp [hx])) (by simpa using he)]
theorem Tryz.infoRun2 : (Tryz.prog.info? 102).map (·.size) = some 19 := by kernel_rfl
/-- The run of a list is read whole. -/
theorem run_range {w : World} {g cap k : Nat} {ps : List Pr} (h : w.ownsRow 0 102 19 (.slice (some ⟨g, 0, none⟩) ps.length cap) ps.length (runsCells ps)) (hr : ∀ p ∈ ps, p.regs.length = 12) (hk : k < ps.length) : w.rangeAt g (k * 19) (runCells ps[k]) := fun j u hj => by
  have hj19 : j < 19 := by have := (List.getElem?_eq_some_iff.mp hj).1; rwa [runCells_length (hr _ (List.getElem_mem hk))] at this
  exact (own_get h (k * 19 + j) u (by rw [runsCells_get hr hk hj19]; exact hj)).1
theorem runCells_one (p : Pr) : ∀ u ∈ runCells p, u.oneCell' = true := by
  intro u hu
  unfold runCells at hu
  simp only [List.mem_cons, List.mem_append, List.mem_map, List.not_mem_nil, or_false] at hu
  rcases hu with rfl | rfl | rfl | rfl | rfl | ⟨z, _, rfl⟩ | rfl | rfl
  all_goals rfl
/-- The zero of a run. -/
def zeroRun : Array Value := #[.int .i64 0, .int .i64 0, .int .i64 0, .int .i64 0, .int .i64 0, .int .i64 0, .int .i64 0, .int .i64 0, .int .i64 0, .int .i64 0, .int .i64 0, .int .i64 0, .int .i64 0, .int .i64 0, .int .i64 0, .int .i64 0, .int .i64 0, .int .i64 0, .int .i64 0]
/-- A whole value into the block that was made last: at the list of a region's operations. -/
theorem wpList_store_new {P : Program} {ops : Array Oper} {rest : List Oper} {op : Oper} {a : Act} {Q : Exit → Act → World → Prop} (w : World) (hgd : op.guard = none) (ty : TypeId) (x y : Operand) (ho : op.op = .store ty x y)
    (c cells : Array Value) (hx : a.eval x = .pointer (some ⟨w.heap.size, 0, none⟩)) (hy : a.eval y = .agg cells) (hi : (P.info? ty).map (·.size) = some cells.size) (hs : c.size = cells.size) (h1 : cells.all (·.oneCell') = true)
    (h : wpList P ops Q rest (a.put op.dst undef) (w.alloc (.cells cells ty))) : wpList P ops Q (op :: rest) a (w.alloc (.cells c ty)) :=
  wpList_plain hgd fun _ hK => by
    unfold Oper.wp execOp
    simp only [ho, hx, hy, Instr.storeAt, Instr.sureAddr, Sem.run_bind, Sem.run_pure, Result.andThen_ok, run_storeVar_new w ty c cells hi hs h1]
    exact hK _ _ h
theorem Tryz.infoRunZ : (Tryz.prog.info? 102).map (fun i => (i.zero, i.size, i.bytes)) = some (some (.agg zeroRun), 19, 152) := by kernel_rfl
/-- A list of one run is made. -/
theorem run_build1 (w : World) (C : Array Value) (hC : C.size = 19) : (Instr.buildSlice 67 1 #[(0, .agg C)]).run Tryz.prog w = .ok (.slice (some ⟨w.heap.size, 0, none⟩) 1 1) (w.alloc (.cells C 102)) := by
  obtain ⟨i0, hi, hz0, hz1, hz2⟩ := info_parts Tryz.infoRunZ
  obtain ⟨l⟩ := C
  match l, hC with
  | [c0, c1, c2, c3, c4, c5, c6, c7, c8, c9, c10, c11, c12, c13, c14, c15, c16, c17, c18], _ =>
    simp [Instr.buildSlice, run_underlying Tryz.underlying67, sizeOf, typeInfo, hi, hz1, zeroValue, hz0, Instr.fill, Value.cells, newRow, newObj, go_sem]
    rfl
/-- At the list of a region's operations. -/
theorem wpList_build1 {ops : Array Oper} {rest : List Oper} {op : Oper} {a : Act} {Q : Exit → Act → World → Prop} (w : World) (hgd : op.guard = none) (x : Operand) (ho : op.op = .buildSlice 67 1 #[(0, x)]) (C : Array Value) (hx : a.eval x = .agg C) (hC : C.size = 19) (n : Nat) (hn : w.heap.size = n)
    (h : wpList Tryz.prog ops Q rest (a.put op.dst (.slice (some ⟨n, 0, none⟩) 1 1)) (w.alloc (.cells C 102))) : wpList Tryz.prog ops Q (op :: rest) a w :=
  wpList_plain hgd fun _ hK => by
    unfold Oper.wp execOp
    have e : (#[((0 : Nat), x)].map fun (i, y) => (i, a.eval y)) = #[(0, .agg C)] := by simp [hx]
    have hr := run_build1 w C hC
    rw [hn] at hr
    simp only [ho, e, Sem.run_bind, Sem.run_pure, Result.andThen_ok, hr]
    exact hK _ _ h
/-- A run's cells, by name. -/
structure CellsR (C : Array Value) (p : Pr) : Prop where
  eq : C = (runCells p).toArray
  rl : p.regs.length = 12
theorem CellsR.size {C : Array Value} {p : Pr} (h : CellsR C p) : C.size = 19 := by rw [h.eq]; simpa using runCells_length h.rl
theorem CellsR.one {C : Array Value} {p : Pr} (h : CellsR C p) : C.all (·.oneCell') = true := by rw [h.eq]; exact all_oneCell_toArray (runCells_one p)
theorem CellsR.info {C : Array Value} {p : Pr} (h : CellsR C p) : (Tryz.prog.info? 102).map (·.size) = some C.size := by rw [Tryz.infoRun2, h.size]
theorem CellsR.infoL {C : Array Value} {p : Pr} (h : CellsR C p) : (Tryz.prog.info? 102).map (·.size) = some C.toList.length := by rw [Tryz.infoRun2, Array.length_toList, h.size]
theorem CellsR.zero {C : Array Value} {p : Pr} (h : CellsR C p) : zeroRun.size = C.size := by rw [h.size]; rfl
theorem CellsR.range {C : Array Value} {p : Pr} (h : CellsR C p) {w : World} {g o : Nat} (hr : w.rangeAt g o (runCells p)) : w.rangeAt g o C.toList := by rw [h.eq]; exact hr
theorem CellsR.new {C : Array Value} {w : World} {k : Nat} {t : TypeId} (hk : w.heap[k]? = some (.cells C t (0, 0))) : w.rangeAt k 0 C.toList := fun j u hj => by
  rw [Nat.zero_add, cell_of_heap hk]
  simpa using hj
end Go.Proofs.YtmmmnghiegajmabGreat
