import Derived.Test.YtmmmnghiegajmabM01
import Derived.Test.YtmmmnghiegajmabM04
import Derived.Test.YtmmmnghiegajmabM05
import Derived.Test.YtmmmnghiegajmabM06
import Derived.Test.YtmmmnghiegajmabM07
import Derived.Test.YtmmmnghiegajmabM08
import Derived.Test.YtmmmnghiegajmabM09
import Derived.Test.YtmmmnghiegajmabM10
import Derived.Test.YtmmmnghiegajmabM11
import Derived.Test.YtmmmnghiegajmabM14
import Derived.Test.YtmmmnghiegajmabM16
import Derived.Test.YtmmmnghiegajmabM20
import Derived.Test.YtmmmnghiegajmabM21
import Derived.Test.YtmmmnghiegajmabM22
import Derived.Test.YtmmmnghiegajmabM24
import Derived.Test.YtmmmnghiegajmabM26
import Derived.Test.YtmmmnghiegajmabM27
import Derived.Test.YtmmmnghiegajmabM28
import Derived.Test.YtmmmnghiegajmabM29
import Derived.Test.YtmmmnghiegajmabM30
import Derived.Test.YtmmmnghiegajmabM31
import Derived.Test.YtmmmnghiegajmabM32
import Derived.Test.YtmmmnghiegajmabM33
import Derived.Test.YtmmmnghiegajmabM34
import Derived.Test.YtmmmnghiegajmabM37
import Derived.Test.YtmmmnghiegajmabM38
import Derived.Test.YtmmmnghiegajmabM40
import Derived.Test.YtmmmnghiegajmabM41
import Derived.Test.YtmmmnghiegajmabM42
import Derived.Test.YtmmmnghiegajmabA01
import Derived.Test.YtmmmnghiegajmabA02
import Derived.Test.YtmmmnghiegajmabA03
import Derived.Test.YtmmmnghiegajmabA04
namespace Go.Proofs.Ytmmmnghiegajmab
open Go.RowKit Go.Proofs.Herald
theorem Try.infoRnA : (Try.prog.info? 82).map (fun i => (i.zero, i.size, i.bytes)) = some (some (.agg #[.int .i64 0, .int .i64 0, .int .i64 0, .int .i64 0, .int .i64 0]), 5, 40) := by kernel_rfl
/-- On the way through mine. -/
structure MI (now : Int) (rs : List Rn) (Q : List Msg) (ra qa : Option Addr) (rc qc : Nat) (w0 : World) (R : List Rn) (M : List Msg) (rv qv : Value) (w : World) : Prop where
  in' : SaneIn now rs Q ra qa rc qc w0.heap.size w
  ib : (∀ k, (Value.slice ra rs.length rc).ownBlock = some k → k < w0.heap.size) ∧ ∀ k, (Value.slice qa Q.length qc).ownBlock = some k → k < w0.heap.size
  res : w.heap[w0.heap.size + 1]? = some (.cells #[.int .i64 0, .slice none 0 0, .slice none 0 0] 44 (0, 0))
  out : w.heap[w0.heap.size + 2]? = some (.cells #[.int .i64 now, rv, qv] 44 (0, 0))
  rr : w.ownsRow 0 82 5 rv R.length (rnsCells R)
  qr : w.ownsRow 0 30 4 qv M.length (msgsCells M)
  rb : ∀ k, rv.ownBlock = some k → w0.heap.size ≤ k
  qb : ∀ k, qv.ownBlock = some k → w0.heap.size ≤ k
  back : Below w0.heap.size w0 w
theorem MI.noR {now : Int} {rs : List Rn} {Q : List Msg} {ra qa : Option Addr} {rc qc : Nat} {w0 : World} {R : List Rn} {M : List Msg} {rv qv : Value} {w : World} (h : MI now rs Q ra qa rc qc w0 R M rv qv w) {k : Nat} {c : Array Value} (hk : w.heap[k]? = some (.cells c 44 (0, 0))) : rv.ownBlock ≠ some k := fun e => by
  obtain ⟨c2, hc2⟩ := own_block h.rr e
  exact ne_of_type hk hc2 (by decide) rfl
theorem MI.noQ {now : Int} {rs : List Rn} {Q : List Msg} {ra qa : Option Addr} {rc qc : Nat} {w0 : World} {R : List Rn} {M : List Msg} {rv qv : Value} {w : World} (h : MI now rs Q ra qa rc qc w0 R M rv qv w) {k : Nat} {c : Array Value} (hk : w.heap[k]? = some (.cells c 44 (0, 0))) : qv.ownBlock ≠ some k := fun e => by
  obtain ⟨c2, hc2⟩ := own_block h.qr e
  exact ne_of_type hk hc2 (by decide) rfl
theorem MI.apart {now : Int} {rs : List Rn} {Q : List Msg} {ra qa : Option Addr} {rc qc : Nat} {w0 : World} {R : List Rn} {M : List Msg} {rv qv : Value} {w : World} (h : MI now rs Q ra qa rc qc w0 R M rv qv w) {k : Nat} (hr : rv.ownBlock = some k) (hq : qv.ownBlock = some k) : False := by
  obtain ⟨c1, hc1⟩ := own_block h.rr hr
  obtain ⟨c2, hc2⟩ := own_block h.qr hq
  exact ne_of_type hc1 hc2 (by decide) rfl
theorem MI.putR {now : Int} {rs : List Rn} {Q : List Msg} {ra qa : Option Addr} {rc qc : Nat} {w0 : World} {R R' : List Rn} {M : List Msg} {rv qv rv' : Value} {w w' : World} (h : MI now rs Q ra qa rc qc w0 R M rv qv w) (hf : Fr (fun k => rv.ownBlock = some k ∨ k = w0.heap.size + 2) w w')
    (out' : w'.heap[w0.heap.size + 2]? = some (.cells #[.int .i64 now, rv', qv] 44 (0, 0))) (rr' : w'.ownsRow 0 82 5 rv' R'.length (rnsCells R')) (rb' : ∀ k, rv'.ownBlock = some k → w0.heap.size ≤ k) : MI now rs Q ra qa rc qc w0 R' M rv' qv w' := by
  have old : ∀ k, k < w0.heap.size → w'.heap[k]? = w.heap[k]? := fun k hk => hf.block k (by have := h.back.size; omega) (by
    rintro (h1 | h1)
    · have := h.rb k h1
      omega
    · omega)
  refine ⟨⟨?_, own_keep h.in'.rs fun k hk => old k (h.ib.1 k hk), own_keep h.in'.qs fun k hk => old k (h.ib.2 k hk)⟩, h.ib, ?_, out', rr', own_keep h.qr fun k hk => ?_, rb', h.qb, h.back.trans ⟨hf.os, hf.tape, hf.output, hf.size, old⟩⟩
  · refine (hf.block _ (heap_lt h.in'.blk) ?_).trans h.in'.blk
    rintro (h1 | h1)
    · exact h.noR h.in'.blk h1
    · omega
  · refine (hf.block _ (heap_lt h.res) ?_).trans h.res
    rintro (h1 | h1)
    · exact h.noR h.res h1
    · omega
  · obtain ⟨c, hc⟩ := own_block h.qr hk
    refine hf.block _ (heap_lt hc) ?_
    rintro (h1 | rfl)
    · exact h.apart h1 hk
    · exact h.noQ h.out hk
theorem MI.putQ {now : Int} {rs : List Rn} {Q : List Msg} {ra qa : Option Addr} {rc qc : Nat} {w0 : World} {R : List Rn} {M M' : List Msg} {rv qv qv' : Value} {w w' : World} (h : MI now rs Q ra qa rc qc w0 R M rv qv w) (hf : Fr (fun k => qv.ownBlock = some k ∨ k = w0.heap.size + 2) w w')
    (out' : w'.heap[w0.heap.size + 2]? = some (.cells #[.int .i64 now, rv, qv'] 44 (0, 0))) (qr' : w'.ownsRow 0 30 4 qv' M'.length (msgsCells M')) (qb' : ∀ k, qv'.ownBlock = some k → w0.heap.size ≤ k) : MI now rs Q ra qa rc qc w0 R M' rv qv' w' := by
  have old : ∀ k, k < w0.heap.size → w'.heap[k]? = w.heap[k]? := fun k hk => hf.block k (by have := h.back.size; omega) (by
    rintro (h1 | h1)
    · have := h.qb k h1
      omega
    · omega)
  refine ⟨⟨?_, own_keep h.in'.rs fun k hk => old k (h.ib.1 k hk), own_keep h.in'.qs fun k hk => old k (h.ib.2 k hk)⟩, h.ib, ?_, out', own_keep h.rr fun k hk => ?_, qr', h.rb, qb', h.back.trans ⟨hf.os, hf.tape, hf.output, hf.size, old⟩⟩
  · refine (hf.block _ (heap_lt h.in'.blk) ?_).trans h.in'.blk
    rintro (h1 | h1)
    · exact h.noQ h.in'.blk h1
    · omega
  · refine (hf.block _ (heap_lt h.res) ?_).trans h.res
    rintro (h1 | h1)
    · exact h.noQ h.res h1
    · omega
  · obtain ⟨c, hc⟩ := own_block h.rr hk
    refine hf.block _ (heap_lt hc) ?_
    rintro (h1 | rfl)
    · exact h.apart hk h1
    · exact h.noR h.out hk
theorem MI.outR {now : Int} {rs : List Rn} {Q : List Msg} {ra qa : Option Addr} {rc qc : Nat} {w0 : World} {R : List Rn} {M : List Msg} {rv qv : Value} {w W w1 : World} (h : MI now rs Q ra qa rc qc w0 R M rv qv w) (h0 : OneMore w W) (hg : W.grownBy w1 rv.ownBlock) : w1.heap[w0.heap.size + 1 + 1]? = some (.cells #[.int .i64 now, rv, qv] 44 (0, 0)) := grown_block h0 hg h.out (h.noR h.out)
theorem MI.outQ {now : Int} {rs : List Rn} {Q : List Msg} {ra qa : Option Addr} {rc qc : Nat} {w0 : World} {R : List Rn} {M : List Msg} {rv qv : Value} {w W w1 : World} (h : MI now rs Q ra qa rc qc w0 R M rv qv w) (h0 : OneMore w W) (hg : W.grownBy w1 qv.ownBlock) : w1.heap[w0.heap.size + 1 + 1]? = some (.cells #[.int .i64 now, rv, qv] 44 (0, 0)) := grown_block h0 hg h.out (h.noQ h.out)
theorem MI.pushR {now : Int} {rs : List Rn} {Q : List Msg} {ra qa : Option Addr} {rc qc : Nat} {w0 : World} {R : List Rn} {M : List Msg} {rv qv : Value} {w W w1 : World} {g cap : Nat} {r : Rn} (h : MI now rs Q ra qa rc qc w0 R M rv qv w) (h0 : OneMore w W) (hg : W.grownBy w1 rv.ownBlock)
    (row : w1.ownsRow 0 82 5 (.slice (some ⟨g, 0, none⟩) (R.length + 1) cap) (R.length + 1) (rnsCells R ++ [.int .i64 r.id, .int .i64 r.dev, .int .i64 r.sent, .int .i64 r.til, .int .i64 r.num])) (hat : rv.ownBlock = some g ∨ g = W.heap.size) : MI now rs Q ra qa rc qc w0 (R ++ [r]) M (.slice (some ⟨g, 0, none⟩) (R.length + 1) cap) qv (w1.setCell ⟨w0.heap.size + 1 + 1, 1, none⟩ (.slice (some ⟨g, 0, none⟩) (R.length + 1) cap)) := by
  have ho := h.outR h0 hg
  have hs := h0.size
  have hbs := h.back.size
  refine h.putR ((Fr.of_push h0 hg fun k hk => .inl hk).setCell ⟨w0.heap.size + 1 + 1, 1, none⟩ (.inl (.inr rfl)) _) ?_ ?_ (fun k hk => ?_)
  · rw [heap_setCell_self _ ho]
    rfl
  · rw [List.length_append, rnsCells_snoc]
    refine own_keep row fun k hk => ?_
    obtain ⟨c, hc⟩ := own_block row hk
    exact Below.heap_setCell _ _ _ _ (ne_of_type hc ho (by decide))
  · have e : g = k := by simpa [Value.ownBlock] using hk
    rw [← e]
    rcases hat with h1 | h1
    · exact h.rb g h1
    · omega
theorem MI.pushQ {now : Int} {rs : List Rn} {Q : List Msg} {ra qa : Option Addr} {rc qc : Nat} {w0 : World} {R : List Rn} {M : List Msg} {rv qv : Value} {w W w1 : World} {g cap : Nat} {m : Msg} (h : MI now rs Q ra qa rc qc w0 R M rv qv w) (h0 : OneMore w W) (hg : W.grownBy w1 qv.ownBlock)
    (row : w1.ownsRow 0 30 4 (.slice (some ⟨g, 0, none⟩) (M.length + 1) cap) (M.length + 1) (msgsCells M ++ [.int .i64 m.dev, .int .i64 m.run, .int .i64 m.num, .int .i64 m.key])) (hat : qv.ownBlock = some g ∨ g = W.heap.size) : MI now rs Q ra qa rc qc w0 R (M ++ [m]) rv (.slice (some ⟨g, 0, none⟩) (M.length + 1) cap) (w1.setCell ⟨w0.heap.size + 1 + 1, 2, none⟩ (.slice (some ⟨g, 0, none⟩) (M.length + 1) cap)) := by
  have ho := h.outQ h0 hg
  have hs := h0.size
  have hbs := h.back.size
  refine h.putQ ((Fr.of_push h0 hg fun k hk => .inl hk).setCell ⟨w0.heap.size + 1 + 1, 2, none⟩ (.inl (.inr rfl)) _) ?_ ?_ (fun k hk => ?_)
  · rw [heap_setCell_self _ ho]
    rfl
  · rw [List.length_append, msgsCells_snoc]
    refine own_keep row fun k hk => ?_
    obtain ⟨c, hc⟩ := own_block row hk
    exact Below.heap_setCell _ _ _ _ (ne_of_type hc ho (by decide))
  · have e : g = k := by simpa [Value.ownBlock] using hk
    rw [← e]
    rcases hat with h1 | h1
    · exact h.qb g h1
    · omega
theorem MI.same {now : Int} {rs : List Rn} {Q : List Msg} {ra qa : Option Addr} {rc qc : Nat} {w0 : World} {R : List Rn} {M : List Msg} {rv qv : Value} {w w' : World} (h : MI now rs Q ra qa rc qc w0 R M rv qv w) (hs : SameH w w') : MI now rs Q ra qa rc qc w0 R M rv qv w' :=
  ⟨⟨by rw [hs.heap]; exact h.in'.blk, own_keep h.in'.rs fun k _ => by rw [hs.heap], own_keep h.in'.qs fun k _ => by rw [hs.heap]⟩, h.ib, by rw [hs.heap]; exact h.res, by rw [hs.heap]; exact h.out, own_keep h.rr fun k _ => by rw [hs.heap], own_keep h.qr fun k _ => by rw [hs.heap], h.rb, h.qb, h.back.trans (hs.below _)⟩
def oneR (rs : List Rn) : List Rn := rs.filter fun r => r.id == 1
def zeroM (Q : List Msg) : List Msg := Q.filter fun m => m.dev == 0
theorem oneR_step (l : List Rn) (k : Nat) (hk : k < l.length) : oneR (l.take (k + 1)) = if l[k].id = 1 then oneR (l.take k) ++ [l[k]] else oneR (l.take k) := by
  unfold oneR
  rw [List.take_succ_eq_append_getElem hk, List.filter_append]
  by_cases h : l[k].id = 1
  · simp [h]
  · simp [h]
theorem zeroM_step (l : List Msg) (k : Nat) (hk : k < l.length) : zeroM (l.take (k + 1)) = if l[k].dev = 0 then zeroM (l.take k) ++ [l[k]] else zeroM (l.take k) := by
  unfold zeroM
  rw [List.take_succ_eq_append_getElem hk, List.filter_append]
  by_cases h : l[k].dev = 0
  · simp [h]
  · simp [h]
set_option maxRecDepth 20000 in
set_option maxHeartbeats 8000000 in
theorem c_mine (now : Int) (rs : List Rn) (Q : List Msg) (ra qa : Option Addr) (rc qc : Nat) (w : World) (hR : w.ownsRow 0 82 5 (.slice ra rs.length rc) rs.length (rnsCells rs)) (hQ : w.ownsRow 0 30 4 (.slice qa Q.length qc) Q.length (msgsCells Q)) (hrl : rs.length ≤ 1000) (hql : Q.length ≤ 1000) :
    Calls Try.prog 15 #[.agg #[.int .i64 now, .slice ra rs.length rc, .slice qa Q.length qc]] w fun e w' => ∃ (ra' qa' : Option Addr) (rc' qc' : Nat), e = .returned (.agg #[.int .i64 now, .slice ra' (oneR rs).length rc', .slice qa' (zeroM Q).length qc']) ∧ w'.ownsRow 0 82 5 (.slice ra' (oneR rs).length rc') (oneR rs).length (rnsCells (oneR rs)) ∧ w'.ownsRow 0 30 4 (.slice qa' (zeroM Q).length qc') (zeroM Q).length (msgsCells (zeroM Q)) ∧ Below w.heap.size w w' := by
  obtain ⟨W, hW⟩ : ∃ W, W = ((w.alloc (.cells #[.int .i64 now, .slice ra rs.length rc, .slice qa Q.length qc] 44)).alloc (.cells #[.int .i64 0, .slice none 0 0, .slice none 0 0] 44)).alloc (.cells #[.int .i64 now, .slice none 0 0, .slice none 0 0] 44) := ⟨_, rfl⟩
  have HI : Hid (MI now rs Q ra qa rc qc w [] [] (.slice none 0 0) (.slice none 0 0) W) := by
    have hb : Below w.heap.size w W := by
      rw [hW]
      exact (((Below.refl _ _).alloc (Nat.le_refl _) _).alloc (by simp) _).alloc (by simp; omega) _
    refine ⟨⟨?_, row_below hR hb, row_below hQ hb⟩, ⟨fun k hk => ?_, fun k hk => ?_⟩, ?_, ?_, World.ownsRow_nil _ _ _ _, World.ownsRow_nil _ _ _ _, fun k hk => by simp [Value.ownBlock] at hk, fun k hk => by simp [Value.ownBlock] at hk, hb⟩
    · rw [hW, Below.heap_alloc _ _ _ (by simp; omega), Below.heap_alloc _ _ _ (by simp)]
      exact heap_alloc_new _ _
    · obtain ⟨c, hc⟩ := own_block hR hk
      exact heap_lt hc
    · obtain ⟨c, hc⟩ := own_block hQ hk
      exact heap_lt hc
    · rw [hW, Below.heap_alloc _ _ _ (by simp)]
      exact heap_alloc2 _ _ _
    · rw [hW]
      have e : w.heap.size + 2 = ((w.alloc (.cells #[.int .i64 now, .slice ra rs.length rc, .slice qa Q.length qc] 44)).alloc (.cells #[.int .i64 0, .slice none 0 0, .slice none 0 0] 44)).heap.size := by simp
      rw [e]
      exact heap_alloc_new _ _
  clear hR hQ
  go_enter Try.func15, Try.ntmps15
  go_wp2_with fail
  rw [← hW]
  clear hW
  go_loopw [4] (fun iv wr => ∃ (i : Nat) (rv : Value), i ≤ rs.length ∧ iv = .int .i64 (i : Nat) ∧ Hid (MI now rs Q ra qa rc qc w (oneR (rs.take i)) [] rv (.slice none 0 0) wr)) (fun iv _ => rs.length - (intOf iv).toNat)
  case atStart => exact ⟨0, .slice none 0 0, Nat.zero_le _, rfl, HI.out⟩
  case round =>
    clear HI
    obtain ⟨i, rv, hi, rfl, HM⟩ := hrel
    obtain ⟨s0, s1, s2, hX⟩ := cells_of3 HM.out.in'.blk
    obtain ⟨oa, oc, rfl⟩ := own_slice HM.out.rr
    obtain ⟨o0, o1, o2, hO⟩ : wr.cell? ⟨w.heap.size + 1 + 1, 0, none⟩ = some (.int .i64 now) ∧ wr.cell? ⟨w.heap.size + 1 + 1, 1, none⟩ = some (.slice oa (oneR (rs.take i)).length oc) ∧ wr.cell? ⟨w.heap.size + 1 + 1, 2, none⟩ = some (.slice none 0 0) ∧ w.heap.size + 1 + 1 < wr.heap.size := cells_of3 HM.out.out
    by_cases hlt : i < rs.length
    · obtain ⟨g, ca', hv, _, _⟩ := HM.out.in'.rs.form (by omega)
      simp at hv
      obtain ⟨rfl, rfl⟩ := hv
      obtain ⟨e0, e1, e2, e3, e4⟩ := rn_get HM.out.in'.rs hlt
      have HST : Hid (oneR (rs.take (i + 1)) = if rs[i].id = 1 then oneR (rs.take i) ++ [rs[i]] else oneR (rs.take i)) := oneR_step rs i hlt
      have hle : (oneR (rs.take i)).length ≤ 1000 := Nat.le_trans (List.length_filter_le _ _) (by rw [List.length_take]; omega)
      by_cases hid : rs[i].id = 1
      · have b1 : (rs[i].id == 1) = true := by simpa using hid
        have HST2 : Hid (oneR (rs.take (i + 1)) = oneR (rs.take i) ++ [rs[i]]) := by
          have := HST.out
          rw [if_pos hid] at this
          exact this
        clear hid HST
        generalize rs[i] = r at *
        go_upto_region 6 with fail
        go_region_law (refine step_push2 _ rfl (.tmp 24) (.tmp 30) 42 rfl 82 _ 5 40 Try.underlying42 Try.infoRnA rfl (by decide) (by decide) (.slice oa (oneR (rs.take i)).length oc) (oneR (rs.take i)).length (rnsCells (oneR (rs.take i))) wr.heap.size [.int .i64 r.id, .int .i64 r.dev, .int .i64 r.sent, .int .i64 r.til, .int .i64 r.num] (by rfl) (by exact HM.out.rr.alloc _) (by exact heap_alloc_new _ _) (by rfl) rfl (by simp [Value.oneCell']) (by omega) ?_; intro g1 cap1 w1 hown1 hgrow hat hlt1; have hq1 : w1.cell? ⟨w.heap.size + 1 + 1, 1, none⟩ = some (.slice oa (oneR (rs.take i)).length oc) := (cell_of_heap (HM.out.outR (OneMore.alloc _ _).drew hgrow)).trans rfl; have hf1 : w1.frozen? ⟨w.heap.size + 1 + 1, 1, none⟩ = false := free_of_heap (HM.out.outR (OneMore.alloc _ _).drew hgrow))
        all_goals
          have HN : Hid (MI now rs Q (some ⟨g, 0, none⟩) qa rc qc w (oneR (rs.take (i + 1))) [] (.slice (some ⟨g1, 0, none⟩) ((oneR (rs.take i)).length + 1) cap1) (.slice none 0 0) (w1.setCell ⟨w.heap.size + 1 + 1, 1, none⟩ (.slice (some ⟨g1, 0, none⟩) ((oneR (rs.take i)).length + 1) cap1))) := by
            rw [HST2.out]
            exact HM.out.pushR (OneMore.alloc _ _).drew hgrow hown1 hat
          clear hown1 hgrow hat
          go_wp2_with fail
          go_roundw
          case rel => exact ⟨i + 1, _, by omega, by go_num, HN⟩
          case measure => simp [intOf]; omega
      · have b1 : (rs[i].id == 1) = false := by simpa using hid
        have HN : Hid (MI now rs Q (some ⟨g, 0, none⟩) qa rc qc w (oneR (rs.take (i + 1))) [] (.slice oa (oneR (rs.take i)).length oc) (.slice none 0 0) wr) := by
          have := HST.out
          rw [if_neg hid] at this
          show MI _ _ _ _ _ _ _ _ _ _ _ _ _
          rw [this]
          exact HM.out
        go_wp2_with fail
        go_roundw
        case rel => exact ⟨i + 1, _, by omega, by go_num, HN⟩
        case measure => simp [intOf]; omega
    · have HM2 : Hid (MI now rs Q ra qa rc qc w (oneR rs) [] (.slice oa (oneR rs).length oc) (.slice none 0 0) wr) := by
        have e : rs.take i = rs := List.take_of_length_le (by omega)
        have := HM.out
        rw [e] at this
        exact this
      go_wp2_with fail
      clear s0 s1 s2 hX o0 o1 o2 hO HM
      go_loopw [5] (fun iv wr => ∃ (i : Nat) (qv : Value), i ≤ Q.length ∧ iv = .int .i64 (i : Nat) ∧ Hid (MI now rs Q ra qa rc qc w (oneR rs) (zeroM (Q.take i)) (.slice oa (oneR rs).length oc) qv wr)) (fun iv _ => Q.length - (intOf iv).toNat)
      case atStart => exact ⟨0, .slice none 0 0, Nat.zero_le _, rfl, HM2.out⟩
      case round =>
        clear HM2 hlt hi
        obtain ⟨i, qv, hi, rfl, HM⟩ := hrel
        obtain ⟨s0, s1, s2, hX⟩ := cells_of3 HM.out.in'.blk
        obtain ⟨pa, pc, rfl⟩ := own_slice HM.out.qr
        obtain ⟨o0, o1, o2, hO⟩ : wr.cell? ⟨w.heap.size + 1 + 1, 0, none⟩ = some (.int .i64 now) ∧ wr.cell? ⟨w.heap.size + 1 + 1, 1, none⟩ = some (.slice oa (oneR rs).length oc) ∧ wr.cell? ⟨w.heap.size + 1 + 1, 2, none⟩ = some (.slice pa (zeroM (Q.take i)).length pc) ∧ w.heap.size + 1 + 1 < wr.heap.size := cells_of3 HM.out.out
        by_cases hlt : i < Q.length
        · obtain ⟨g, ca', hv, _, _⟩ := HM.out.in'.qs.form (by omega)
          simp at hv
          obtain ⟨rfl, rfl⟩ := hv
          obtain ⟨e0, e1, e2, e3⟩ := msg_get HM.out.in'.qs hlt
          have HST : Hid (zeroM (Q.take (i + 1)) = if Q[i].dev = 0 then zeroM (Q.take i) ++ [Q[i]] else zeroM (Q.take i)) := zeroM_step Q i hlt
          have hle : (zeroM (Q.take i)).length ≤ 1000 := Nat.le_trans (List.length_filter_le _ _) (by rw [List.length_take]; omega)
          by_cases hid : Q[i].dev = 0
          · have b1 : (Q[i].dev == 0) = true := by simpa using hid
            have HST2 : Hid (zeroM (Q.take (i + 1)) = zeroM (Q.take i) ++ [Q[i]]) := by
              have := HST.out
              rw [if_pos hid] at this
              exact this
            clear hid HST
            generalize Q[i] = r at *
            go_upto_region 11 with fail
            go_region_law (refine step_push2 _ rfl (.tmp 48) (.tmp 54) 28 rfl 30 _ 4 32 Try.underlying28 Try.infoMsg rfl (by decide) (by decide) (.slice pa (zeroM (Q.take i)).length pc) (zeroM (Q.take i)).length (msgsCells (zeroM (Q.take i))) wr.heap.size [.int .i64 r.dev, .int .i64 r.run, .int .i64 r.num, .int .i64 r.key] (by rfl) (by exact HM.out.qr.alloc _) (by exact heap_alloc_new _ _) (by rfl) rfl (by simp [Value.oneCell']) (by omega) ?_; intro g1 cap1 w1 hown1 hgrow hat hlt1; have hq1 : w1.cell? ⟨w.heap.size + 1 + 1, 2, none⟩ = some (.slice pa (zeroM (Q.take i)).length pc) := (cell_of_heap (HM.out.outQ (OneMore.alloc _ _).drew hgrow)).trans rfl; have hf1 : w1.frozen? ⟨w.heap.size + 1 + 1, 2, none⟩ = false := free_of_heap (HM.out.outQ (OneMore.alloc _ _).drew hgrow))
            all_goals
              have HN : Hid (MI now rs Q ra (some ⟨g, 0, none⟩) rc qc w (oneR rs) (zeroM (Q.take (i + 1))) (.slice oa (oneR rs).length oc) (.slice (some ⟨g1, 0, none⟩) ((zeroM (Q.take i)).length + 1) cap1) (w1.setCell ⟨w.heap.size + 1 + 1, 2, none⟩ (.slice (some ⟨g1, 0, none⟩) ((zeroM (Q.take i)).length + 1) cap1))) := by
                rw [HST2.out]
                exact HM.out.pushQ (OneMore.alloc _ _).drew hgrow hown1 hat
              clear hown1 hgrow hat
              go_wp2_with fail
              go_roundw
              case rel => exact ⟨i + 1, _, by omega, by go_num, HN⟩
              case measure => simp [intOf]; omega
          · have b1 : (Q[i].dev == 0) = false := by simpa using hid
            have HN : Hid (MI now rs Q ra (some ⟨g, 0, none⟩) rc qc w (oneR rs) (zeroM (Q.take (i + 1))) (.slice oa (oneR rs).length oc) (.slice pa (zeroM (Q.take i)).length pc) wr) := by
              have := HST.out
              rw [if_neg hid] at this
              show MI _ _ _ _ _ _ _ _ _ _ _ _ _
              rw [this]
              exact HM.out
            go_wp2_with fail
            go_roundw
            case rel => exact ⟨i + 1, _, by omega, by go_num, HN⟩
            case measure => simp [intOf]; omega
        · have e : Q.take i = Q := List.take_of_length_le (by omega)
          rw [e] at HM o2
          obtain ⟨⟨r0, r1, r2, hRl⟩, HRB⟩ : (wr.cell? ⟨w.heap.size + 1, 0, none⟩ = some (.int .i64 0) ∧ wr.cell? ⟨w.heap.size + 1, 1, none⟩ = some (.slice none 0 0) ∧ wr.cell? ⟨w.heap.size + 1, 2, none⟩ = some (.slice none 0 0) ∧ w.heap.size + 1 < wr.heap.size) ∧ Hid (wr.heap[w.heap.size + 1]? = some (.cells #[.int .i64 0, .slice none 0 0, .slice none 0 0] 44 (0, 0))) := ⟨cells_of3 HM.out.res, HM.out.res⟩
          have f0 : wr.frozen? ⟨w.heap.size + 1, 0, none⟩ = false := free_of_heap HM.out.res
          have f1 : wr.frozen? ⟨w.heap.size + 1, 1, none⟩ = false := free_of_heap HM.out.res
          have f2 : wr.frozen? ⟨w.heap.size + 1, 2, none⟩ = false := free_of_heap HM.out.res
          go_wp2_with fail
          have h3 := state_set (a := .int .i64 now) (b := .slice oa (oneR rs).length oc) (c := .slice pa (zeroM Q).length pc) HRB.out
          have HF : Hid (Fr (fun k => k = w.heap.size + 1) wr (((wr.setCell ⟨w.heap.size + 1, 0, none⟩ (.int .i64 now)).setCell ⟨w.heap.size + 1, 1, none⟩ (.slice oa (oneR rs).length oc)).setCell ⟨w.heap.size + 1, 2, none⟩ (.slice pa (zeroM Q).length pc))) := (((Fr.refl (fun k => k = w.heap.size + 1) wr).setCell ⟨w.heap.size + 1, 0, none⟩ (.inl rfl) _).setCell ⟨w.heap.size + 1, 1, none⟩ (.inl rfl) _).setCell ⟨w.heap.size + 1, 2, none⟩ (.inl rfl) _
          generalize ((wr.setCell ⟨w.heap.size + 1, 0, none⟩ (.int .i64 now)).setCell ⟨w.heap.size + 1, 1, none⟩ (.slice oa (oneR rs).length oc)).setCell ⟨w.heap.size + 1, 2, none⟩ (.slice pa (zeroM Q).length pc) = U at *
          obtain ⟨u0, u1, u2, hU⟩ := cells_of3 h3
          refine bodyPost_ret (v := .agg #[.int .i64 now, .slice oa (oneR rs).length oc, .slice pa (zeroM Q).length pc]) (by simp [results, Try.results15, go_sem, u0, u1, u2]) rfl ⟨oa, pa, oc, pc, rfl, own_keep HM.out.rr fun k hk => ?_, own_keep HM.out.qr fun k hk => ?_, HM.out.back.trans ⟨HF.out.os, HF.out.tape, HF.out.output, HF.out.size, fun k hk => HF.out.block k (by have := HM.out.back.size; omega) (fun e => by omega)⟩⟩
          · obtain ⟨c, hc⟩ := own_block HM.out.rr hk
            exact HF.out.block k (heap_lt hc) (fun e => by rw [e] at hk; exact HM.out.noR HM.out.res hk)
          · obtain ⟨c, hc⟩ := own_block HM.out.qr hk
            exact HF.out.block k (heap_lt hc) (fun e => by rw [e] at hk; exact HM.out.noQ HM.out.res hk)
end Go.Proofs.Ytmmmnghiegajmab
