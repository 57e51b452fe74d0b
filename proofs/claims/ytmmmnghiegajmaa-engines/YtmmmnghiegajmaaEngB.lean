/- The document's own herald in memory: one run, the queues; stop, queued. -/
import Derived.Test.YtmmmnghiegajmaaEngA
import Derived.Test.YtmmmnghiegajmaaNewJ
namespace Go.Proofs.Ytmmmnghiegajmaa
open Go.RowKit Go.Proofs.Herald

def Msg.ins (m : Msg) : Ins := ⟨m.dev, m.run, m.num, m.key⟩
def msgsCells (q : List Msg) : List Value := codeCells (q.map Msg.ins)
def upd {α : Type} (f : Nat → α) (d : Nat) (v : α) (k : Nat) : α := if k = d then v else f k

theorem upd_same {α : Type} (f : Nat → α) (d : Nat) (v : α) : upd f d v d = v := if_pos rfl
theorem upd_other {α : Type} (f : Nat → α) {d k : Nat} (v : α) (h : k ≠ d) : upd f d v k = f k := if_neg h

theorem msgsCells_length (q : List Msg) : (msgsCells q).length = q.length * 4 := by unfold msgsCells; rw [codeCells_length, List.length_map]

/-- What is the same of a herald and one of its runs: is it of a text; the text's statements, the code; what the run is to do, answered or not. -/
structure Md where
  tx : Bool
  pg : Value
  code : Value
  yv : Value
  nv : Value

/-- Of code. -/
def cmd (v : Value) : Md := ⟨false, .slice none 0 0, v, .slice none 0 0, .slice none 0 0⟩

structure SimCore (w : World) (S Q P R : Nat) (cv : Md) (pv : Value) (rec : ByteArray) (now last : Int) (qv : Nat → Value) (qs : Nat → List Msg) (p : Pr) : Prop where
  sB : w.heap[S]? = some (.cells #[.bool cv.tx, cv.pg, cv.code, .int .i64 now, .int .i64 last, pv, .slice (some ⟨Q, 0, none⟩) 3 3, .string rec] 121 (0, 0))
  qB : w.heap[Q]? = some (.cells #[qv 0, qv 1, qv 2] 66 (0, 0))
  oB : ∀ d, d < 3 → w.ownsRow 0 83 4 (qv d) (qs d).length (msgsCells (qs d))
  dis : ∀ d e b, d < 3 → e < 3 → (qv d).ownBlock = some b → (qv e).ownBlock = some b → d = e
  pB : w.heap[P]? = some (.cells #[.int .i64 p.id, .int .i64 p.dev, .int .i64 p.sent, .int .i64 p.til, .int .i64 p.num, cv.yv, cv.nv, .slice (some ⟨R, 0, none⟩) 12 12, .int .i64 p.tow, .int .i64 p.els] 176 (0, 0))
  rB : w.heap[R]? = some (.cells (p.regs.map fun z => Value.int .i64 z).toArray 3 (0, 0))
  rl : p.regs.length = 12

/-- Nothing of it turned. -/
theorem SimCore.keep {w w' : World} {S Q P R : Nat} {cv : Md} {pv : Value} {rec : ByteArray} {now last : Int} {qv : Nat → Value} {qs : Nat → List Msg} {p : Pr} (h : SimCore w S Q P R cv pv rec now last qv qs p) (hk : ∀ k, k < w.heap.size → w'.heap[k]? = w.heap[k]?) :
    SimCore w' S Q P R cv pv rec now last qv qs p :=
  ⟨(hk S (heap_lt h.sB)).trans h.sB, (hk Q (heap_lt h.qB)).trans h.qB, fun d hd => own_keep (h.oB d hd) fun b hb => by obtain ⟨c, hc⟩ := own_block (h.oB d hd) hb; exact hk b (heap_lt hc), h.dis, (hk P (heap_lt h.pB)).trans h.pB, (hk R (heap_lt h.rB)).trans h.rB, h.rl⟩

theorem SimCore.below {w w' : World} {S Q P R : Nat} {cv : Md} {pv : Value} {rec : ByteArray} {now last : Int} {qv : Nat → Value} {qs : Nat → List Msg} {p : Pr} (h : SimCore w S Q P R cv pv rec now last qv qs p) (hb : Below w.heap.size w w') : SimCore w' S Q P R cv pv rec now last qv qs p :=
  h.keep fun k hk => hb.block k hk

/-- A cell of the run is written. -/
theorem SimCore.setP {w : World} {S Q P R : Nat} {cv : Md} {pv : Value} {rec : ByteArray} {now last : Int} {qv : Nat → Value} {qs : Nat → List Msg} {p p' : Pr} (h : SimCore w S Q P R cv pv rec now last qv qs p) (j : Nat) (u : Value) (hr : p'.regs = p.regs)
    (hc : (#[.int .i64 p.id, .int .i64 p.dev, .int .i64 p.sent, .int .i64 p.til, .int .i64 p.num, cv.yv, cv.nv, .slice (some ⟨R, 0, none⟩) 12 12, .int .i64 p.tow, .int .i64 p.els] : Array Value).setIfInBounds j u =
      #[.int .i64 p'.id, .int .i64 p'.dev, .int .i64 p'.sent, .int .i64 p'.til, .int .i64 p'.num, cv.yv, cv.nv, .slice (some ⟨R, 0, none⟩) 12 12, .int .i64 p'.tow, .int .i64 p'.els]) :
    SimCore (w.setCell ⟨P, j, none⟩ u) S Q P R cv pv rec now last qv qs p' := by
  refine ⟨?_, ?_, fun d hd => own_keep (h.oB d hd) fun b hb => ?_, h.dis, ?_, ?_, by rw [hr]; exact h.rl⟩
  · rw [Below.heap_setCell _ _ _ _ (ne_of_type h.sB h.pB (by decide))]; exact h.sB
  · rw [Below.heap_setCell _ _ _ _ (ne_of_type h.qB h.pB (by decide))]; exact h.qB
  · obtain ⟨c, hc⟩ := own_block (h.oB d hd) hb
    exact Below.heap_setCell _ _ _ _ (ne_of_type hc h.pB (by decide))
  · rw [heap_setCell_self _ h.pB, hc]
  · rw [Below.heap_setCell _ _ _ _ (ne_of_type h.rB h.pB (by decide)), hr]; exact h.rB

set_option maxHeartbeats 1000000 in
theorem s_stop (S Q P R : Nat) (cv : Md) (pv : Value) (rec : ByteArray) (now last : Int) (qv : Nat → Value) (qs : Nat → List Msg) (p : Pr) (n num : Int) (w : World) (h : SimCore w S Q P R cv pv rec now last qv qs p) (h1 : -1000000000000 ≤ now + n) (h2 : now + n ≤ 1000000000000) :
    Calls Try.prog 151 #[.pointer (some ⟨S, 0, none⟩), .pointer (some ⟨P, 0, none⟩), .int .i64 n, .int .i64 num] w fun e w' => e = .returned (.tuple #[]) ∧ SimCore w' S Q P R cv pv rec now last qv qs (stopP p now n num) ∧ Fr (fun k => k = P) w w' := by
  have c3 : w.cell? ⟨S, 3, none⟩ = some (.int .i64 now) := (cell_of_heap h.sB).trans rfl
  have p3 : w.cell? ⟨P, 3, none⟩ = some (.int .i64 p.til) := (cell_of_heap h.pB).trans rfl
  have p4 : w.cell? ⟨P, 4, none⟩ = some (.int .i64 p.num) := (cell_of_heap h.pB).trans rfl
  have z3 : w.frozen? ⟨P, 3, none⟩ = false := free_of_heap h.pB
  have z4 : w.frozen? ⟨P, 4, none⟩ = false := free_of_heap h.pB
  have HH : Hid (SimCore w S Q P R cv pv rec now last qv qs p) := h
  clear h
  go_enter Try.func151, Try.ntmps151
  go_wp2_with fail
  go_end0
  refine ⟨rfl, ?_, ((Fr.refl (fun k => k = P) _).setCell ⟨P, 3, none⟩ (Or.inl rfl) _).setCell ⟨P, 4, none⟩ (Or.inl rfl) _⟩
  exact (HH.out.setP (p' := { p with til := now + n }) 3 _ rfl rfl).setP (p' := stopP p now n num) 4 _ rfl rfl

theorem three {α : Type} (f : Nat → α) (d : Nat) (hd : d < 3) : #[f 0, f 1, f 2][d]? = some (f d) := by
  match d, hd with
  | 0, _ => rfl
  | 1, _ => rfl
  | 2, _ => rfl

theorem msg_get {w : World} {g cap k : Nat} {q : List Msg} (h : w.ownsRow 0 83 4 (.slice (some ⟨g, 0, none⟩) q.length cap) q.length (msgsCells q)) (hk : k < q.length) :
    w.cell? ⟨g, k * 4, none⟩ = some (.int .i64 q[k].dev) ∧ w.cell? ⟨g, k * 4 + 1, none⟩ = some (.int .i64 q[k].run) ∧ w.cell? ⟨g, k * 4 + 2, none⟩ = some (.int .i64 q[k].num) ∧ w.cell? ⟨g, k * 4 + 3, none⟩ = some (.int .i64 q[k].key) := by
  have hk2 : k < (q.map Msg.ins).length := by simpa using hk
  have get : ∀ j u, j < 4 → (insCells (Msg.ins q[k]))[j]? = some u → w.cell? ⟨g, k * 4 + j, none⟩ = some u := fun j u hj hu => (own_get h (k * 4 + j) u (by
    unfold msgsCells
    rw [codeCells_get (q.map Msg.ins) k hk2 j hj, List.getElem_map]
    exact hu)).1
  exact ⟨get 0 _ (by omega) rfl, get 1 _ (by omega) rfl, get 2 _ (by omega) rfl, get 3 _ (by omega) rfl⟩

set_option maxRecDepth 20000 in
set_option maxHeartbeats 4000000 in
theorem s_queued (S Q P R : Nat) (cv : Md) (pv : Value) (rec : ByteArray) (now last : Int) (qv : Nat → Value) (qs : Nat → List Msg) (p : Pr) (num : Int) (d : Nat) (w : World) (h : SimCore w S Q P R cv pv rec now last qv qs p) (hd : d < 3) (hdev : p.dev = (d : Nat)) (hl : (qs d).length ≤ 4) :
    Calls Try.prog 127 #[.pointer (some ⟨S, 0, none⟩), .pointer (some ⟨P, 0, none⟩), .int .i64 num] w fun e w' => e = .returned (.bool (hasQ (qs d) p.id num)) ∧ SameH w w' := by
  obtain ⟨a, cap, hv⟩ := ownsRow_slice (h.oB d hd)
  have c6 : w.cell? ⟨S, 6, none⟩ = some (.slice (some ⟨Q, 0, none⟩) 3 3) := (cell_of_heap h.sB).trans rfl
  have cq : w.cell? ⟨Q, d, none⟩ = some (.slice a (qs d).length cap) := by rw [cell_of_heap h.qB, three qv d hd, hv]
  have p0 : w.cell? ⟨P, 0, none⟩ = some (.int .i64 p.id) := (cell_of_heap h.pB).trans rfl
  have p1 : w.cell? ⟨P, 1, none⟩ = some (.int .i64 (d : Nat)) := by rw [← hdev]; exact (cell_of_heap h.pB).trans rfl
  have HO : Hid (w.ownsRow 0 83 4 (.slice a (qs d).length cap) (qs d).length (msgsCells (qs d))) := by rw [← hv]; exact h.oB d hd
  clear h hv hdev
  generalize qs d = q at *
  go_enter Try.func127, Try.ntmps127
  go_wp2_with fail
  go_loopw [8] (fun i wr => ∃ k : Nat, k ≤ q.length ∧ i = .int .i64 k ∧ Hid (SameH w wr) ∧ Hid ((q.take k).any (fun m => m.run == p.id && m.num == num) = false)) (fun i _ => q.length - (intOf i).toNat)
  case atStart => exact ⟨0, Nat.zero_le _, rfl, SameH.refl _, by show _ = _; simp⟩
  case round =>
    obtain ⟨k, hk, rfl, HS, HT⟩ := hrel
    rw [← HS.out.cell] at c6 cq p0 p1
    by_cases hlt : k < q.length
    · obtain ⟨g, cap', hv, _, _⟩ := HO.out.form (by omega)
      simp at hv
      obtain ⟨rfl, rfl⟩ := hv
      obtain ⟨e0, e1, e2, e3⟩ := msg_get HO.out hlt
      rw [← HS.out.cell] at e0 e1 e2 e3
      have HYES : Hid (q[k].run = p.id → q[k].num = num → hasQ q p.id num = true) := fun h1 h2 => by
        unfold hasQ
        rw [List.any_eq_true]
        exact ⟨q[k], List.getElem_mem hlt, by simp [h1, h2]⟩
      have HNO : Hid (¬ (q[k].run = p.id ∧ q[k].num = num) → (q.take (k + 1)).any (fun m => m.run == p.id && m.num == num) = false) := fun h1 => by
        rw [List.take_succ_eq_append_getElem hlt, List.any_append, HT.out]
        simp
        exact fun h2 h3 => h1 ⟨h2, h3⟩
      generalize q[k] = m at *
      by_cases hr : m.run = p.id
      · have b1 : (m.run == p.id) = true := by simpa using hr
        by_cases hn : m.num = num
        · have b2 : (m.num == num) = true := by simpa using hn
          have HY : Hid (_ = _) := HYES.out hr hn
          clear hr hn HYES HNO
          go_wp2_with fail
          go_region
          all_goals
            go_wp2_with fail
            go_ret
            exact ⟨ret_bool HY.out.symm, HS.out.drew⟩
        · have b2 : (m.num == num) = false := by simpa using hn
          have HN : Hid (_ = _) := HNO.out (fun h => hn h.2)
          clear hr hn HYES HNO
          go_wp2_with fail
          go_region
          all_goals
            go_wp2_with fail
            go_roundw
            case rel => exact ⟨k + 1, by omega, by go_num, HS.out.drew, HN⟩
            case measure => simp [intOf]; omega
      · have b1 : (m.run == p.id) = false := by simpa using hr
        have HN : Hid (_ = _) := HNO.out (fun h => hr h.1)
        clear hr HYES HNO
        go_wp2_with fail
        go_region
        all_goals
          go_wp2_with fail
          go_roundw
          case rel => exact ⟨k + 1, by omega, by go_num, HS.out.drew, HN⟩
          case measure => simp [intOf]; omega
    · have HE : Hid (q.take k = q) := List.take_of_length_le (by omega)
      go_wp2_with fail
      go_ret
      exact ⟨ret_bool (by unfold hasQ; have h := HT.out; rw [HE.out] at h; exact h.symm), HS.out⟩

end Go.Proofs.Ytmmmnghiegajmaa
