import Derived.Test.YtmmmnghiegajmaaM39
import Derived.Test.YtmmmnghiegajmaaM38
import Derived.Test.YtmmmnghiegajmaaM08
/- The harness: one step of a script, of a pair with its journals. -/
namespace Go.Proofs.Ytmmmnghiegajmaa
open Go.RowKit Go.Proofs.Herald
section
variable {RT : Type} {M : Mode RT} {G : RT → Prop} {ρ : RT → Pr → Prop} {CB : World → Prop} {cs : List Ins} {i : Nat} {hm hm' : Her Pr} {hd hd' : Her RT} {J J' : List Nat} {w w' W w1 w2 : World} {Pb H S Q : Nat} {u tv : Value} {s : HS} {d : DS} {ob : Obj}
/-- Behind the program's call. -/
def QMid (M : Mode RT) (G : RT → Prop) (CB : World → Prop) (cs : List Ins) (i : Nat) (hm' : Her Pr) (hd : Her RT) (J' J : List Nat) (w : World) (Pb H S Q : Nat) (u tv : Value) (s : HS) (d : DS) (ob : Obj) (w1 : World) : Prop :=
  ∃ s1, QH M G CB cs (i + 1) i hm' hd J' J w1 Pb H S Q u tv s1 d ∧ Grown w Pb H S Q s d w1 s1 d ∧ w1.heap[w.heap.size]? = some ob
theorem q_first (K : KindP M G ρ CB cs) (h : QP M G ρ CB cs i hm hd J w Pb H S Q u tv s d) (hW : W = (w.alloc ob).drew) (ho : GJNext cs i hm' J' W H s w1) : QMid M G CB cs i hm' hd J' J w Pb H S Q u tv s d ob w1 := by
  have hb : Below w.heap.size w W := by rw [hW]; exact ((Below.refl _ _).alloc (Nat.le_refl _) _).drew
  have hob : W.heap[w.heap.size]? = some ob := by rw [hW]; exact heap_alloc_new _ _
  obtain ⟨s1, q1, g1, k1, _⟩ := h.q.prog K.k hb ho
  exact ⟨s1, q1, g1, (k1 _ (Nat.le_refl _) (heap_lt hob)).trans hob⟩
theorem q_second (K : KindP M G ρ CB cs) (hq : QMid M G CB cs i hm' hd J' J w Pb H S Q u tv s d ob w1) (hs : SameHer ρ hd' hm') (ho : GDNext M G CB i hd' J' w1.drew S Q d w2) : QNext M G ρ CB cs i w Pb H S Q u tv s d w2 := by
  obtain ⟨s1, q1, g1, _⟩ := hq
  obtain ⟨d1, q2, g2, _⟩ := q1.doc K.k (Below.refl _ _).drew ho
  exact ⟨hm', hd', J', s1, d1, ⟨q2, hs⟩, g1.trans g2⟩
theorem q_cells (hq : QMid M G CB cs i hm' hd J' J w Pb H S Q u tv s d ob w1) : w1.cell? ⟨Pb, 1, none⟩ = some (.pointer (some ⟨S, 0, none⟩)) ∧ w1.heap[w.heap.size]? = some ob := by
  obtain ⟨s1, q1, _, k1⟩ := hq
  exact ⟨(cell_of_heap q1.p).trans rfl, k1⟩
theorem QMid.gd (K : KindP M G ρ CB cs) (hq : QMid M G CB cs i hm' hd J' J w Pb H S Q u tv s d ob w1) : GD M G CB i hd J w1.drew S Q d := by
  obtain ⟨s1, q1, _, _⟩ := hq
  exact (q1.below K.k (Below.refl _ _).drew).gd
theorem QP.gj (K : KindP M G ρ CB cs) (h : QP M G ρ CB cs i hm hd J w Pb H S Q u tv s d) (hW : W = (w.alloc ob).drew) : GJ cs i hm J W H s :=
  (h.q.below K.k (by rw [hW]; exact ((Below.refl _ _).alloc (Nat.le_refl _) _).drew)).gj
theorem qp_trig (K : KindP M G ρ CB cs) (O : Nat) (a b c : Int) (str : ByteArray) (h : QP M G ρ CB cs i hm hd J w Pb H S Q u tv s d) (hi : i ≤ 2000000) :
    Calls Try.prog 59 #[.pointer (some ⟨Pb, 0, none⟩), .agg #[.int .i64 1, .int .i64 a, .int .i64 b, .int .i64 c, .string str], .pointer (some ⟨O, 0, none⟩)] w fun e w' => e = .returned (.bool true) ∧ QNext M G ρ CB cs i w Pb H S Q u tv s d w' := by
  obtain ⟨b1, b2, b3⟩ := SameHer.trig K.hE h.same a
  refine walk_trig Pb H S O a b c str (trigH (machE cs) hm a).1 (trigH (machE cs) hm a).2.1 (QMid M G CB cs i (trigH (machE cs) hm a).2.2 hd (noteJ (trigH (machE cs) hm a).2.1 J 84 a 0) J w Pb H S Q u tv s d _) (QNext M G ρ CB cs i w Pb H S Q u tv s d) w ((cell_of_heap h.q.p).trans rfl) (heap_lt h.q.p) (fun W hW => ?_) (fun w1 hq => ?_) (fun w1 hq => q_cells hq)
  · refine (gj_Trigger a W (h.gj K hW) hi).mono ?_
    rintro e w1 ⟨rfl, ho⟩
    exact ⟨rfl, q_first K h hW ho⟩
  · refine (gd_Trigger K.k a w1.drew (hq.gd K) hi).mono ?_
    rintro e w2 ⟨rfl, ho⟩
    rw [b2] at ho
    exact ⟨by rw [b1, b2], q_second K hq b3 ho⟩
theorem qp_tick (K : KindP M G ρ CB cs) (O : Nat) (a b c : Int) (str : ByteArray) (h : QP M G ρ CB cs i hm hd J w Pb H S Q u tv s d) (hi : i ≤ 2000000) :
    Calls Try.prog 59 #[.pointer (some ⟨Pb, 0, none⟩), .agg #[.int .i64 2, .int .i64 a, .int .i64 b, .int .i64 c, .string str], .pointer (some ⟨O, 0, none⟩)] w fun e w' => e = .returned (.bool true) ∧ QNext M G ρ CB cs i w Pb H S Q u tv s d w' := by
  obtain ⟨b2, b3⟩ := SameHer.tick K.hE h.same a
  refine walk_tick Pb H S O a b c str (tickH (machE cs) hm a).1 (QMid M G CB cs i (tickH (machE cs) hm a).2 hd (noteJ (tickH (machE cs) hm a).1 J 75 a 0) J w Pb H S Q u tv s d _) (QNext M G ρ CB cs i w Pb H S Q u tv s d) w ((cell_of_heap h.q.p).trans rfl) (heap_lt h.q.p) (fun W hW => ?_) (fun w1 hq => ?_) (fun w1 hq => q_cells hq)
  · refine (gj_Tick a W (h.gj K hW) hi).mono ?_
    rintro e w1 ⟨rfl, ho⟩
    exact ⟨rfl, q_first K h hW ho⟩
  · refine (gd_Tick K.k a w1.drew (hq.gd K) hi).mono ?_
    rintro e w2 ⟨rfl, ho⟩
    rw [b2] at ho
    exact ⟨by rw [b2], q_second K hq b3 ho⟩
theorem qp_ack (K : KindP M G ρ CB cs) (O : Nat) (a b c : Int) (str : ByteArray) (h : QP M G ρ CB cs i hm hd J w Pb H S Q u tv s d) (hi : i ≤ 2000000) :
    Calls Try.prog 59 #[.pointer (some ⟨Pb, 0, none⟩), .agg #[.int .i64 3, .int .i64 a, .int .i64 b, .int .i64 c, .string str], .pointer (some ⟨O, 0, none⟩)] w fun e w' => e = .returned (.bool true) ∧ QNext M G ρ CB cs i w Pb H S Q u tv s d w' := by
  obtain ⟨b2, b3⟩ := SameHer.ack K.hE h.same a b
  refine walk_ack Pb H S O a b c str (ackH (machE cs) hm a b).1 (QMid M G CB cs i (ackH (machE cs) hm a b).2 hd (noteJ (ackH (machE cs) hm a b).1 J 65 a b) J w Pb H S Q u tv s d _) (QNext M G ρ CB cs i w Pb H S Q u tv s d) w ((cell_of_heap h.q.p).trans rfl) (heap_lt h.q.p) (fun W hW => ?_) (fun w1 hq => ?_) (fun w1 hq => q_cells hq)
  · refine (gj_Ack a b W (h.gj K hW) hi).mono ?_
    rintro e w1 ⟨rfl, ho⟩
    exact ⟨rfl, q_first K h hW ho⟩
  · refine (gd_Ack K.k a b w1.drew (hq.gd K) hi).mono ?_
    rintro e w2 ⟨rfl, ho⟩
    rw [b2] at ho
    exact ⟨by rw [b2], q_second K hq b3 ho⟩
theorem qp_cancel (K : KindP M G ρ CB cs) (O : Nat) (a b c : Int) (str : ByteArray) (h : QP M G ρ CB cs i hm hd J w Pb H S Q u tv s d) (hi : i ≤ 2000000) :
    Calls Try.prog 59 #[.pointer (some ⟨Pb, 0, none⟩), .agg #[.int .i64 4, .int .i64 a, .int .i64 b, .int .i64 c, .string str], .pointer (some ⟨O, 0, none⟩)] w fun e w' => e = .returned (.bool true) ∧ QNext M G ρ CB cs i w Pb H S Q u tv s d w' := by
  obtain ⟨b2, b3⟩ := SameHer.cancel K.hE h.same a
  refine walk_cancel Pb H S O a b c str (cancelH (machE cs) hm a).1 (QMid M G CB cs i (cancelH (machE cs) hm a).2 hd (noteJ (cancelH (machE cs) hm a).1 J 67 a 0) J w Pb H S Q u tv s d _) (QNext M G ρ CB cs i w Pb H S Q u tv s d) w ((cell_of_heap h.q.p).trans rfl) (heap_lt h.q.p) (fun W hW => ?_) (fun w1 hq => ?_) (fun w1 hq => q_cells hq)
  · refine (gj_Cancel a W (h.gj K hW) hi).mono ?_
    rintro e w1 ⟨rfl, ho⟩
    exact ⟨rfl, q_first K h hW ho⟩
  · refine (gd_Cancel K.k a w1.drew (hq.gd K) hi).mono ?_
    rintro e w2 ⟨rfl, ho⟩
    rw [b2] at ho
    exact ⟨by rw [b2], q_second K hq b3 ho⟩
theorem QMid.write (K : KindP M G ρ CB cs) {s1 : HS} (q1 : QH M G CB cs (i + 1) i hm' hd J' J w1 Pb H S Q u tv s1 d) (g1 : Grown w Pb H S Q s d w1 s1 d) (ho : w1.heap[w.heap.size]? = some ob) {Z : Nat → Prop} (hB : M.B0 ≤ w.heap.size) (hf : Fr Z w1 w') (hz : ∀ k, Z k → w.heap.size < k ∧ ¬ ownQ Pb H S Q s1 d k ∧ Plain w1 k) : QMid M G CB cs i hm' hd J' J w Pb H S Q u tv s d ob w' :=
  ⟨s1, q1.write K.k hf fun k _ hk => ⟨(hz k hk).2.1, by have := (hz k hk).1; omega, (hz k hk).2.2⟩, g1.write hf fun k hk => by have := (hz k hk).1; omega, (hf.block _ (heap_lt ho) fun hk => by have := (hz _ hk).1; omega).trans ho⟩
theorem qp_drain (K : KindP M G ρ CB cs) (O : Nat) (a b c : Int) (str : ByteArray) (h : QP M G ρ CB cs i hm hd J w Pb H S Q u tv s d) (hi : i ≤ 2000000) :
    Calls Try.prog 59 #[.pointer (some ⟨Pb, 0, none⟩), .agg #[.int .i64 5, .int .i64 a, .int .i64 b, .int .i64 c, .string str], .pointer (some ⟨O, 0, none⟩)] w fun e w' => e = .returned (.bool true) ∧ QNext M G ρ CB cs i w Pb H S Q u tv s d w' := by
  obtain ⟨b1, b2, b3⟩ := SameHer.drain h.same a
  have hB := h.q.B
  have hdl : ∀ {X : Nat}, w.heap.size ≤ X → ¬ d.own S Q X := fun hX hz => by have := h.q.gd.lt hz; omega
  refine walk_drain Pb H S O a b c str (drainH hm a).1 (drainH hm a).2.1 (QMid M G CB cs i (drainH hm a).2.2 hd (noteJ (drainH hm a).2.1 J 68 a 0) J w Pb H S Q u tv s d (.cells #[.int .i64 5, .int .i64 a, .int .i64 b, .int .i64 c, .string str] 125 (0, 0))) (QNext M G ρ CB cs i w Pb H S Q u tv s d) w ((cell_of_heap h.q.p).trans rfl) (heap_lt h.q.p) ?_ ?_ (fun w1 X ox hX hox hq => ?_) (fun w1 X ox hX hox hq => ?_) (fun w1 hq => ?_)
  · refine (gj_Drain a _ (h.gj K rfl) hi).mono ?_
    rintro e w1 ⟨rfl, ho⟩
    obtain ⟨s1, q1, g1, k1⟩ := q_first K h rfl ho
    refine ⟨rfl, heap_lt k1, fun o2 => QMid.write K q1 g1 k1 hB ((Fr.refl (fun _ => False) _).alloc _) fun k hk => hk.elim⟩
  · obtain ⟨W, hW⟩ : ∃ W, W = ((w.alloc (.cells #[.int .i64 5, .int .i64 a, .int .i64 b, .int .i64 c, .string str] 125)).alloc (.cells #[.int .i64 0, .int .i64 0, .int .i64 0, .int .i64 0] 83)).drew := ⟨_, rfl⟩
    have hs : W.heap.size = w.heap.size + 2 := by rw [hW]; show ((w.alloc _).alloc _).heap.size = _; simp
    have hz : W.heap[w.heap.size + 1]? = some (.cells #[.int .i64 0, .int .i64 0, .int .i64 0, .int .i64 0] 83 (0, 0)) := by rw [hW]; exact heap_alloc2 _ _ _
    have ho : W.heap[w.heap.size]? = some (.cells #[.int .i64 5, .int .i64 a, .int .i64 b, .int .i64 c, .string str] 125 (0, 0)) := by
      rw [hW]
      show ((w.alloc _).alloc _).heap[w.heap.size]? = _
      rw [Below.heap_alloc _ _ _ (by simp)]
      exact heap_alloc_new _ _
    have hb : Below w.heap.size w W := by rw [hW]; exact (((Below.refl _ _).alloc (Nat.le_refl _) _).alloc (by simp) _).drew
    rw [← hW]
    refine (gj_Drain a W (h.q.below K.k hb).gj hi).mono ?_
    rintro e w1 ⟨rfl, hn⟩
    obtain ⟨s1, q1, g1, k1, n1⟩ := h.q.prog K.k hb hn
    have hz1 := (k1 _ (by omega) (by omega)).trans hz
    refine ⟨rfl, hz1, fun u0 u1 u2 u3 => QMid.write K q1 g1 ((k1 _ (by omega) (by omega)).trans ho) hB (fr_cells4 (S := fun k => k = w.heap.size + 1) (Fr.refl _ _) rfl _ _ _ _) fun k hk => ⟨by omega, fun hh => ?_, ?_⟩⟩
    · rcases n1 k hh with hh | hh
      · have := h.q.lt hh; omega
      · omega
    · rw [hk]
      exact ⟨_, _, hz1, by decide, by decide⟩
  · refine (gd_Drain K.k a w1.drew (hq.gd K) hi).mono ?_
    rintro e w2 ⟨rfl, ho⟩
    rw [b2] at ho
    obtain ⟨s1, q1, g1, _⟩ := hq
    obtain ⟨d1, q2, g2, k2, _⟩ := q1.doc K.k (Below.refl _ _).drew ho
    refine ⟨by rw [← b1, ← b2]; rfl, (k2 X (heap_lt hox) (hdl hX)).trans hox, fun o2 => ⟨_, _, _, s1, d1, ⟨q2.below K.k ((Below.refl _ _).alloc (Nat.le_refl _) _), b3⟩, g1.trans (g2.trans (Grown.below ((Below.refl _ _).alloc (Nat.le_refl _) _)))⟩⟩
  · obtain ⟨s1, q1, g1, _⟩ := hq
    obtain ⟨W, hW⟩ : ∃ W, W = (w1.alloc (.cells #[.int .i64 0, .int .i64 0, .int .i64 0, .int .i64 0] 83)).drew := ⟨_, rfl⟩
    have hs : W.heap.size = w1.heap.size + 1 := by rw [hW]; show (w1.alloc _).heap.size = _; simp
    have hz : W.heap[w1.heap.size]? = some (.cells #[.int .i64 0, .int .i64 0, .int .i64 0, .int .i64 0] 83 (0, 0)) := by rw [hW]; exact heap_alloc_new _ _
    have hb : Below w1.heap.size w1 W := by rw [hW]; exact ((Below.refl _ _).alloc (Nat.le_refl _) _).drew
    have hX1 := heap_lt hox
    have hg := g1.fr.size
    rw [← hW]
    refine (gd_Drain K.k a W (q1.below K.k hb).gd hi).mono ?_
    rintro e w2 ⟨rfl, ho⟩
    rw [b2] at ho
    obtain ⟨d1, q2, g2, k2, n2⟩ := q1.doc K.k hb ho
    have hz2 := (k2 w1.heap.size (by omega) (hdl (by omega))).trans hz
    have hx2 := (k2 X (by omega) (hdl hX)).trans ((hb.block X hX1).trans hox)
    refine ⟨by rw [← b1, ← b2]; rfl, hz2, fun u0 u1 u2 u3 => ⟨?_, _, _, _, s1, d1, ⟨q2.write K.k (fr_cells4 (S := fun k => k = w1.heap.size) (Fr.refl _ _) rfl _ _ _ _) fun k _ hk => ⟨fun hh => ?_, by omega, ?_⟩, b3⟩, g1.trans (g2.write (fr_cells4 (S := fun k => k = w1.heap.size) (Fr.refl _ _) rfl _ _ _ _) fun k hk => by omega)⟩⟩
    · have hne : X ≠ w1.heap.size := by omega
      rw [Below.heap_setCell _ _ _ _ hne, Below.heap_setCell _ _ _ _ hne, Below.heap_setCell _ _ _ _ hne, Below.heap_setCell _ _ _ _ hne]
      exact hx2
    · rcases n2 k hh with hh | hh
      · have := q1.lt hh; omega
      · omega
    · rw [hk]
      exact ⟨_, _, hz2, by decide, by decide⟩
  · obtain ⟨s1, q1, _, k1⟩ := hq
    exact ⟨(cell_of_heap q1.p).trans rfl, k1, heap_lt q1.p⟩
end
end Go.Proofs.Ytmmmnghiegajmaa
/- The document makes the call of a record that stands. -/
namespace Go.Proofs.Ytmmmnghiegajmaa
open Go.RowKit Go.Proofs.Herald
section
variable {RT : Type} {M : Mode RT} {G : RT → Prop} {CB : World → Prop} {i : Nat} {h : Her RT} {J : List Nat} {S Q : Nat} {s : DS}
/-- New memory ahead of a call counts for nothing. -/
theorem GDNext.back {h' : Her RT} {J' : List Nat} {w W w' : World} (hW : Below w.heap.size w W) (ho : GDNext M G CB i h' J' W S Q s w') : GDNext M G CB i h' J' w S Q s w' := by
  obtain ⟨s', g, hg, hf⟩ := ho
  have hz := hW.size
  exact ⟨s', g, fun k hk => (hg k hk).imp id fun hh => by omega, ((Fr.of_below hW).mono fun k hk hs => by omega).trans hf⟩
set_option maxRecDepth 20000 in
set_option maxHeartbeats 4000000 in
theorem d_again_t (K : KindJ M G CB) (L : List Nat) (hL : ∀ x ∈ L, x < 256) (hl : L.length = 19) (a : Int) (hr : readB L = some (84, a, 0)) (w : World) (g : GD M G CB i h J w S Q s) (hi : i ≤ 2000000) :
    Calls Try.prog 96 #[.pointer (some ⟨S, 0, none⟩), .string (strN L)] w fun e w' => e = .returned (.bool ((trigH M.E h a).2.1 == 0)) ∧ GDNext M G CB i (trigH M.E h a).2.2 (noteJ (trigH M.E h a).2.1 J 84 a 0) w S Q s w' := by
  obtain ⟨hz, n0, HK, HA, HB⟩ := d_again_in hL hl hr
  have h0 : 0 < (strN L).size := by omega
  have n1 := n0 h0
  have HC : Hid (∀ W, Below w.heap.size w W → Calls Try.prog 90 #[.pointer (some ⟨S, 0, none⟩), .int .i64 a] W fun e w' => e = .returned (.tuple #[.int .i64 (trigH M.E h a).1, .int .i64 (trigH M.E h a).2.1]) ∧ GDNext M G CB i (trigH M.E h a).2.2 (noteJ (trigH M.E h a).2.1 J 84 a 0) w S Q s w') := fun W hW =>
    (gd_Trigger K a W (g.below K hW) hi).mono fun e w' hh => ⟨hh.1, GDNext.back hW hh.2⟩
  clear g hL hl hr n0
  generalize trigH M.E h a = T at *
  generalize strN L = Z at *
  go_enter Try.func96, Try.ntmps96
  go_wp2_with fail
  refine (HK.out _).mono ?_
  rintro e w1 ⟨rfl, b1⟩
  have HB1 : Hid (Below w.heap.size w w1) := b1
  clear b1 HK
  go_wp2_with fail
  refine (HA.out _).mono ?_
  rintro e w2 ⟨rfl, hw⟩
  rw [hw]
  clear hw HA
  go_wp2_with fail
  refine (HB.out _).mono ?_
  rintro e w2 ⟨rfl, hw⟩
  rw [hw]
  clear hw HB
  go_wp2_with fail
  refine (HC.out _ HB1.out).mono ?_
  rintro e w3 ⟨rfl, ho⟩
  have HO : Hid (GDNext M G CB i T.2.2 (noteJ T.2.1 J 84 a 0) w S Q s w3) := ho
  clear ho HC
  go_wp2_with fail
  go_ret
  exact ⟨rfl, HO.out⟩
set_option maxRecDepth 20000 in
set_option maxHeartbeats 4000000 in
theorem d_again_k (K : KindJ M G CB) (L : List Nat) (hL : ∀ x ∈ L, x < 256) (hl : L.length = 19) (a : Int) (hr : readB L = some (75, a, 0)) (w : World) (g : GD M G CB i h J w S Q s) (hi : i ≤ 2000000) :
    Calls Try.prog 96 #[.pointer (some ⟨S, 0, none⟩), .string (strN L)] w fun e w' => e = .returned (.bool ((tickH M.E h a).1 == 0)) ∧ GDNext M G CB i (tickH M.E h a).2 (noteJ (tickH M.E h a).1 J 75 a 0) w S Q s w' := by
  obtain ⟨hz, n0, HK, HA, HB⟩ := d_again_in hL hl hr
  have h0 : 0 < (strN L).size := by omega
  have n1 := n0 h0
  have HC : Hid (∀ W, Below w.heap.size w W → Calls Try.prog 91 #[.pointer (some ⟨S, 0, none⟩), .int .i64 a] W fun e w' => e = .returned (.int .i64 (tickH M.E h a).1) ∧ GDNext M G CB i (tickH M.E h a).2 (noteJ (tickH M.E h a).1 J 75 a 0) w S Q s w') := fun W hW =>
    (gd_Tick K a W (g.below K hW) hi).mono fun e w' hh => ⟨hh.1, GDNext.back hW hh.2⟩
  clear g hL hl hr n0
  generalize tickH M.E h a = T at *
  generalize strN L = Z at *
  go_enter Try.func96, Try.ntmps96
  go_wp2_with fail
  refine (HK.out _).mono ?_
  rintro e w1 ⟨rfl, b1⟩
  have HB1 : Hid (Below w.heap.size w w1) := b1
  clear b1 HK
  go_wp2_with fail
  refine (HA.out _).mono ?_
  rintro e w2 ⟨rfl, hw⟩
  rw [hw]
  clear hw HA
  go_wp2_with fail
  refine (HB.out _).mono ?_
  rintro e w2 ⟨rfl, hw⟩
  rw [hw]
  clear hw HB
  go_wp2_with fail
  refine (HC.out _ HB1.out).mono ?_
  rintro e w3 ⟨rfl, ho⟩
  have HO : Hid (GDNext M G CB i T.2 (noteJ T.1 J 75 a 0) w S Q s w3) := ho
  clear ho HC
  go_wp2_with fail
  go_ret
  exact ⟨rfl, HO.out⟩
set_option maxRecDepth 20000 in
set_option maxHeartbeats 4000000 in
theorem d_again_a (K : KindJ M G CB) (L : List Nat) (hL : ∀ x ∈ L, x < 256) (hl : L.length = 19) (a b : Int) (hr : readB L = some (65, a, b)) (w : World) (g : GD M G CB i h J w S Q s) (hi : i ≤ 2000000) :
    Calls Try.prog 96 #[.pointer (some ⟨S, 0, none⟩), .string (strN L)] w fun e w' => e = .returned (.bool ((ackH M.E h a b).1 == 0)) ∧ GDNext M G CB i (ackH M.E h a b).2 (noteJ (ackH M.E h a b).1 J 65 a b) w S Q s w' := by
  obtain ⟨hz, n0, HK, HA, HB⟩ := d_again_in hL hl hr
  have h0 : 0 < (strN L).size := by omega
  have n1 := n0 h0
  have HC : Hid (∀ W, Below w.heap.size w W → Calls Try.prog 92 #[.pointer (some ⟨S, 0, none⟩), .int .i64 a, .int .i64 b] W fun e w' => e = .returned (.int .i64 (ackH M.E h a b).1) ∧ GDNext M G CB i (ackH M.E h a b).2 (noteJ (ackH M.E h a b).1 J 65 a b) w S Q s w') := fun W hW =>
    (gd_Ack K a b W (g.below K hW) hi).mono fun e w' hh => ⟨hh.1, GDNext.back hW hh.2⟩
  clear g hL hl hr n0
  generalize ackH M.E h a b = T at *
  generalize strN L = Z at *
  go_enter Try.func96, Try.ntmps96
  go_wp2_with fail
  refine (HK.out _).mono ?_
  rintro e w1 ⟨rfl, b1⟩
  have HB1 : Hid (Below w.heap.size w w1) := b1
  clear b1 HK
  go_wp2_with fail
  refine (HA.out _).mono ?_
  rintro e w2 ⟨rfl, hw⟩
  rw [hw]
  clear hw HA
  go_wp2_with fail
  refine (HB.out _).mono ?_
  rintro e w2 ⟨rfl, hw⟩
  rw [hw]
  clear hw HB
  go_wp2_with fail
  refine (HC.out _ HB1.out).mono ?_
  rintro e w3 ⟨rfl, ho⟩
  have HO : Hid (GDNext M G CB i T.2 (noteJ T.1 J 65 a b) w S Q s w3) := ho
  clear ho HC
  go_wp2_with fail
  go_ret
  exact ⟨rfl, HO.out⟩
set_option maxRecDepth 20000 in
set_option maxHeartbeats 4000000 in
theorem d_again_c (K : KindJ M G CB) (L : List Nat) (hL : ∀ x ∈ L, x < 256) (hl : L.length = 19) (a : Int) (hr : readB L = some (67, a, 0)) (w : World) (g : GD M G CB i h J w S Q s) (hi : i ≤ 2000000) :
    Calls Try.prog 96 #[.pointer (some ⟨S, 0, none⟩), .string (strN L)] w fun e w' => e = .returned (.bool ((cancelH M.E h a).1 == 0)) ∧ GDNext M G CB i (cancelH M.E h a).2 (noteJ (cancelH M.E h a).1 J 67 a 0) w S Q s w' := by
  obtain ⟨hz, n0, HK, HA, HB⟩ := d_again_in hL hl hr
  have h0 : 0 < (strN L).size := by omega
  have n1 := n0 h0
  have HC : Hid (∀ W, Below w.heap.size w W → Calls Try.prog 93 #[.pointer (some ⟨S, 0, none⟩), .int .i64 a] W fun e w' => e = .returned (.int .i64 (cancelH M.E h a).1) ∧ GDNext M G CB i (cancelH M.E h a).2 (noteJ (cancelH M.E h a).1 J 67 a 0) w S Q s w') := fun W hW =>
    (gd_Cancel K a W (g.below K hW) hi).mono fun e w' hh => ⟨hh.1, GDNext.back hW hh.2⟩
  clear g hL hl hr n0
  generalize cancelH M.E h a = T at *
  generalize strN L = Z at *
  go_enter Try.func96, Try.ntmps96
  go_wp2_with fail
  refine (HK.out _).mono ?_
  rintro e w1 ⟨rfl, b1⟩
  have HB1 : Hid (Below w.heap.size w w1) := b1
  clear b1 HK
  go_wp2_with fail
  refine (HA.out _).mono ?_
  rintro e w2 ⟨rfl, hw⟩
  rw [hw]
  clear hw HA
  go_wp2_with fail
  refine (HB.out _).mono ?_
  rintro e w2 ⟨rfl, hw⟩
  rw [hw]
  clear hw HB
  go_wp2_with fail
  refine (HC.out _ HB1.out).mono ?_
  rintro e w3 ⟨rfl, ho⟩
  have HO : Hid (GDNext M G CB i T.2 (noteJ T.1 J 67 a 0) w S Q s w3) := ho
  clear ho HC
  go_wp2_with fail
  go_ret
  exact ⟨rfl, HO.out⟩
set_option maxRecDepth 20000 in
set_option maxHeartbeats 4000000 in
theorem d_again_d (K : KindJ M G CB) (L : List Nat) (hL : ∀ x ∈ L, x < 256) (hl : L.length = 19) (a : Int) (hr : readB L = some (68, a, 0)) (w : World) (g : GD M G CB i h J w S Q s) (hi : i ≤ 2000000) :
    Calls Try.prog 96 #[.pointer (some ⟨S, 0, none⟩), .string (strN L)] w fun e w' => e = .returned (.bool ((drainH h a).2.1 == 0)) ∧ GDNext M G CB i (drainH h a).2.2 (noteJ (drainH h a).2.1 J 68 a 0) w S Q s w' := by
  obtain ⟨hz, n0, HK, HA, HB⟩ := d_again_in hL hl hr
  have h0 : 0 < (strN L).size := by omega
  have n1 := n0 h0
  have HC : Hid (∀ W, Below w.heap.size w W → Calls Try.prog 94 #[.pointer (some ⟨S, 0, none⟩), .int .i64 a] W fun e w' => e = .returned (.tuple #[.agg #[.int .i64 (drainH h a).1.dev, .int .i64 (drainH h a).1.run, .int .i64 (drainH h a).1.num, .int .i64 (drainH h a).1.key], .int .i64 (drainH h a).2.1]) ∧ GDNext M G CB i (drainH h a).2.2 (noteJ (drainH h a).2.1 J 68 a 0) w S Q s w') := fun W hW =>
    (gd_Drain K a W (g.below K hW) hi).mono fun e w' hh => ⟨hh.1, GDNext.back hW hh.2⟩
  clear g hL hl hr n0
  generalize drainH h a = T at *
  generalize strN L = Z at *
  go_enter Try.func96, Try.ntmps96
  go_wp2_with fail
  refine (HK.out _).mono ?_
  rintro e w1 ⟨rfl, b1⟩
  have HB1 : Hid (Below w.heap.size w w1) := b1
  clear b1 HK
  go_wp2_with fail
  refine (HA.out _).mono ?_
  rintro e w2 ⟨rfl, hw⟩
  rw [hw]
  clear hw HA
  go_wp2_with fail
  refine (HB.out _).mono ?_
  rintro e w2 ⟨rfl, hw⟩
  rw [hw]
  clear hw HB
  go_wp2_with fail
  refine (HC.out _ HB1.out).mono ?_
  rintro e w3 ⟨rfl, ho⟩
  have HO : Hid (GDNext M G CB i T.2.2 (noteJ T.2.1 J 68 a 0) w S Q s w3) := ho
  clear ho HC
  go_wp2_with fail
  go_ret
  exact ⟨rfl, HO.out⟩
/-- A record's call is made. -/
theorem d_again_yes (K : KindJ M G CB) (L : List Nat) (hL : ∀ x ∈ L, x < 256) (hl : L.length = 19) (c : Nat) (a b : Int) (hr : readB L = some (c, a, b)) (w : World) (g : GD M G CB i h J w S Q s) (hi : i ≤ 2000000) :
    Calls Try.prog 96 #[.pointer (some ⟨S, 0, none⟩), .string (strN L)] w fun e w' => e = .returned (.bool ((callE M.E h c a b).1 == 0)) ∧ GDNext M G CB i (callE M.E h c a b).2 (noteJ (callE M.E h c a b).1 J c a b) w S Q s w' := by
  have hc := (readB_some hr).2
  unfold isC at hc
  by_cases h1 : c = 84
  · subst h1
    obtain rfl : b = 0 := by simpa using hc
    exact d_again_t K L hL hl a hr w g hi
  by_cases h2 : c = 75
  · subst h2
    obtain rfl : b = 0 := by simpa using hc
    exact d_again_k K L hL hl a hr w g hi
  by_cases h3 : c = 65
  · subst h3
    exact d_again_a K L hL hl a b hr w g hi
  by_cases h4 : c = 67
  · subst h4
    obtain rfl : b = 0 := by simpa using hc
    exact d_again_c K L hL hl a hr w g hi
  by_cases h5 : c = 68
  · subst h5
    obtain rfl : b = 0 := by simpa using hc
    exact d_again_d K L hL hl a hr w g hi
  · rw [if_neg (by omega)] at hc
    simp at hc
    omega
end
end Go.Proofs.Ytmmmnghiegajmaa
/- The document makes the calls of a whole journal again. -/
namespace Go.Proofs.Ytmmmnghiegajmaa
open Go.RowKit Go.Proofs.Herald
section
variable {RT : Type} {M : Mode RT} {G : RT → Prop} {CB : World → Prop} {S Q : Nat} {s : DS}
/-- What the document's herald keeps while records are done again. -/
structure AgainAt (M : Mode RT) (G : RT → Prop) (CB : World → Prop) (w : World) (S Q : Nat) (s : DS) (k : Nat) (h : Her RT) (J : List Nat) (wr : World) : Prop where
  ex : ∃ s' : DS, GD M G CB k h J wr S Q s' ∧ ∀ b, s'.own S Q b → s.own S Q b ∨ w.heap.size ≤ b
  fr : Fr (s.own S Q) w wr
theorem AgainAt.step {w wr w' : World} {k : Nat} {h' : Her RT} {J' : List Nat} {s' : DS} (hg : ∀ b, s'.own S Q b → s.own S Q b ∨ w.heap.size ≤ b) (hf : Fr (s.own S Q) w wr) (hn : GDNext M G CB k h' J' wr S Q s' w') : AgainAt M G CB w S Q s (k + 1) h' J' w' := by
  obtain ⟨s1, g1, o1, f1⟩ := hn
  have hz := hf.size
  refine ⟨⟨s1, g1, fun b hb => ?_⟩, ?_⟩
  · rcases o1 b hb with h | h
    · exact hg b h
    · exact .inr (by omega)
  · have a1 : Fr (fun b => s.own S Q b ∨ w.heap.size ≤ b) w wr := hf.mono fun b _ hb => .inl hb
    have a2 : Fr (fun b => s.own S Q b ∨ w.heap.size ≤ b) wr w' := f1.mono fun b _ hb => hg b hb
    exact (a1.trans a2).mono fun b hb hs => by
      rcases hs with h | h
      · exact h
      · omega
theorem AgainAt.below (K : KindJ M G CB) {w wr w' : World} {k : Nat} {h : Her RT} {J : List Nat} (a : AgainAt M G CB w S Q s k h J wr) (hb : Below wr.heap.size wr w') : AgainAt M G CB w S Q s k h J w' := by
  obtain ⟨⟨s1, g1, o1⟩, f1⟩ := a
  exact ⟨⟨s1, g1.below K hb, o1⟩, f1.trans ((Fr.of_below hb).mono fun k hk hs => by omega)⟩
set_option maxRecDepth 20000 in
set_option maxHeartbeats 8000000 in
theorem d_Again (K : KindJ M G CB) (L : List Nat) (hL : ∀ x ∈ L, x < 256) (hl : L.length ≤ 20000000) (w : World) (g : GD M G CB 0 newH [] w S Q s) :
    Calls Try.prog 63 #[.pointer (some ⟨S, 0, none⟩), .string (strN L)] w fun e w' => ∃ m, e = .returned (.int .i64 ((openE M.E (chunks L 0 (L.length / 19)) newH [] 0).2.2 : Nat)) ∧ m ≤ L.length / 19 ∧ AgainAt M G CB w S Q s m (openE M.E (chunks L 0 (L.length / 19)) newH [] 0).1 (openE M.E (chunks L 0 (L.length / 19)) newH [] 0).2.1 w' := by
  obtain ⟨N, hN⟩ : ∃ N, N = L.length / 19 := ⟨_, rfl⟩
  rw [← hN]
  generalize hRR : openE M.E (chunks L 0 N) newH [] 0 = R
  have HRE : Hid (openE M.E (chunks L 0 N) newH [] 0 = R) := hRR
  have HX : Hid (∀ x ∈ L, x < 256) := hL
  have HG : Hid (AgainAt M G CB w S Q s 0 newH [] w) := ⟨⟨s, g, fun b hb => .inl hb⟩, Fr.refl _ _⟩
  have HK : Hid (KindJ M G CB) := K
  clear g hL hRR K
  go_enter Try.func63, Try.ntmps63
  go_wp2_with fail
  go_loopw [1, 5] (fun jv nv wr => ∃ (k : Nat) (h : Her RT) (J : List Nat), k ≤ N ∧ nv = .int .i64 (k : Nat) ∧ jv = .string (strN (L.drop (k * 19))) ∧ Hid (openE M.E (chunks L k (N - k)) h J k = R ∧ AgainAt M G CB w S Q s k h J wr)) (fun _ nv _ => N - (intOf nv).toNat)
  case atStart => exact ⟨0, newH, [], Nat.zero_le _, rfl, by rw [Nat.zero_mul, List.drop_zero], HRE.out, HG.out⟩
  case round =>
    clear HG
    obtain ⟨k, h, J, hk, rfl, rfl, HI⟩ := hrel
    have hz : (strN (L.drop (k * 19))).size = L.length - k * 19 := by rw [strN_size, List.length_drop]
    have HE1 : Hid ((strN (L.drop (k * 19))).extract 0 19 = strN (chunk L k)) := by
      show _ = _
      rw [strN_extract]
      rfl
    have HE2 : Hid ((strN (L.drop (k * 19))).extract 19 (L.length - k * 19) = strN (L.drop ((k + 1) * 19))) := by
      show _ = _
      rw [strN_extract, List.drop_drop, List.take_of_length_le (by rw [List.length_drop]; omega), show k * 19 + 19 = (k + 1) * 19 by omega]
    generalize strN (L.drop (k * 19)) = Z at *
    by_cases hlt : k < N
    · have hc1 : k * 19 + 19 ≤ L.length := by omega
      have hz19 : 19 ≤ Z.size := by omega
      obtain ⟨n', hn'⟩ : ∃ n', N - k = n' + 1 := ⟨N - k - 1, by omega⟩
      have hn2 : N - (k + 1) = n' := by omega
      have hcl : (chunk L k).length = 19 := chunk_len hc1
      have hcb : ∀ x ∈ chunk L k, x < 256 := sub_lt HX.out (k * 19) 19
      have HST : Hid (openE M.E (chunk L k :: chunks L (k + 1) n') h J k = R) := by
        have := HI.out.1
        rw [hn'] at this
        exact this
      obtain ⟨⟨s', g', hg'⟩, hf'⟩ := HI.out.2
      cases hr : readB (chunk L k) with
      | none =>
        have HC := (show Hid _ from d_again_no S (chunk L k) hcb hcl hr wr : Hid (Calls Try.prog 96 #[.pointer (some ⟨S, 0, none⟩), .string (strN (chunk L k))] wr _))
        rw [← HE1.out] at HC
        have HRR : Hid (R = (h, J, k)) := by
          have := HST.out
          unfold openE at this
          rw [hr] at this
          exact this.symm
        clear hr hcb hcl hn' hn2 g' hg' hf'
        go_wp2_with fail
        refine HC.out.mono ?_
        rintro e w2 ⟨rfl, b2⟩
        have HA2 : Hid (AgainAt M G CB w S Q s k h J w2) := HI.out.2.below HK.out b2
        clear b2 HC
        go_wp2_with fail
        go_ret
        rw [HRR.out]
        exact ⟨k, rfl, hk, HA2.out⟩
      | some q =>
        obtain ⟨c, a, b⟩ := q
        have HC : Hid (Calls Try.prog 96 #[.pointer (some ⟨S, 0, none⟩), .string (strN (chunk L k))] wr fun e w' => e = .returned (.bool ((callE M.E h c a b).1 == 0)) ∧ AgainAt M G CB w S Q s (k + 1) (callE M.E h c a b).2 (noteJ (callE M.E h c a b).1 J c a b) w') := (d_again_yes HK.out (chunk L k) hcb hcl c a b hr wr g' (by omega)).mono fun e w' hh => ⟨hh.1, AgainAt.step hg' hf' hh.2⟩
        rw [← HE1.out] at HC
        have HRR : Hid ((if (callE M.E h c a b).1 = 0 then openE M.E (chunks L (k + 1) n') (callE M.E h c a b).2 (noteJ (callE M.E h c a b).1 J c a b) (k + 1) else ((callE M.E h c a b).2, noteJ (callE M.E h c a b).1 J c a b, k)) = R) := by
          have := HST.out
          unfold openE at this
          rw [hr] at this
          exact this
        generalize noteJ (callE M.E h c a b).1 J c a b = J' at *
        generalize callE M.E h c a b = P at *
        clear hr hcb hcl hn' g' hg' hf'
        by_cases he : P.1 = 0
        · have be : (P.1 == 0) = true := by simpa using he
          have HR2 : Hid (openE M.E (chunks L (k + 1) (N - (k + 1))) P.2 J' (k + 1) = R) := by
            have := HRR.out
            rw [if_pos he] at this
            rw [hn2]
            exact this
          rw [be] at HC
          clear he hn2
          go_wp2_with fail
          refine HC.out.mono ?_
          rintro e w2 ⟨rfl, b2⟩
          have HA2 : Hid (AgainAt M G CB w S Q s (k + 1) P.2 J' w2) := b2
          clear b2 HC
          go_wp2_with fail
          go_roundw
          case rel => exact ⟨k + 1, P.2, J', by omega, by go_num, by rw [HE2.out], HR2.out, HA2.out⟩
          case measure => simp [intOf]; omega
        · have be : (P.1 == 0) = false := by simpa using he
          have HR2 : Hid (R = (P.2, J', k)) := by
            have := HRR.out
            rw [if_neg he] at this
            exact this.symm
          rw [be] at HC
          clear he hn2
          go_wp2_with fail
          refine HC.out.mono ?_
          rintro e w2 ⟨rfl, b2⟩
          have HA2 : Hid (AgainAt M G CB w S Q s (k + 1) P.2 J' w2) := b2
          clear b2 HC
          go_wp2_with fail
          go_ret
          rw [HR2.out]
          exact ⟨k + 1, rfl, hlt, HA2.out⟩
    · have HRR : Hid (R = (h, J, k)) := by
        have := HI.out.1
        rw [show N - k = 0 by omega] at this
        exact this.symm
      have hc1 : Z.size < 19 := by omega
      go_wp2_with fail
      go_ret
      rw [HRR.out]
      exact ⟨k, rfl, hk, HI.out.2⟩
end
end Go.Proofs.Ytmmmnghiegajmaa
/- A journal is opened, and held against the document's herald. -/
namespace Go.Proofs.Ytmmmnghiegajmaa
open Go.RowKit Go.Proofs.Herald
set_option maxRecDepth 20000 in
set_option maxHeartbeats 4000000 in
theorem x_Open_no (b off cap : Nat) (cs : List Ins) (j : ByteArray) (w : World) (hc : CodeIn w (some ⟨b, off, none⟩) b off cs) (hs : soundL cs = false) :
    Calls Try.prog 62 #[.slice (some ⟨b, off, none⟩) cs.length cap, .string j] w fun e w' => e = .returned (.tuple #[.pointer none, .int .i64 0, .int .i64 7]) ∧ Below w.heap.size w w' := by
  have HN := (show Hid _ from c_New_no b off cap cs w hc hs : Hid (Calls Try.prog 27 #[.slice (some ⟨b, off, none⟩) cs.length cap] w _))
  clear hc hs
  go_enter Try.func62, Try.ntmps62
  go_wp2_with fail
  refine HN.out.mono ?_
  rintro e w1 ⟨rfl, b1⟩
  have HB : Hid (Below w.heap.size w w1) := b1
  clear b1 HN
  go_wp2_with fail
  go_ret3
  exact ⟨rfl, HB.out⟩
set_option maxRecDepth 20000 in
set_option maxHeartbeats 4000000 in
theorem opened_no (a : Option Addr) (b off cap : Nat) (cs : List Ins) (j : ByteArray) (S : Nat) (w : World) (hc : CodeIn w a b off cs) (hm : cs.length ≤ 4398046511000) (hs : soundL cs = false) :
    Calls Try.prog 22 #[.slice a cs.length cap, .string j, .pointer (some ⟨S, 0, none⟩)] w fun e w' => e = .returned (.tuple #[.pointer none, .bool true]) ∧ Below w.heap.size w w' := by
  have HC : Hid (CodeIn w a b off cs) := hc
  have HS : Hid (soundL cs = false) := hs
  clear hc hs
  go_enter Try.func22, Try.ntmps22
  go_wp2_with fail
  refine (handed_any a b off cap cs _ HC.out hm).mono ?_
  rintro e w1 ⟨X, hX, rfl, hg1, hb1⟩
  have H1 : Hid (w1.heap[X]? = some (.cells (codeCells (cs ++ [foreignI, foreignI])).toArray 128 (0, 0)) ∧ Below w.heap.size w w1 ∧ CodeIn w1 (some ⟨X, 0, none⟩) X 0 cs ∧ CodeIn w1 a b off cs) :=
    ⟨hg1, hb1, fun _ => ⟨rfl, heap_lt hg1, codeAt_of_heap (rest := codeCells [foreignI, foreignI]) (by rw [← codeCells_append]; exact hg1)⟩, HC.out.keep hb1⟩
  clear hg1 hb1
  go_wp2_with fail
  refine (x_Open_no X 0 _ cs j _ H1.out.2.2.1 HS.out).mono ?_
  rintro e w2 ⟨rfl, hb2⟩
  have H2 : Hid (w2.heap[X]? = some (.cells (codeCells (cs ++ [foreignI, foreignI])).toArray 128 (0, 0)) ∧ Below w.heap.size w w2 ∧ CodeIn w2 a b off cs) :=
    ⟨(hb2.block X (heap_lt H1.out.1)).trans H1.out.1, H1.out.2.1.trans (hb2.mono H1.out.2.1.size), H1.out.2.2.2.keep hb2⟩
  clear hb2 H1
  go_wp2_with fail
  refine (still_any a X b off cap cs _ hm H2.out.1 H2.out.2.2).mono ?_
  rintro e w3 ⟨rfl, hb3⟩
  have H3 : Hid (w3.heap[X]? = some (.cells (codeCells (cs ++ [foreignI, foreignI])).toArray 128 (0, 0)) ∧ Below w.heap.size w w3 ∧ CodeIn w3 a b off cs) :=
    ⟨(hb3.block X (heap_lt H2.out.1)).trans H2.out.1, H2.out.2.1.trans (hb3.mono H2.out.2.1.size), H2.out.2.2.keep hb3⟩
  clear hb3 H2
  go_wp2_with fail
  refine (spoil_any X cs.length _ (cs ++ [foreignI, foreignI]) _ (by simp) hm H3.out.1).mono ?_
  rintro e w4 ⟨rfl, hf4⟩
  have H4 : Hid (Below w.heap.size w w4 ∧ CodeIn w4 a b off cs) :=
    ⟨H3.out.2.1.trans ((hf4.mono (fun k _ hk => by show w.heap.size ≤ k; omega)).below H3.out.2.1.size), H3.out.2.2.fr hf4 (fun hp => by have := (HC.out hp).2.1; omega)⟩
  clear hf4 H3
  go_wp2_with fail
  refine (Sound_any a b off cap cs _ H4.out.2).mono ?_
  rw [HS.out]
  rintro e w5 ⟨rfl, hb5⟩
  have H5 : Hid (Below w.heap.size w w5) := H4.out.1.trans (hb5.mono H4.out.1.size)
  clear hb5 H4
  go_wp2_with fail
  go_ret2
  exact ⟨rfl, H5.out⟩
/-- Behind an opening: both heralds, and that they are the same. -/
def Opened {RT : Type} (M : Mode RT) (G : RT → Prop) (ρ : RT → Pr → Prop) (CB : World → Prop) (cs : List Ins) (N : Nat) (w : World) (S Q : Nat) (d : DS) (H : Nat) (w' : World) : Prop :=
  ∃ hm hd J s1 d1, GJ cs N hm J w' H s1 ∧ GD M G CB N hd J w' S Q d1 ∧ SameHer ρ hd hm ∧ (∀ k, s1.own H k → w.heap.size ≤ k) ∧ (∀ k, s1.own H k → ¬ d1.own S Q k) ∧ (∀ k, d1.own S Q k → d.own S Q k ∨ w.heap.size ≤ k) ∧ Fr (d.own S Q) w w'
theorem Opened.drew {RT : Type} {M : Mode RT} {G : RT → Prop} {ρ : RT → Pr → Prop} {CB : World → Prop} {cs : List Ins} {N : Nat} {w w' : World} {S Q : Nat} {d : DS} {H : Nat} (h : Opened M G ρ CB cs N w S Q d H w') (K : KindJ M G CB) : Opened M G ρ CB cs N w S Q d H w'.drew := by
  obtain ⟨hm, hd, J, s1, d1, h1, h2, h3, h4, h5, h6, h7⟩ := h
  have hb : Below w'.heap.size w' w'.drew := (Below.refl _ _).drew
  exact ⟨hm, hd, J, s1, d1, h1.keep fun k hk => hb.block k (h1.lt hk), h2.below K hb, h3, h4, h5, h6, h7.trans ((Fr.of_below hb).mono fun k hk hs => by omega)⟩
theorem GJ.le {cs : List Ins} {i j : Nat} {h : Her Pr} {J : List Nat} {w : World} {H : Nat} {s : HS} (g : GJ cs i h J w H s) (hj : i ≤ j) : GJ cs j h J w H s :=
  ⟨⟨g.ga.fh, by have := g.ga.n; omega, g.ga.snd, g.ga.ok.mono (by omega), g.ga.qs, by have := g.ga.last; omega⟩, g.r, by have := g.len; omega⟩
set_option maxRecDepth 20000 in
set_option maxHeartbeats 8000000 in
theorem opened_yes {RT : Type} {M : Mode RT} {G : RT → Prop} {ρ : RT → Pr → Prop} {CB : World → Prop} {cs : List Ins} (K : KindP M G ρ CB cs) (a : Option Addr) (b off cap : Nat) (L : List Nat) (hL : ∀ x ∈ L, x < 256) (hl : L.length ≤ 20000000) (S Q : Nat) (d : DS) (w : World) (hc : CodeIn w a b off cs) (hs : soundL cs = true) (g : GD M G CB 0 newH [] w S Q d) (hbd : 0 < cs.length → ¬ d.own S Q b) :
    Calls Try.prog 22 #[.slice a cs.length cap, .string (strN L), .pointer (some ⟨S, 0, none⟩)] w fun e w' => ∃ H, e = .returned (.tuple #[.pointer (some ⟨H, 0, none⟩), .bool true]) ∧ w.heap.size ≤ H ∧ Opened M G ρ CB cs (L.length / 19) w S Q d H w' := by
  have hm : cs.length ≤ 4398046511000 := by
    rcases Nat.lt_or_ge 1000 cs.length with h | h
    · rw [soundL_long h] at hs; cases hs
    · omega
  have HC : Hid (CodeIn w a b off cs ∧ (0 < cs.length → ¬ d.own S Q b)) := ⟨hc, hbd⟩
  have HS : Hid (soundL cs = true) := hs
  have HL : Hid ((∀ x ∈ L, x < 256) ∧ L.length ≤ 20000000) := ⟨hL, hl⟩
  have HG : Hid (GD M G CB 0 newH [] w S Q d) := g
  have HB : Hid (M.B0 ≤ w.heap.size) := Nat.le_trans (g.sim.base S (.inl rfl)) (Nat.le_of_lt (g.lt (.inl rfl)))
  obtain ⟨E, hE⟩ : ∃ E, E = openE (machE cs) (chunks L 0 (L.length / 19)) newH [] 0 := ⟨_, rfl⟩
  obtain ⟨D, hD⟩ : ∃ D, D = openE M.E (chunks L 0 (L.length / 19)) newH [] 0 := ⟨_, rfl⟩
  have HSM : Hid (SameHer ρ D.1 E.1 ∧ D.2.1 = E.2.1) := by
    obtain ⟨q1, q2⟩ := open_same K.hE (chunks L 0 (L.length / 19)) [] 0 (SameHer.new ρ)
    rw [← hE, ← hD] at q1 q2
    exact ⟨q1, by rw [q2]⟩
  have hnm : D.2.2 = E.2.2 := by
    have q2 := (open_same K.hE (chunks L 0 (L.length / 19)) [] 0 (SameHer.new ρ)).2
    rw [← hE, ← hD] at q2
    rw [q2]
  have HNM : Hid (D.2.2 = E.2.2) := hnm
  have HOP : Hid (∀ (X : Nat) (W : World), CodeIn W (some ⟨X, 0, none⟩) X 0 cs → Calls Try.prog 62 #[.slice (some ⟨X, 0, none⟩) cs.length (cs.length + 2), .string (strN L)] W fun e w' => ∃ H, e = .returned (.tuple #[.pointer (some ⟨H, 0, none⟩), .int .i64 (E.2.2 : Nat), .int .i64 0]) ∧ Hid (∃ s1, GJ cs (L.length / 19) E.1 E.2.1 w' H s1 ∧ (∀ k, s1.own H k → W.heap.size ≤ k) ∧ Below W.heap.size W w')) := fun X W hX => by
    refine (x_OpenN L hL hl W W (fun k => k < W.heap.size) (c_New_yes X 0 _ cs W hX hs) hs (fun k hk => hk) (Below.refl _ _)).mono ?_
    rintro e w' ⟨H, m, rfl, h1, ⟨i, s1, h2, h3, h4, _, h6, _⟩, _⟩
    rw [open_mach, ← hE] at *
    exact ⟨H, rfl, s1, h3.le (by omega), fun k hk => (h4 k hk).1, h6⟩
  have HAG : Hid (∀ W, GD M G CB 0 newH [] W S Q d → Calls Try.prog 63 #[.pointer (some ⟨S, 0, none⟩), .string (strN L)] W fun e w' => e = .returned (.int .i64 (E.2.2 : Nat)) ∧ AgainAt M G CB W S Q d (L.length / 19) D.1 E.2.1 w') := fun W gW => by
    refine (d_Again K.k L hL hl W gW).mono ?_
    rintro e w' ⟨m, rfl, h1, h2⟩
    rw [← hD] at h2 ⊢
    obtain ⟨⟨s', g', o'⟩, f'⟩ := h2
    have e2 : D.2.1 = E.2.1 := HSM.out.2
    rw [e2] at g'
    exact ⟨by rw [hnm], ⟨⟨s', g'.le h1, o'⟩, f'⟩⟩
  have HK : Hid (KindP M G ρ CB cs) := K
  generalize L.length / 19 = N at *
  clear hc hs hL hl g hE hD hnm hbd K
  generalize strN L = Z at *
  go_enter Try.func22, Try.ntmps22
  go_wp2_with fail
  refine (handed_any a b off cap cs _ HC.out.1 hm).mono ?_
  rintro e w1 ⟨X, hX, rfl, hg1, hb1⟩
  have H1 : Hid (w1.heap[X]? = some (.cells (codeCells (cs ++ [foreignI, foreignI])).toArray 128 (0, 0)) ∧ Below w.heap.size w w1 ∧ CodeIn w1 (some ⟨X, 0, none⟩) X 0 cs ∧ CodeIn w1 a b off cs) :=
    ⟨hg1, hb1, fun _ => ⟨rfl, heap_lt hg1, codeAt_of_heap (rest := codeCells [foreignI, foreignI]) (by rw [← codeCells_append]; exact hg1)⟩, HC.out.1.keep hb1⟩
  clear hg1 hb1
  go_wp2_with fail
  refine (HOP.out X w1 H1.out.2.2.1).mono ?_
  rintro e w2 ⟨H, rfl, HO2⟩
  obtain ⟨s1, g2, o2, hb2⟩ := HO2.out
  have hHge : w1.heap.size ≤ H := o2 H (.inl (.inl rfl))
  have hX1 : X < w1.heap.size := heap_lt H1.out.1
  have hw1 : w.heap.size ≤ w1.heap.size := H1.out.2.1.size
  have H2 : Hid (w2.heap[X]? = some (.cells (codeCells (cs ++ [foreignI, foreignI])).toArray 128 (0, 0)) ∧ Below w.heap.size w w2 ∧ CodeIn w2 a b off cs) :=
    ⟨(hb2.block X (heap_lt H1.out.1)).trans H1.out.1, H1.out.2.1.trans (hb2.mono H1.out.2.1.size), H1.out.2.2.2.keep hb2⟩
  have HG2 : Hid (GJ cs N E.1 E.2.1 w2 H s1 ∧ ∀ k, s1.own H k → w1.heap.size ≤ k) := ⟨g2, o2⟩
  clear hb2 H1 g2 o2 HO2 HOP
  go_wp2_with fail
  refine (still_any a X b off cap cs _ hm H2.out.1 H2.out.2.2).mono ?_
  rintro e w3 ⟨rfl, hb3⟩
  have H3 : Hid (w3.heap[X]? = some (.cells (codeCells (cs ++ [foreignI, foreignI])).toArray 128 (0, 0)) ∧ Below w.heap.size w w3 ∧ CodeIn w3 a b off cs) :=
    ⟨(hb3.block X (heap_lt H2.out.1)).trans H2.out.1, H2.out.2.1.trans (hb3.mono H2.out.2.1.size), H2.out.2.2.keep hb3⟩
  have HG3 : Hid (GJ cs N E.1 E.2.1 w3 H s1) := HG2.out.1.keep fun k hk => hb3.block k (HG2.out.1.lt hk)
  clear hb3 H2
  go_wp2_with fail
  refine (spoil_any X cs.length _ (cs ++ [foreignI, foreignI]) _ (by simp) hm H3.out.1).mono ?_
  rintro e w4 ⟨rfl, hf4⟩
  have hb4 : Below w.heap.size w w4 := H3.out.2.1.trans ((hf4.mono (fun k _ hk => by show w.heap.size ≤ k; omega)).below H3.out.2.1.size)
  have H4 : Hid (Below w.heap.size w w4 ∧ CodeIn w4 a b off cs) :=
    ⟨hb4, H3.out.2.2.fr hf4 (fun hp => by have := (HC.out.1 hp).2.1; omega)⟩
  have HG4 : Hid (GJ cs N E.1 E.2.1 w4 H s1) := HG3.out.keep fun k hk => hf4.block k (HG3.out.lt hk) fun e => by have := HG2.out.2 k hk; omega
  clear hf4 H3 hb4 HG3
  go_wp2_with fail
  refine (Sound_any a b off cap cs _ H4.out.2).mono ?_
  rw [HS.out]
  rintro e w5 ⟨rfl, hb5⟩
  have HG5 : Hid (GJ cs N E.1 E.2.1 w5 H s1 ∧ Below w.heap.size w w5 ∧ GD M G CB 0 newH [] w5 S Q d) :=
    ⟨HG4.out.keep fun k hk => hb5.block k (HG4.out.lt hk), H4.out.1.trans (hb5.mono H4.out.1.size), HG.out.below HK.out.k (H4.out.1.trans (hb5.mono H4.out.1.size))⟩
  clear hb5 H4 HG4
  go_wp2_with fail
  refine (HAG.out w5 HG5.out.2.2).mono ?_
  rintro e w6 ⟨rfl, ha⟩
  obtain ⟨⟨d1, g6, o6⟩, f6⟩ := ha
  have hno : ∀ k, s1.own H k → ¬ d.own S Q k := fun k hk hz => by have := HG2.out.2 k hk; have := HG.out.lt hz; omega
  have hj6 : GJ cs N E.1 E.2.1 w6 H s1 := HG5.out.1.keep fun k hk => f6.block k (HG5.out.1.lt hk) (hno k hk)
  have H6 : Hid (Opened M G ρ CB cs N w S Q d H w6) := by
    have hw5 := HG5.out.2.1.size
    refine ⟨E.1, D.1, E.2.1, s1, d1, hj6, g6, HSM.out.1, fun k hk => by have := HG2.out.2 k hk; omega, fun k hk hz => ?_, fun k hk => (o6 k hk).imp id fun hh => by omega, ?_⟩
    · rcases o6 k hz with hh | hh
      · exact hno k hk hh
      · have := HG5.out.1.lt hk; omega
    · exact ((Fr.of_below HG5.out.2.1).mono fun k hk hs => by omega).trans f6
  have HJ := (show Hid _ from kj_Journal (B := 0) (m := N) (w0 := w6) (F := fun _ => False) w6 ⟨N, s1, Nat.le_refl _, hj6, fun k _ => ⟨Nat.zero_le _, id⟩, fun k hk => hk.elim, Below.refl _ _, Nat.zero_le _⟩ : Hid (Calls Try.prog 64 #[.pointer (some ⟨H, 0, none⟩)] w6 _))
  have c7 : w6.cell? ⟨S, 7, none⟩ = some (.string (strN E.2.1)) := (cell_of_heap g6.sim.at'.sB).trans rfl
  clear hno hj6 g6 o6 f6 HAG HG5 HG2 HSM HNM
  generalize strN E.2.1 = JS at *
  go_wp2_with fail
  refine HJ.out.mono ?_
  rintro e w7 ⟨rfl, hw⟩
  rw [hw]
  clear hw HJ
  go_wp2_with fail
  go_region
  all_goals
    go_wp2_with fail
    go_ret2
    exact ⟨H, rfl, by omega, H6.out.drew HK.out.k⟩
end Go.Proofs.Ytmmmnghiegajmaa
