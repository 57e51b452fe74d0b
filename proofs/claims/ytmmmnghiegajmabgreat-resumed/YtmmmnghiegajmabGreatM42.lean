import Derived.Test.YtmmmnghiegajmabGreatM41
/- A step of a script is played; the journal behind it. -/
namespace Go.Proofs.YtmmmnghiegajmabGreat
open Go.RowKit Go.Proofs.Herald
/-- The journal behind a step. -/
def playJ (cs : List Ins) (h : Her Pr) (J : List Nat) (k a b : Int) : List Nat :=
  if k = 1 then noteJ (trigH (machE cs) h a).2.1 J 84 a 0
  else if k = 2 then noteJ (tickH (machE cs) h a).1 J 75 a 0
  else if k = 3 then noteJ (ackH (machE cs) h a b).1 J 65 a b
  else if k = 4 then noteJ (cancelH (machE cs) h a).1 J 67 a 0
  else if k = 5 then noteJ (drainH h a).2.1 J 68 a 0
  else J
def PlayOutJ (B : Nat) (cs : List Ins) (m : Nat) (h' : Her Pr) (J' : List Nat) (w0 : World) (H : Nat) (F : Nat → Prop) (x : Int × Msg × Int) (w : World) (e : Ending) (w' : World) : Prop :=
  e = .returned (ansV x) ∧ KJ B cs (m + 1) h' J' w0 H F w' ∧ ∀ k, F k → w'.heap[k]? = w.heap[k]?
/-- The blocks that a step makes ahead of the call. -/
structure PlayInJ (B : Nat) (cs : List Ins) (m : Nat) (h : Her Pr) (J : List Nat) (w0 : World) (H : Nat) (F : Nat → Prop) (w : World) (k a b : Int) (W : World) : Prop where
  ks : KJ B cs m h J w0 H (fun x => F x ∨ (w.heap.size ≤ x ∧ x < w.heap.size + 3)) W
  op : W.heap[w.heap.size]? = some (.cells #[.int .i64 k, .int .i64 a, .int .i64 b] 39 (0, 0))
  res : W.heap[w.heap.size + 1]? = some (.cells #[.int .i64 0, .int .i64 0, .int .i64 0, .int .i64 0, .int .i64 0, .int .i64 0] 32 (0, 0))
  var : W.heap[w.heap.size + 1 + 1]? = some (.cells #[.int .i64 0, .int .i64 0, .int .i64 0, .int .i64 0, .int .i64 0, .int .i64 10] 32 (0, 0))
  old : ∀ x, F x → W.heap[x]? = w.heap[x]?
  b0 : B ≤ w.heap.size
theorem kpj_in {B : Nat} {cs : List Ins} {m : Nat} {h : Her Pr} {J : List Nat} {w0 w : World} {H : Nat} {F : Nat → Prop} (g : KJ B cs m h J w0 H F w) (k a b : Int) : PlayInJ B cs m h J w0 H F w k a b (((w.alloc (.cells #[.int .i64 k, .int .i64 a, .int .i64 b] 39)).alloc (.cells #[.int .i64 0, .int .i64 0, .int .i64 0, .int .i64 0, .int .i64 0, .int .i64 0] 32)).alloc (.cells #[.int .i64 0, .int .i64 0, .int .i64 0, .int .i64 0, .int .i64 0, .int .i64 10] 32)) := by
  have hb : Below w.heap.size w (((w.alloc (.cells #[.int .i64 k, .int .i64 a, .int .i64 b] 39)).alloc (.cells #[.int .i64 0, .int .i64 0, .int .i64 0, .int .i64 0, .int .i64 0, .int .i64 0] 32)).alloc (.cells #[.int .i64 0, .int .i64 0, .int .i64 0, .int .i64 0, .int .i64 0, .int .i64 10] 32)) := (((Below.refl _ _).alloc (Nat.le_refl _) _).alloc (by simp) _).alloc (by simp; omega) _
  refine ⟨(g.more hb).less fun x hx => ?_, ?_, ?_, ?_, fun x hx => hb.block x (g.lt hx), g.B⟩
  · rcases hx with hx | ⟨h1, h2⟩
    · exact .inl hx
    · exact .inr ⟨h1, by simp; omega⟩
  · rw [Below.heap_alloc _ _ _ (by simp; omega), Below.heap_alloc _ _ _ (by simp)]
    exact heap_alloc_new _ _
  · rw [Below.heap_alloc _ _ _ (by simp)]
    exact heap_alloc2 _ _ _
  · have e : w.heap.size + 1 + 1 = ((w.alloc (.cells #[.int .i64 k, .int .i64 a, .int .i64 b] 39)).alloc (.cells #[.int .i64 0, .int .i64 0, .int .i64 0, .int .i64 0, .int .i64 0, .int .i64 0] 32)).heap.size := by simp
    rw [e]
    exact heap_alloc_new _ _
theorem PlayInJ.after {B : Nat} {cs : List Ins} {m m' : Nat} {h h' : Her Pr} {J J' : List Nat} {w0 w : World} {H : Nat} {F : Nat → Prop} {k a b : Int} {W w1 : World} (p : PlayInJ B cs m h J w0 H F w k a b W) (hk : KJ B cs m' h' J' w0 H (fun x => F x ∨ (w.heap.size ≤ x ∧ x < w.heap.size + 3)) w1) (hs : ∀ x, (F x ∨ (w.heap.size ≤ x ∧ x < w.heap.size + 3)) → w1.heap[x]? = W.heap[x]?) : PlayInJ B cs m' h' J' w0 H F w k a b w1 :=
  ⟨hk, (hs _ (.inr ⟨Nat.le_refl _, by omega⟩)).trans p.op, (hs _ (.inr ⟨by omega, by omega⟩)).trans p.res, (hs _ (.inr ⟨by omega, by omega⟩)).trans p.var, fun x hx => (hs x (.inl hx)).trans (p.old x hx), p.b0⟩
theorem PlayInJ.out {B : Nat} {cs : List Ins} {m : Nat} {h : Her Pr} {J : List Nat} {w0 w : World} {H : Nat} {F : Nat → Prop} {k a b : Int} {W w' : World} (p : PlayInJ B cs m h J w0 H F w k a b W) (hf : Fr (fun x => w.heap.size ≤ x ∧ x < w.heap.size + 3) W w') (hF : ∀ x, F x → x < w.heap.size) : KJ B cs m h J w0 H F w' ∧ ∀ x, F x → w'.heap[x]? = w.heap[x]? :=
  ⟨(p.ks.fr hf fun x hx _ => ⟨.inr hx, by have := p.b0; omega⟩).less fun x hx => .inl (.inl hx), fun x hx => (hf.block x (p.ks.lt (.inl hx)) fun h => by have := hF x hx; omega).trans (p.old x hx)⟩
set_option maxRecDepth 20000 in
set_option maxHeartbeats 4000000 in
theorem kpj_trigger {B : Nat} {cs : List Ins} {m : Nat} {h : Her Pr} {J : List Nat} {w0 : World} {H : Nat} {F : Nat → Prop} (a b : Int) (w : World) (g : KJ B cs m h J w0 H F w) (hm : m ≤ 1500000) :
    Calls Tryz.prog 6 #[.pointer (some ⟨H, 0, none⟩), .agg #[.int .i64 1, .int .i64 a, .int .i64 b]] w (PlayOutJ B cs m (trigH (machE cs) h a).2.2 (noteJ (trigH (machE cs) h a).2.1 J 84 a 0) w0 H F ((trigH (machE cs) h a).1, ⟨0, 0, 0, 0⟩, (trigH (machE cs) h a).2.1) w) := by
  have HF : Hid (∀ x, F x → x < w.heap.size) := fun x hx => g.lt hx
  have HP := kpj_in g 1 a b
  have HC : Hid (Calls Tryz.prog 15 #[.pointer (some ⟨H, 0, none⟩), .int .i64 a] (((w.alloc (.cells #[.int .i64 1, .int .i64 a, .int .i64 b] 39)).alloc (.cells #[.int .i64 0, .int .i64 0, .int .i64 0, .int .i64 0, .int .i64 0, .int .i64 0] 32)).alloc (.cells #[.int .i64 0, .int .i64 0, .int .i64 0, .int .i64 0, .int .i64 0, .int .i64 10] 32)) fun e w' => e = .returned (.tuple #[.int .i64 (trigH (machE cs) h a).1, .int .i64 (trigH (machE cs) h a).2.1]) ∧ PlayInJ B cs (m + 1) (trigH (machE cs) h a).2.2 (noteJ (trigH (machE cs) h a).2.1 J 84 a 0) w0 H F w 1 a b w') :=
    (kj_Trigger a _ HP.ks (by omega)).mono fun e w' hh => ⟨hh.1, HP.after hh.2.1 hh.2.2⟩
  clear HP g
  generalize trigH (machE cs) h a = T at *
  go_enter Tryz.func6, Tryz.ntmps6
  go_wp2_with fail
  refine HC.out.mono ?_
  rintro e w1 ⟨rfl, p1⟩
  have HP1 : Hid (PlayInJ B cs (m + 1) T.2.2 (noteJ T.2.1 J 84 a 0) w0 H F w 1 a b w1) := p1
  obtain ⟨⟨r0, r1, r2, r3, r4, r5⟩, ⟨f0, f1, f2, f3, f4, f5⟩, hR⟩ := cells_of6 p1.res
  obtain ⟨⟨v0, v1, v2, v3, v4, v5⟩, ⟨g0, g1, g2, g3, g4, g5⟩, hV⟩ := cells_of6 p1.var
  clear p1 HC
  go_upto_region 18 with fail
  obtain ⟨V, hV⟩ : ∃ V, V = (w1.setCell ⟨w.heap.size + 1 + 1, 0, none⟩ (.int .i64 T.1)).setCell ⟨w.heap.size + 1 + 1, 5, none⟩ (.int .i64 T.2.1) := ⟨_, rfl⟩
  rw [← hV]
  have HVF : Hid (Fr (fun x => w.heap.size ≤ x ∧ x < w.heap.size + 3) w1 V ∧ V.heap[w.heap.size + 1]? = some (.cells #[.int .i64 0, .int .i64 0, .int .i64 0, .int .i64 0, .int .i64 0, .int .i64 0] 32 (0, 0)) ∧ V.heap[w.heap.size + 1 + 1]? = some (.cells #[.int .i64 T.1, .int .i64 0, .int .i64 0, .int .i64 0, .int .i64 0, .int .i64 T.2.1] 32 (0, 0))) := by
    rw [hV]
    refine ⟨Fr.setCell (Fr.setCell (Fr.refl _ _) _ (.inl ⟨by show w.heap.size ≤ w.heap.size + 1 + 1; omega, by show w.heap.size + 1 + 1 < w.heap.size + 3; omega⟩) _) _ (.inl ⟨by show w.heap.size ≤ w.heap.size + 1 + 1; omega, by show w.heap.size + 1 + 1 < w.heap.size + 3; omega⟩) _, ?_, ?_⟩
    · rw [Below.heap_setCell _ _ _ _ (by show w.heap.size + 1 ≠ w.heap.size + 1 + 1; omega), Below.heap_setCell _ _ _ _ (by show w.heap.size + 1 ≠ w.heap.size + 1 + 1; omega)]
      exact HP1.out.res
    · rw [heap_setCell_self _ (heap_setCell_self _ HP1.out.var)]
      rfl
  clear hV r0 r1 r2 r3 r4 r5 f0 f1 f2 f3 f4 f5 v0 v1 v2 v3 v4 v5 g0 g1 g2 g3 g4 g5 hR
  obtain ⟨⟨r0, r1, r2, r3, r4, r5⟩, ⟨f0, f1, f2, f3, f4, f5⟩, hR⟩ := cells_of6 HVF.out.2.1
  obtain ⟨⟨v0, v1, v2, v3, v4, v5⟩, _, hV⟩ := cells_of6 HVF.out.2.2
  go_wp2_with fail
  have h6 := set6 (S := (fun x => w.heap.size ≤ x ∧ x < w.heap.size + 3)) (a := .int .i64 T.1) (b := .int .i64 0) (c := .int .i64 0) (d := .int .i64 0) (e := .int .i64 0) (f := .int .i64 T.2.1) HVF.out.2.1 ⟨by omega, by omega⟩
  generalize (((((V.setCell ⟨w.heap.size + 1, 0, none⟩ (.int .i64 T.1)).setCell ⟨w.heap.size + 1, 1, none⟩ (.int .i64 0)).setCell ⟨w.heap.size + 1, 2, none⟩ (.int .i64 0)).setCell ⟨w.heap.size + 1, 3, none⟩ (.int .i64 0)).setCell ⟨w.heap.size + 1, 4, none⟩ (.int .i64 0)).setCell ⟨w.heap.size + 1, 5, none⟩ (.int .i64 T.2.1) = U at h6 ⊢
  obtain ⟨⟨u0, u1, u2, u3, u4, u5⟩, _, hU⟩ := cells_of6 h6.1
  refine bodyPost_ret (v := ansV (T.1, ⟨0, 0, 0, 0⟩, T.2.1)) (by simp [results, Tryz.results6, go_sem, ansV, u0, u1, u2, u3, u4, u5]) rfl ⟨rfl, HP1.out.out (HVF.out.1.trans (h6.2.mono fun _ _ hx => hx)) HF.out⟩
set_option maxRecDepth 20000 in
set_option maxHeartbeats 4000000 in
theorem kpj_tick {B : Nat} {cs : List Ins} {m : Nat} {h : Her Pr} {J : List Nat} {w0 : World} {H : Nat} {F : Nat → Prop} (a b : Int) (w : World) (g : KJ B cs m h J w0 H F w) (hm : m ≤ 1500000) :
    Calls Tryz.prog 6 #[.pointer (some ⟨H, 0, none⟩), .agg #[.int .i64 2, .int .i64 a, .int .i64 b]] w (PlayOutJ B cs m (tickH (machE cs) h a).2 (noteJ (tickH (machE cs) h a).1 J 75 a 0) w0 H F (0, ⟨0, 0, 0, 0⟩, (tickH (machE cs) h a).1) w) := by
  have HF : Hid (∀ x, F x → x < w.heap.size) := fun x hx => g.lt hx
  have HP := kpj_in g 2 a b
  have HC : Hid (Calls Tryz.prog 17 #[.pointer (some ⟨H, 0, none⟩), .int .i64 a] (((w.alloc (.cells #[.int .i64 2, .int .i64 a, .int .i64 b] 39)).alloc (.cells #[.int .i64 0, .int .i64 0, .int .i64 0, .int .i64 0, .int .i64 0, .int .i64 0] 32)).alloc (.cells #[.int .i64 0, .int .i64 0, .int .i64 0, .int .i64 0, .int .i64 0, .int .i64 10] 32)) fun e w' => e = .returned (.int .i64 (tickH (machE cs) h a).1) ∧ PlayInJ B cs (m + 1) (tickH (machE cs) h a).2 (noteJ (tickH (machE cs) h a).1 J 75 a 0) w0 H F w 2 a b w') :=
    (kj_Tick a _ HP.ks (by omega)).mono fun e w' hh => ⟨hh.1, HP.after hh.2.1 hh.2.2⟩
  clear HP g
  generalize tickH (machE cs) h a = T at *
  go_enter Tryz.func6, Tryz.ntmps6
  go_wp2_with fail
  refine HC.out.mono ?_
  rintro e w1 ⟨rfl, p1⟩
  have HP1 : Hid (PlayInJ B cs (m + 1) T.2 (noteJ T.1 J 75 a 0) w0 H F w 2 a b w1) := p1
  obtain ⟨⟨r0, r1, r2, r3, r4, r5⟩, ⟨f0, f1, f2, f3, f4, f5⟩, hR⟩ := cells_of6 p1.res
  obtain ⟨⟨v0, v1, v2, v3, v4, v5⟩, ⟨g0, g1, g2, g3, g4, g5⟩, hV⟩ := cells_of6 p1.var
  clear p1 HC
  go_upto_region 18 with fail
  obtain ⟨V, hV⟩ : ∃ V, V = w1.setCell ⟨w.heap.size + 1 + 1, 5, none⟩ (.int .i64 T.1) := ⟨_, rfl⟩
  rw [← hV]
  have HVF : Hid (Fr (fun x => w.heap.size ≤ x ∧ x < w.heap.size + 3) w1 V ∧ V.heap[w.heap.size + 1]? = some (.cells #[.int .i64 0, .int .i64 0, .int .i64 0, .int .i64 0, .int .i64 0, .int .i64 0] 32 (0, 0)) ∧ V.heap[w.heap.size + 1 + 1]? = some (.cells #[.int .i64 0, .int .i64 0, .int .i64 0, .int .i64 0, .int .i64 0, .int .i64 T.1] 32 (0, 0))) := by
    rw [hV]
    refine ⟨Fr.setCell (Fr.refl _ _) _ (.inl ⟨by show w.heap.size ≤ w.heap.size + 1 + 1; omega, by show w.heap.size + 1 + 1 < w.heap.size + 3; omega⟩) _, ?_, ?_⟩
    · rw [Below.heap_setCell _ _ _ _ (by show w.heap.size + 1 ≠ w.heap.size + 1 + 1; omega)]
      exact HP1.out.res
    · rw [heap_setCell_self _ HP1.out.var]
      rfl
  clear hV r0 r1 r2 r3 r4 r5 f0 f1 f2 f3 f4 f5 v0 v1 v2 v3 v4 v5 g0 g1 g2 g3 g4 g5 hR
  obtain ⟨⟨r0, r1, r2, r3, r4, r5⟩, ⟨f0, f1, f2, f3, f4, f5⟩, hR⟩ := cells_of6 HVF.out.2.1
  obtain ⟨⟨v0, v1, v2, v3, v4, v5⟩, _, hV⟩ := cells_of6 HVF.out.2.2
  go_wp2_with fail
  have h6 := set6 (S := (fun x => w.heap.size ≤ x ∧ x < w.heap.size + 3)) (a := (.int .i64 0)) (b := (.int .i64 0)) (c := (.int .i64 0)) (d := (.int .i64 0)) (e := (.int .i64 0)) (f := (.int .i64 T.1)) HVF.out.2.1 ⟨by omega, by omega⟩
  generalize (((((V.setCell ⟨w.heap.size + 1, 0, none⟩ (.int .i64 0)).setCell ⟨w.heap.size + 1, 1, none⟩ (.int .i64 0)).setCell ⟨w.heap.size + 1, 2, none⟩ (.int .i64 0)).setCell ⟨w.heap.size + 1, 3, none⟩ (.int .i64 0)).setCell ⟨w.heap.size + 1, 4, none⟩ (.int .i64 0)).setCell ⟨w.heap.size + 1, 5, none⟩ (.int .i64 T.1) = U at h6 ⊢
  obtain ⟨⟨u0, u1, u2, u3, u4, u5⟩, _, hU⟩ := cells_of6 h6.1
  refine bodyPost_ret (v := ansV (0, ⟨0, 0, 0, 0⟩, T.1)) (by simp [results, Tryz.results6, go_sem, ansV, u0, u1, u2, u3, u4, u5]) rfl ⟨rfl, HP1.out.out (HVF.out.1.trans (h6.2.mono fun _ _ hx => hx)) HF.out⟩
set_option maxRecDepth 20000 in
set_option maxHeartbeats 4000000 in
theorem kpj_ack {B : Nat} {cs : List Ins} {m : Nat} {h : Her Pr} {J : List Nat} {w0 : World} {H : Nat} {F : Nat → Prop} (a b : Int) (w : World) (g : KJ B cs m h J w0 H F w) (hm : m ≤ 1500000) :
    Calls Tryz.prog 6 #[.pointer (some ⟨H, 0, none⟩), .agg #[.int .i64 3, .int .i64 a, .int .i64 b]] w (PlayOutJ B cs m (ackH (machE cs) h a b).2 (noteJ (ackH (machE cs) h a b).1 J 65 a b) w0 H F (0, ⟨0, 0, 0, 0⟩, (ackH (machE cs) h a b).1) w) := by
  have HF : Hid (∀ x, F x → x < w.heap.size) := fun x hx => g.lt hx
  have HP := kpj_in g 3 a b
  have HC : Hid (Calls Tryz.prog 18 #[.pointer (some ⟨H, 0, none⟩), .int .i64 a, .int .i64 b] (((w.alloc (.cells #[.int .i64 3, .int .i64 a, .int .i64 b] 39)).alloc (.cells #[.int .i64 0, .int .i64 0, .int .i64 0, .int .i64 0, .int .i64 0, .int .i64 0] 32)).alloc (.cells #[.int .i64 0, .int .i64 0, .int .i64 0, .int .i64 0, .int .i64 0, .int .i64 10] 32)) fun e w' => e = .returned (.int .i64 (ackH (machE cs) h a b).1) ∧ PlayInJ B cs (m + 1) (ackH (machE cs) h a b).2 (noteJ (ackH (machE cs) h a b).1 J 65 a b) w0 H F w 3 a b w') :=
    (kj_Ack a b _ HP.ks (by omega)).mono fun e w' hh => ⟨hh.1, HP.after hh.2.1 hh.2.2⟩
  clear HP g
  generalize ackH (machE cs) h a b = T at *
  go_enter Tryz.func6, Tryz.ntmps6
  go_wp2_with fail
  refine HC.out.mono ?_
  rintro e w1 ⟨rfl, p1⟩
  have HP1 : Hid (PlayInJ B cs (m + 1) T.2 (noteJ T.1 J 65 a b) w0 H F w 3 a b w1) := p1
  obtain ⟨⟨r0, r1, r2, r3, r4, r5⟩, ⟨f0, f1, f2, f3, f4, f5⟩, hR⟩ := cells_of6 p1.res
  obtain ⟨⟨v0, v1, v2, v3, v4, v5⟩, ⟨g0, g1, g2, g3, g4, g5⟩, hV⟩ := cells_of6 p1.var
  clear p1 HC
  go_upto_region 18 with fail
  obtain ⟨V, hV⟩ : ∃ V, V = w1.setCell ⟨w.heap.size + 1 + 1, 5, none⟩ (.int .i64 T.1) := ⟨_, rfl⟩
  rw [← hV]
  have HVF : Hid (Fr (fun x => w.heap.size ≤ x ∧ x < w.heap.size + 3) w1 V ∧ V.heap[w.heap.size + 1]? = some (.cells #[.int .i64 0, .int .i64 0, .int .i64 0, .int .i64 0, .int .i64 0, .int .i64 0] 32 (0, 0)) ∧ V.heap[w.heap.size + 1 + 1]? = some (.cells #[.int .i64 0, .int .i64 0, .int .i64 0, .int .i64 0, .int .i64 0, .int .i64 T.1] 32 (0, 0))) := by
    rw [hV]
    refine ⟨Fr.setCell (Fr.refl _ _) _ (.inl ⟨by show w.heap.size ≤ w.heap.size + 1 + 1; omega, by show w.heap.size + 1 + 1 < w.heap.size + 3; omega⟩) _, ?_, ?_⟩
    · rw [Below.heap_setCell _ _ _ _ (by show w.heap.size + 1 ≠ w.heap.size + 1 + 1; omega)]
      exact HP1.out.res
    · rw [heap_setCell_self _ HP1.out.var]
      rfl
  clear hV r0 r1 r2 r3 r4 r5 f0 f1 f2 f3 f4 f5 v0 v1 v2 v3 v4 v5 g0 g1 g2 g3 g4 g5 hR
  obtain ⟨⟨r0, r1, r2, r3, r4, r5⟩, ⟨f0, f1, f2, f3, f4, f5⟩, hR⟩ := cells_of6 HVF.out.2.1
  obtain ⟨⟨v0, v1, v2, v3, v4, v5⟩, _, hV⟩ := cells_of6 HVF.out.2.2
  go_wp2_with fail
  have h6 := set6 (S := (fun x => w.heap.size ≤ x ∧ x < w.heap.size + 3)) (a := (.int .i64 0)) (b := (.int .i64 0)) (c := (.int .i64 0)) (d := (.int .i64 0)) (e := (.int .i64 0)) (f := (.int .i64 T.1)) HVF.out.2.1 ⟨by omega, by omega⟩
  generalize (((((V.setCell ⟨w.heap.size + 1, 0, none⟩ (.int .i64 0)).setCell ⟨w.heap.size + 1, 1, none⟩ (.int .i64 0)).setCell ⟨w.heap.size + 1, 2, none⟩ (.int .i64 0)).setCell ⟨w.heap.size + 1, 3, none⟩ (.int .i64 0)).setCell ⟨w.heap.size + 1, 4, none⟩ (.int .i64 0)).setCell ⟨w.heap.size + 1, 5, none⟩ (.int .i64 T.1) = U at h6 ⊢
  obtain ⟨⟨u0, u1, u2, u3, u4, u5⟩, _, hU⟩ := cells_of6 h6.1
  refine bodyPost_ret (v := ansV (0, ⟨0, 0, 0, 0⟩, T.1)) (by simp [results, Tryz.results6, go_sem, ansV, u0, u1, u2, u3, u4, u5]) rfl ⟨rfl, HP1.out.out (HVF.out.1.trans (h6.2.mono fun _ _ hx => hx)) HF.out⟩
set_option maxRecDepth 20000 in
set_option maxHeartbeats 4000000 in
theorem kpj_cancel {B : Nat} {cs : List Ins} {m : Nat} {h : Her Pr} {J : List Nat} {w0 : World} {H : Nat} {F : Nat → Prop} (a b : Int) (w : World) (g : KJ B cs m h J w0 H F w) (hm : m ≤ 1500000) :
    Calls Tryz.prog 6 #[.pointer (some ⟨H, 0, none⟩), .agg #[.int .i64 4, .int .i64 a, .int .i64 b]] w (PlayOutJ B cs m (cancelH (machE cs) h a).2 (noteJ (cancelH (machE cs) h a).1 J 67 a 0) w0 H F (0, ⟨0, 0, 0, 0⟩, (cancelH (machE cs) h a).1) w) := by
  have HF : Hid (∀ x, F x → x < w.heap.size) := fun x hx => g.lt hx
  have HP := kpj_in g 4 a b
  have HC : Hid (Calls Tryz.prog 19 #[.pointer (some ⟨H, 0, none⟩), .int .i64 a] (((w.alloc (.cells #[.int .i64 4, .int .i64 a, .int .i64 b] 39)).alloc (.cells #[.int .i64 0, .int .i64 0, .int .i64 0, .int .i64 0, .int .i64 0, .int .i64 0] 32)).alloc (.cells #[.int .i64 0, .int .i64 0, .int .i64 0, .int .i64 0, .int .i64 0, .int .i64 10] 32)) fun e w' => e = .returned (.int .i64 (cancelH (machE cs) h a).1) ∧ PlayInJ B cs (m + 1) (cancelH (machE cs) h a).2 (noteJ (cancelH (machE cs) h a).1 J 67 a 0) w0 H F w 4 a b w') :=
    (kj_Cancel a _ HP.ks (by omega)).mono fun e w' hh => ⟨hh.1, HP.after hh.2.1 hh.2.2⟩
  clear HP g
  generalize cancelH (machE cs) h a = T at *
  go_enter Tryz.func6, Tryz.ntmps6
  go_wp2_with fail
  refine HC.out.mono ?_
  rintro e w1 ⟨rfl, p1⟩
  have HP1 : Hid (PlayInJ B cs (m + 1) T.2 (noteJ T.1 J 67 a 0) w0 H F w 4 a b w1) := p1
  obtain ⟨⟨r0, r1, r2, r3, r4, r5⟩, ⟨f0, f1, f2, f3, f4, f5⟩, hR⟩ := cells_of6 p1.res
  obtain ⟨⟨v0, v1, v2, v3, v4, v5⟩, ⟨g0, g1, g2, g3, g4, g5⟩, hV⟩ := cells_of6 p1.var
  clear p1 HC
  go_upto_region 18 with fail
  obtain ⟨V, hV⟩ : ∃ V, V = w1.setCell ⟨w.heap.size + 1 + 1, 5, none⟩ (.int .i64 T.1) := ⟨_, rfl⟩
  rw [← hV]
  have HVF : Hid (Fr (fun x => w.heap.size ≤ x ∧ x < w.heap.size + 3) w1 V ∧ V.heap[w.heap.size + 1]? = some (.cells #[.int .i64 0, .int .i64 0, .int .i64 0, .int .i64 0, .int .i64 0, .int .i64 0] 32 (0, 0)) ∧ V.heap[w.heap.size + 1 + 1]? = some (.cells #[.int .i64 0, .int .i64 0, .int .i64 0, .int .i64 0, .int .i64 0, .int .i64 T.1] 32 (0, 0))) := by
    rw [hV]
    refine ⟨Fr.setCell (Fr.refl _ _) _ (.inl ⟨by show w.heap.size ≤ w.heap.size + 1 + 1; omega, by show w.heap.size + 1 + 1 < w.heap.size + 3; omega⟩) _, ?_, ?_⟩
    · rw [Below.heap_setCell _ _ _ _ (by show w.heap.size + 1 ≠ w.heap.size + 1 + 1; omega)]
      exact HP1.out.res
    · rw [heap_setCell_self _ HP1.out.var]
      rfl
  clear hV r0 r1 r2 r3 r4 r5 f0 f1 f2 f3 f4 f5 v0 v1 v2 v3 v4 v5 g0 g1 g2 g3 g4 g5 hR
  obtain ⟨⟨r0, r1, r2, r3, r4, r5⟩, ⟨f0, f1, f2, f3, f4, f5⟩, hR⟩ := cells_of6 HVF.out.2.1
  obtain ⟨⟨v0, v1, v2, v3, v4, v5⟩, _, hV⟩ := cells_of6 HVF.out.2.2
  go_wp2_with fail
  have h6 := set6 (S := (fun x => w.heap.size ≤ x ∧ x < w.heap.size + 3)) (a := (.int .i64 0)) (b := (.int .i64 0)) (c := (.int .i64 0)) (d := (.int .i64 0)) (e := (.int .i64 0)) (f := (.int .i64 T.1)) HVF.out.2.1 ⟨by omega, by omega⟩
  generalize (((((V.setCell ⟨w.heap.size + 1, 0, none⟩ (.int .i64 0)).setCell ⟨w.heap.size + 1, 1, none⟩ (.int .i64 0)).setCell ⟨w.heap.size + 1, 2, none⟩ (.int .i64 0)).setCell ⟨w.heap.size + 1, 3, none⟩ (.int .i64 0)).setCell ⟨w.heap.size + 1, 4, none⟩ (.int .i64 0)).setCell ⟨w.heap.size + 1, 5, none⟩ (.int .i64 T.1) = U at h6 ⊢
  obtain ⟨⟨u0, u1, u2, u3, u4, u5⟩, _, hU⟩ := cells_of6 h6.1
  refine bodyPost_ret (v := ansV (0, ⟨0, 0, 0, 0⟩, T.1)) (by simp [results, Tryz.results6, go_sem, ansV, u0, u1, u2, u3, u4, u5]) rfl ⟨rfl, HP1.out.out (HVF.out.1.trans (h6.2.mono fun _ _ hx => hx)) HF.out⟩
set_option maxRecDepth 20000 in
set_option maxHeartbeats 4000000 in
theorem kpj_drain {B : Nat} {cs : List Ins} {m : Nat} {h : Her Pr} {J : List Nat} {w0 : World} {H : Nat} {F : Nat → Prop} (a b : Int) (w : World) (g : KJ B cs m h J w0 H F w) (hm : m ≤ 1500000) :
    Calls Tryz.prog 6 #[.pointer (some ⟨H, 0, none⟩), .agg #[.int .i64 5, .int .i64 a, .int .i64 b]] w (PlayOutJ B cs m (drainH h a).2.2 (noteJ (drainH h a).2.1 J 68 a 0) w0 H F (0, (drainH h a).1, (drainH h a).2.1) w) := by
  have HF : Hid (∀ x, F x → x < w.heap.size) := fun x hx => g.lt hx
  have HP := kpj_in g 5 a b
  have HC : Hid (Calls Tryz.prog 20 #[.pointer (some ⟨H, 0, none⟩), .int .i64 a] (((w.alloc (.cells #[.int .i64 5, .int .i64 a, .int .i64 b] 39)).alloc (.cells #[.int .i64 0, .int .i64 0, .int .i64 0, .int .i64 0, .int .i64 0, .int .i64 0] 32)).alloc (.cells #[.int .i64 0, .int .i64 0, .int .i64 0, .int .i64 0, .int .i64 0, .int .i64 10] 32)) fun e w' => e = .returned (.tuple #[.agg #[.int .i64 (drainH h a).1.dev, .int .i64 (drainH h a).1.run, .int .i64 (drainH h a).1.num, .int .i64 (drainH h a).1.key], .int .i64 (drainH h a).2.1]) ∧ PlayInJ B cs (m + 1) (drainH h a).2.2 (noteJ (drainH h a).2.1 J 68 a 0) w0 H F w 5 a b w') :=
    (kj_Drain a _ HP.ks (by omega)).mono fun e w' hh => ⟨hh.1, HP.after hh.2.1 hh.2.2⟩
  clear HP g
  generalize drainH h a = T at *
  go_enter Tryz.func6, Tryz.ntmps6
  go_wp2_with fail
  refine HC.out.mono ?_
  rintro e w1 ⟨rfl, p1⟩
  have HP1 : Hid (PlayInJ B cs (m + 1) T.2.2 (noteJ T.2.1 J 68 a 0) w0 H F w 5 a b w1) := p1
  obtain ⟨⟨r0, r1, r2, r3, r4, r5⟩, ⟨f0, f1, f2, f3, f4, f5⟩, hR⟩ := cells_of6 p1.res
  obtain ⟨⟨v0, v1, v2, v3, v4, v5⟩, ⟨g0, g1, g2, g3, g4, g5⟩, hV⟩ := cells_of6 p1.var
  clear p1 HC
  go_upto_region 18 with fail
  obtain ⟨V, hV⟩ : ∃ V, V = (((((w1.setCell ⟨w.heap.size + 1 + 1, 1, none⟩ (.int .i64 T.1.dev)).setCell ⟨w.heap.size + 1 + 1, 2, none⟩ (.int .i64 T.1.run)).setCell ⟨w.heap.size + 1 + 1, 3, none⟩ (.int .i64 T.1.num)).setCell ⟨w.heap.size + 1 + 1, 4, none⟩ (.int .i64 T.1.key)).setCell ⟨w.heap.size + 1 + 1, 5, none⟩ (.int .i64 T.2.1)).alloc (.cells #[.int .i64 T.1.dev, .int .i64 T.1.run, .int .i64 T.1.num, .int .i64 T.1.key] 29) := ⟨_, rfl⟩
  rw [← hV]
  have HVF : Hid (Fr (fun x => w.heap.size ≤ x ∧ x < w.heap.size + 3) w1 V ∧ V.heap[w.heap.size + 1]? = some (.cells #[.int .i64 0, .int .i64 0, .int .i64 0, .int .i64 0, .int .i64 0, .int .i64 0] 32 (0, 0)) ∧ V.heap[w.heap.size + 1 + 1]? = some (.cells #[.int .i64 0, .int .i64 T.1.dev, .int .i64 T.1.run, .int .i64 T.1.num, .int .i64 T.1.key, .int .i64 T.2.1] 32 (0, 0))) := by
    rw [hV]
    have hi : (fun x => w.heap.size ≤ x ∧ x < w.heap.size + 3) (w.heap.size + 1 + 1) := ⟨by show w.heap.size ≤ w.heap.size + 1 + 1; omega, by show w.heap.size + 1 + 1 < w.heap.size + 3; omega⟩
    refine ⟨Fr.alloc (Fr.setCell (Fr.setCell (Fr.setCell (Fr.setCell (Fr.setCell (Fr.refl _ _) _ (.inl hi) _) _ (.inl hi) _) _ (.inl hi) _) _ (.inl hi) _) _ (.inl hi) _) _, ?_, ?_⟩
    · rw [Below.heap_alloc _ _ _ (by simp only [size_setCell]; exact heap_lt HP1.out.res), Below.heap_setCell _ _ _ _ (by show w.heap.size + 1 ≠ w.heap.size + 1 + 1; omega), Below.heap_setCell _ _ _ _ (by show w.heap.size + 1 ≠ w.heap.size + 1 + 1; omega), Below.heap_setCell _ _ _ _ (by show w.heap.size + 1 ≠ w.heap.size + 1 + 1; omega), Below.heap_setCell _ _ _ _ (by show w.heap.size + 1 ≠ w.heap.size + 1 + 1; omega), Below.heap_setCell _ _ _ _ (by show w.heap.size + 1 ≠ w.heap.size + 1 + 1; omega)]
      exact HP1.out.res
    · rw [Below.heap_alloc _ _ _ (by simp only [size_setCell]; exact heap_lt HP1.out.var), heap_setCell_self _ (heap_setCell_self _ (heap_setCell_self _ (heap_setCell_self _ (heap_setCell_self _ HP1.out.var))))]
      rfl
  clear hV r0 r1 r2 r3 r4 r5 f0 f1 f2 f3 f4 f5 v0 v1 v2 v3 v4 v5 g0 g1 g2 g3 g4 g5 hR
  obtain ⟨⟨r0, r1, r2, r3, r4, r5⟩, ⟨f0, f1, f2, f3, f4, f5⟩, hR⟩ := cells_of6 HVF.out.2.1
  obtain ⟨⟨v0, v1, v2, v3, v4, v5⟩, _, hV⟩ := cells_of6 HVF.out.2.2
  go_wp2_with fail
  have h6 := set6 (S := (fun x => w.heap.size ≤ x ∧ x < w.heap.size + 3)) (a := (.int .i64 0)) (b := (.int .i64 T.1.dev)) (c := (.int .i64 T.1.run)) (d := (.int .i64 T.1.num)) (e := (.int .i64 T.1.key)) (f := (.int .i64 T.2.1)) HVF.out.2.1 ⟨by omega, by omega⟩
  generalize (((((V.setCell ⟨w.heap.size + 1, 0, none⟩ (.int .i64 0)).setCell ⟨w.heap.size + 1, 1, none⟩ (.int .i64 T.1.dev)).setCell ⟨w.heap.size + 1, 2, none⟩ (.int .i64 T.1.run)).setCell ⟨w.heap.size + 1, 3, none⟩ (.int .i64 T.1.num)).setCell ⟨w.heap.size + 1, 4, none⟩ (.int .i64 T.1.key)).setCell ⟨w.heap.size + 1, 5, none⟩ (.int .i64 T.2.1) = U at h6 ⊢
  obtain ⟨⟨u0, u1, u2, u3, u4, u5⟩, _, hU⟩ := cells_of6 h6.1
  refine bodyPost_ret (v := ansV (0, T.1, T.2.1)) (by simp [results, Tryz.results6, go_sem, ansV, u0, u1, u2, u3, u4, u5]) rfl ⟨rfl, HP1.out.out (HVF.out.1.trans (h6.2.mono fun _ _ hx => hx)) HF.out⟩
set_option maxRecDepth 20000 in
set_option maxHeartbeats 4000000 in
theorem kpj_none {B : Nat} {cs : List Ins} {m : Nat} {h : Her Pr} {J : List Nat} {w0 : World} {H : Nat} {F : Nat → Prop} (k a b : Int) (w : World) (g : KJ B cs m h J w0 H F w) (hk : ¬ (1 ≤ k ∧ k ≤ 5)) :
    Calls Tryz.prog 6 #[.pointer (some ⟨H, 0, none⟩), .agg #[.int .i64 k, .int .i64 a, .int .i64 b]] w (PlayOutJ B cs m h J w0 H F (0, ⟨0, 0, 0, 0⟩, 10) w) := by
  have HF : Hid (∀ x, F x → x < w.heap.size) := fun x hx => g.lt hx
  have hp := kpj_in g k a b
  have HP1 : Hid (PlayInJ B cs (m + 1) h J w0 H F w k a b (((w.alloc (.cells #[.int .i64 k, .int .i64 a, .int .i64 b] 39)).alloc (.cells #[.int .i64 0, .int .i64 0, .int .i64 0, .int .i64 0, .int .i64 0, .int .i64 0] 32)).alloc (.cells #[.int .i64 0, .int .i64 0, .int .i64 0, .int .i64 0, .int .i64 0, .int .i64 10] 32))) := ⟨hp.ks.le (by omega), hp.op, hp.res, hp.var, hp.old, hp.b0⟩
  clear hp g
  have k1 : (k == 1) = false := by simp; omega
  have k2 : (k == 2) = false := by simp; omega
  have k3 : (k == 3) = false := by simp; omega
  have k4 : (k == 4) = false := by simp; omega
  have k5 : (k == 5) = false := by simp; omega
  go_enter Tryz.func6, Tryz.ntmps6
  go_upto_region 18 with fail
  obtain ⟨V, hV⟩ : ∃ V, V = (((w.alloc (.cells #[.int .i64 k, .int .i64 a, .int .i64 b] 39)).alloc (.cells #[.int .i64 0, .int .i64 0, .int .i64 0, .int .i64 0, .int .i64 0, .int .i64 0] 32)).alloc (.cells #[.int .i64 0, .int .i64 0, .int .i64 0, .int .i64 0, .int .i64 0, .int .i64 10] 32)) := ⟨_, rfl⟩
  rw [← hV] at HP1 ⊢
  have HVF : Hid (Fr (fun x => w.heap.size ≤ x ∧ x < w.heap.size + 3) V V ∧ V.heap[w.heap.size + 1]? = some (.cells #[.int .i64 0, .int .i64 0, .int .i64 0, .int .i64 0, .int .i64 0, .int .i64 0] 32 (0, 0)) ∧ V.heap[w.heap.size + 1 + 1]? = some (.cells #[.int .i64 0, .int .i64 0, .int .i64 0, .int .i64 0, .int .i64 0, .int .i64 10] 32 (0, 0))) := ⟨Fr.refl _ _, HP1.out.res, HP1.out.var⟩
  clear hV
  obtain ⟨⟨r0, r1, r2, r3, r4, r5⟩, ⟨f0, f1, f2, f3, f4, f5⟩, hR⟩ := cells_of6 HVF.out.2.1
  obtain ⟨⟨v0, v1, v2, v3, v4, v5⟩, _, hV⟩ := cells_of6 HVF.out.2.2
  go_wp2_with fail
  have h6 := set6 (S := (fun x => w.heap.size ≤ x ∧ x < w.heap.size + 3)) (a := (.int .i64 0)) (b := (.int .i64 0)) (c := (.int .i64 0)) (d := (.int .i64 0)) (e := (.int .i64 0)) (f := (.int .i64 10)) HVF.out.2.1 ⟨by omega, by omega⟩
  generalize (((((V.setCell ⟨w.heap.size + 1, 0, none⟩ (.int .i64 0)).setCell ⟨w.heap.size + 1, 1, none⟩ (.int .i64 0)).setCell ⟨w.heap.size + 1, 2, none⟩ (.int .i64 0)).setCell ⟨w.heap.size + 1, 3, none⟩ (.int .i64 0)).setCell ⟨w.heap.size + 1, 4, none⟩ (.int .i64 0)).setCell ⟨w.heap.size + 1, 5, none⟩ (.int .i64 10) = U at h6 ⊢
  obtain ⟨⟨u0, u1, u2, u3, u4, u5⟩, _, hU⟩ := cells_of6 h6.1
  refine bodyPost_ret (v := ansV (0, ⟨0, 0, 0, 0⟩, 10)) (by simp [results, Tryz.results6, go_sem, ansV, u0, u1, u2, u3, u4, u5]) rfl ⟨rfl, HP1.out.out (HVF.out.1.trans (h6.2.mono fun _ _ hx => hx)) HF.out⟩
/-- A step is played. -/
theorem cj_play {B : Nat} {cs : List Ins} {m : Nat} {h : Her Pr} {J : List Nat} {w0 : World} {H : Nat} {F : Nat → Prop} (k a b : Int) (w : World) (g : KJ B cs m h J w0 H F w) (hm : m ≤ 1500000) :
    Calls Tryz.prog 6 #[.pointer (some ⟨H, 0, none⟩), .agg #[.int .i64 k, .int .i64 a, .int .i64 b]] w (PlayOutJ B cs m (playH cs h k a b).2 (playJ cs h J k a b) w0 H F (playH cs h k a b).1 w) := by
  unfold playH playJ
  by_cases h1 : k = 1
  · rw [if_pos h1, if_pos h1]
    subst h1
    exact kpj_trigger a b w g hm
  rw [if_neg h1, if_neg h1]
  by_cases h2 : k = 2
  · rw [if_pos h2, if_pos h2]
    subst h2
    exact kpj_tick a b w g hm
  rw [if_neg h2, if_neg h2]
  by_cases h3 : k = 3
  · rw [if_pos h3, if_pos h3]
    subst h3
    exact kpj_ack a b w g hm
  rw [if_neg h3, if_neg h3]
  by_cases h4 : k = 4
  · rw [if_pos h4, if_pos h4]
    subst h4
    exact kpj_cancel a b w g hm
  rw [if_neg h4, if_neg h4]
  by_cases h5 : k = 5
  · rw [if_pos h5, if_pos h5]
    subst h5
    exact kpj_drain a b w g hm
  rw [if_neg h5, if_neg h5]
  exact kpj_none k a b w g (by omega)
end Go.Proofs.YtmmmnghiegajmabGreat
