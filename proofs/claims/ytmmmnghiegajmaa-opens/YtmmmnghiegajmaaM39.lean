import Derived.Test.YtmmmnghiegajmaaM38
import Derived.Test.YtmmmnghiegajmaaM36
import Derived.Deep.RegionWith
import Derived.Deep.DeepCutAuto
/- A pair of heralds with their journals: what it keeps from call to call. -/
namespace Go.Proofs.Ytmmmnghiegajmaa
open Go.RowKit Go.Proofs.Herald
def ownQ (Pb H S Q : Nat) (s : HS) (d : DS) (k : Nat) : Prop := k = Pb ∨ s.own H k ∨ d.own S Q k
/-- A pair: the program's herald behind i calls, the document's behind j. -/
structure QH {RT : Type} (M : Mode RT) (G : RT → Prop) (CB : World → Prop) (cs : List Ins) (i j : Nat) (hm : Her Pr) (hd : Her RT) (J L : List Nat) (w : World) (Pb H S Q : Nat) (u tv : Value) (s : HS) (d : DS) : Prop where
  p : w.heap[Pb]? = some (.cells #[.pointer (some ⟨H, 0, none⟩), .pointer (some ⟨S, 0, none⟩), u, tv] 34 (0, 0))
  gj : GJ cs i hm J w H s
  gd : GD M G CB j hd L w S Q d
  dj : ∀ k, s.own H k → ¬ d.own S Q k
  pf : ¬ s.own H Pb
  pd : ¬ d.own S Q Pb
  fb : ∀ k, s.own H k → M.B0 ≤ k
  pb : M.B0 ≤ Pb
section
variable {RT : Type} {M : Mode RT} {G : RT → Prop} {CB : World → Prop} {cs : List Ins} {i j : Nat} {hm hm' : Her Pr} {hd hd' : Her RT} {J J' L L' : List Nat} {w w' W w1 : World} {Pb H S Q : Nat} {u tv : Value} {s : HS} {d : DS}
theorem QH.lt (h : QH M G CB cs i j hm hd J L w Pb H S Q u tv s d) {k : Nat} (hk : ownQ Pb H S Q s d k) : k < w.heap.size := by
  rcases hk with rfl | hk | hk
  · exact heap_lt h.p
  · exact h.gj.lt hk
  · exact h.gd.lt hk
theorem QH.base (h : QH M G CB cs i j hm hd J L w Pb H S Q u tv s d) {k : Nat} (hk : ownQ Pb H S Q s d k) : M.B0 ≤ k := by
  rcases hk with rfl | hk | hk
  · exact h.pb
  · exact h.fb k hk
  · exact h.gd.sim.base k hk
theorem QH.B (h : QH M G CB cs i j hm hd J L w Pb H S Q u tv s d) : M.B0 ≤ w.heap.size := by
  have h1 := h.pb
  have h2 := heap_lt h.p
  omega
theorem QH.sort (h : QH M G CB cs i j hm hd J L w Pb H S Q u tv s d) {k : Nat} (hk : ownQ Pb H S Q s d k) : Plain w k := by
  rcases hk with rfl | hk | hk
  · exact ⟨_, _, h.p, by decide, by decide⟩
  · exact h.gj.ga.fh.sort hk
  · obtain ⟨c, t, hc, ht⟩ := h.gd.sim.at'.sort hk
    refine ⟨c, t, hc, ?_⟩
    rcases ht with rfl | rfl | rfl | rfl | rfl | rfl <;> exact ⟨by decide, by decide⟩
theorem QH.keep (K : KindJ M G CB) (h : QH M G CB cs i j hm hd J L w Pb H S Q u tv s d) (hk : ∀ k, ownQ Pb H S Q s d k → w'.heap[k]? = w.heap[k]?) (hst : Still M.B0 w w') : QH M G CB cs i j hm hd J L w' Pb H S Q u tv s d :=
  ⟨(hk Pb (.inl rfl)).trans h.p, h.gj.keep fun k hk' => hk k (.inr (.inl hk')), h.gd.keep K (fun k hk' => hk k (.inr (.inr hk'))) hst, h.dj, h.pf, h.pd, h.fb, h.pb⟩
theorem QH.below (K : KindJ M G CB) (h : QH M G CB cs i j hm hd J L w Pb H S Q u tv s d) (hb : Below w.heap.size w w') : QH M G CB cs i j hm hd J L w' Pb H S Q u tv s d :=
  h.keep K (fun k hk => hb.block k (h.lt hk)) (still_below hb)
/-- What is not the pair's is written. -/
theorem QH.write (K : KindJ M G CB) (h : QH M G CB cs i j hm hd J L w Pb H S Q u tv s d) {Z : Nat → Prop} (hf : Fr Z w w') (hz : ∀ k, k < w.heap.size → Z k → ¬ ownQ Pb H S Q s d k ∧ M.B0 ≤ k ∧ Plain w k) : QH M G CB cs i j hm hd J L w' Pb H S Q u tv s d :=
  h.keep K (fun k hk => hf.block k (h.lt hk) fun hh => (hz k (h.lt hk) hh).1 hk) (still_of hf fun k hk hh => (hz k hk hh).2)
/-- How a pair has grown. -/
structure Grown (w : World) (Pb H S Q : Nat) (s : HS) (d : DS) (w1 : World) (s1 : HS) (d1 : DS) : Prop where
  own : ∀ k, ownQ Pb H S Q s1 d1 k → ownQ Pb H S Q s d k ∨ w.heap.size ≤ k
  fr : Fr (ownQ Pb H S Q s d) w w1
theorem Grown.trans {w2 : World} {s1 s2 : HS} {d1 d2 : DS} (g : Grown w Pb H S Q s d w1 s1 d1) (g2 : Grown w1 Pb H S Q s1 d1 w2 s2 d2) : Grown w Pb H S Q s d w2 s2 d2 := by
  have z := g.fr.size
  refine ⟨fun k hk => ?_, ?_⟩
  · rcases g2.own k hk with h | h
    · exact g.own k h
    · exact .inr (by omega)
  · have f1 : Fr (fun k => ownQ Pb H S Q s d k ∨ w.heap.size ≤ k) w w1 := g.fr.mono fun k _ hk => .inl hk
    have f2 : Fr (fun k => ownQ Pb H S Q s d k ∨ w.heap.size ≤ k) w1 w2 := g2.fr.mono fun k _ hk => g.own k hk
    exact (f1.trans f2).mono fun k hk hs => by
      rcases hs with h | h
      · exact h
      · omega
theorem Grown.refl (w : World) : Grown w Pb H S Q s d w s d := ⟨fun _ hk => .inl hk, Fr.refl _ _⟩
theorem Grown.below (hb : Below w.heap.size w w1) : Grown w Pb H S Q s d w1 s d := ⟨fun _ hk => .inl hk, (Fr.of_below hb).mono fun k hk hs => by omega⟩
/-- Blocks that are new are written. -/
theorem Grown.write {s1 : HS} {d1 : DS} (g : Grown w Pb H S Q s d w1 s1 d1) {Z : Nat → Prop} (hf : Fr Z w1 w') (hz : ∀ k, Z k → w.heap.size ≤ k) : Grown w Pb H S Q s d w' s1 d1 := by
  refine ⟨g.own, ?_⟩
  have f1 : Fr (fun k => ownQ Pb H S Q s d k ∨ w.heap.size ≤ k) w w1 := g.fr.mono fun k _ hk => .inl hk
  have f2 : Fr (fun k => ownQ Pb H S Q s d k ∨ w.heap.size ≤ k) w1 w' := hf.mono fun k _ hk => .inr (hz k hk)
  exact (f1.trans f2).mono fun k hk hs => by
    rcases hs with h | h
    · exact h
    · omega
/-- Behind the program's call. -/
theorem QH.prog (K : KindJ M G CB) (h : QH M G CB cs i j hm hd J L w Pb H S Q u tv s d) (hW : Below w.heap.size w W) (ho : GJNext cs i hm' J' W H s w1) :
    ∃ s1, QH M G CB cs (i + 1) j hm' hd J' L w1 Pb H S Q u tv s1 d ∧ Grown w Pb H S Q s d w1 s1 d ∧ (∀ k, w.heap.size ≤ k → k < W.heap.size → w1.heap[k]? = W.heap[k]?) ∧ ∀ k, ownQ Pb H S Q s1 d k → ownQ Pb H S Q s d k ∨ W.heap.size ≤ k := by
  obtain ⟨s1, g1, hg, hf⟩ := ho
  have hWs := hW.size
  have hP := heap_lt h.p
  have hPB := h.pb
  have hW' := h.below K hW
  have hst : Still M.B0 W w1 := still_of hf fun k hk hz => ⟨h.fb k hz, hW'.sort (.inr (.inl hz))⟩
  have hown : ∀ k, ownQ Pb H S Q s1 d k → ownQ Pb H S Q s d k ∨ W.heap.size ≤ k := fun k hk => by
    rcases hk with hk | hk | hk
    · exact .inl (.inl hk)
    · rcases hg k hk with hh | hh
      · exact .inl (.inr (.inl hh))
      · exact .inr hh
    · exact .inl (.inr (.inr hk))
  refine ⟨s1, ⟨(hf.block _ (heap_lt hW'.p) h.pf).trans hW'.p, g1, hW'.gd.keep K (fun k hk => hf.block k (hW'.gd.lt hk) fun hz => h.dj k hz hk) hst, fun k hk hz => ?_, fun hk => ?_, h.pd, fun k hk => ?_, h.pb⟩, ⟨fun k hk => (hown k hk).imp id fun hh => Nat.le_trans hWs hh, ?_⟩, fun k h1 h2 => hf.block k h2 fun hz => by have := h.gj.lt hz; omega, hown⟩
  · rcases hg k hk with hh | hh
    · exact h.dj k hh hz
    · have := h.gd.lt hz; omega
  · rcases hg Pb hk with hh | hh
    · exact h.pf hh
    · omega
  · rcases hg k hk with hh | hh
    · exact h.fb k hh
    · omega
  · have f1 : Fr (ownQ Pb H S Q s d) w W := (Fr.of_below hW).mono fun k hk hs => by omega
    exact f1.trans (hf.mono fun k _ hk => .inr (.inl hk))
/-- Behind the document's call. -/
theorem QH.doc (K : KindJ M G CB) (h : QH M G CB cs i j hm hd J L w Pb H S Q u tv s d) (hW : Below w.heap.size w W) (ho : GDNext M G CB j hd' L' W S Q d w1) :
    ∃ d1, QH M G CB cs i (j + 1) hm hd' J L' w1 Pb H S Q u tv s d1 ∧ Grown w Pb H S Q s d w1 s d1 ∧ (∀ k, k < W.heap.size → ¬ d.own S Q k → w1.heap[k]? = W.heap[k]?) ∧ ∀ k, ownQ Pb H S Q s d1 k → ownQ Pb H S Q s d k ∨ W.heap.size ≤ k := by
  obtain ⟨d1, g1, hg, hf⟩ := ho
  have hWs := hW.size
  have hP := heap_lt h.p
  have hW' := h.below K hW
  have hown : ∀ k, ownQ Pb H S Q s d1 k → ownQ Pb H S Q s d k ∨ W.heap.size ≤ k := fun k hk => by
    rcases hk with hk | hk | hk
    · exact .inl (.inl hk)
    · exact .inl (.inr (.inl hk))
    · rcases hg k hk with hh | hh
      · exact .inl (.inr (.inr hh))
      · exact .inr hh
  refine ⟨d1, ⟨(hf.block _ (heap_lt hW'.p) h.pd).trans hW'.p, hW'.gj.keep fun k hk => hf.block k (hW'.gj.lt hk) fun hz => h.dj k hk hz, g1, fun k hk hz => ?_, h.pf, fun hk => ?_, h.fb, h.pb⟩, ⟨fun k hk => (hown k hk).imp id fun hh => Nat.le_trans hWs hh, ?_⟩, fun k h1 h2 => hf.block k h1 h2, hown⟩
  · rcases hg k hz with hh | hh
    · exact h.dj k hk hh
    · have := h.gj.lt hk; omega
  · rcases hg Pb hk with hh | hh
    · exact h.pd hh
    · omega
  · have f1 : Fr (ownQ Pb H S Q s d) w W := (Fr.of_below hW).mono fun k hk hs => by omega
    exact f1.trans (hf.mono fun k _ hk => .inr (.inr hk))
end
/-- A pair whose heralds are the same. -/
structure QP {RT : Type} (M : Mode RT) (G : RT → Prop) (ρ : RT → Pr → Prop) (CB : World → Prop) (cs : List Ins) (i : Nat) (hm : Her Pr) (hd : Her RT) (J : List Nat) (w : World) (Pb H S Q : Nat) (u tv : Value) (s : HS) (d : DS) : Prop where
  q : QH M G CB cs i i hm hd J J w Pb H S Q u tv s d
  same : SameHer ρ hd hm
/-- What both kinds of runs have. -/
structure KindP {RT : Type} (M : Mode RT) (G : RT → Prop) (ρ : RT → Pr → Prop) (CB : World → Prop) (cs : List Ins) : Prop where
  k : KindJ M G CB
  hE : SameEng M.E (machE cs) ρ
/-- Where a step leads. -/
def QNext {RT : Type} (M : Mode RT) (G : RT → Prop) (ρ : RT → Pr → Prop) (CB : World → Prop) (cs : List Ins) (i : Nat) (w : World) (Pb H S Q : Nat) (u tv : Value) (s : HS) (d : DS) (w' : World) : Prop :=
  ∃ hm hd J s1 d1, QP M G ρ CB cs (i + 1) hm hd J w' Pb H S Q u tv s1 d1 ∧ Grown w Pb H S Q s d w' s1 d1
section
variable {RT : Type} {M : Mode RT} {G : RT → Prop} {ρ : RT → Pr → Prop} {CB : World → Prop} {cs : List Ins} {i : Nat} {hm : Her Pr} {hd : Her RT} {J : List Nat} {w w' : World} {Pb H S Q : Nat} {u tv : Value} {s : HS} {d : DS}
theorem QH.le {j : Nat} {L : List Nat} (h : QH M G CB cs i j hm hd J L w Pb H S Q u tv s d) {i' j' : Nat} (hi : i ≤ i') (hj : j ≤ j') : QH M G CB cs i' j' hm hd J L w Pb H S Q u tv s d :=
  ⟨h.p, ⟨⟨h.gj.ga.fh, by have := h.gj.ga.n; omega, h.gj.ga.snd, h.gj.ga.ok.mono (by omega), h.gj.ga.qs, by have := h.gj.ga.last; omega⟩, h.gj.r, by have := h.gj.len; omega⟩, h.gd.le hj, h.dj, h.pf, h.pd, h.fb, h.pb⟩
theorem QP.stay (K : KindP M G ρ CB cs) (h : QP M G ρ CB cs i hm hd J w Pb H S Q u tv s d) (hb : Below w.heap.size w w') : QNext M G ρ CB cs i w Pb H S Q u tv s d w' :=
  ⟨hm, hd, J, s, d, ⟨(h.q.below K.k hb).le (by omega) (by omega), h.same⟩, Grown.below hb⟩
/-- As the harness had it: the pair. -/
theorem QP.pp (h : QP M G ρ CB cs i hm hd J w Pb H S Q u tv s d) : PP M CB w Pb H S Q u tv cs hm hd ⟨s.code, s.jr, s.rv, s.qv, s.n, strN J, d.pv, d.qv, d.rs⟩ :=
  ⟨h.q.p, h.q.gj.ga.fh, h.q.gd.sim, h.q.gd.cb, h.q.dj, h.q.pf, h.q.pd, h.q.fb, h.q.pb⟩
end
end Go.Proofs.Ytmmmnghiegajmaa
/- The harness: one step of a script, in memory: how the step walks, whatever the calls do. -/
namespace Go.Proofs.Ytmmmnghiegajmaa
open Go.RowKit Go.Proofs.Herald
set_option maxRecDepth 20000 in
set_option maxHeartbeats 8000000 in
theorem walk_trig (Pb H S O : Nat) (a b c : Int) (str : ByteArray) (T U : Int) (Mid Nx : World → Prop) (w : World) (p0 : w.cell? ⟨Pb, 0, none⟩ = some (.pointer (some ⟨H, 0, none⟩))) (hPl : Pb < w.heap.size)
    (hP : ∀ W, W = (w.alloc (.cells #[.int .i64 1, .int .i64 a, .int .i64 b, .int .i64 c, .string str] 125)).drew → Calls Try.prog 28 #[.pointer (some ⟨H, 0, none⟩), .int .i64 a] W fun e w1 => e = .returned (.tuple #[.int .i64 T, .int .i64 U]) ∧ Mid w1)
    (hD : ∀ w1, Mid w1 → Calls Try.prog 90 #[.pointer (some ⟨S, 0, none⟩), .int .i64 a] w1.drew fun e w2 => e = .returned (.tuple #[.int .i64 T, .int .i64 U]) ∧ Nx w2)
    (hQ : ∀ w1, Mid w1 → w1.cell? ⟨Pb, 1, none⟩ = some (.pointer (some ⟨S, 0, none⟩)) ∧ w1.heap[w.heap.size]? = some (.cells #[.int .i64 1, .int .i64 a, .int .i64 b, .int .i64 c, .string str] 125 (0, 0))) :
    Calls Try.prog 59 #[.pointer (some ⟨Pb, 0, none⟩), .agg #[.int .i64 1, .int .i64 a, .int .i64 b, .int .i64 c, .string str], .pointer (some ⟨O, 0, none⟩)] w fun e w' => e = .returned (.bool true) ∧ Nx w' := by
  have HP := (show Hid _ from hP : Hid (∀ W, W = (w.alloc (.cells #[.int .i64 1, .int .i64 a, .int .i64 b, .int .i64 c, .string str] 125)).drew → Calls Try.prog 28 #[.pointer (some ⟨H, 0, none⟩), .int .i64 a] W fun e w1 => e = .returned (.tuple #[.int .i64 T, .int .i64 U]) ∧ Mid w1))
  have HD := (show Hid _ from hD : Hid (∀ w1, Mid w1 → Calls Try.prog 90 #[.pointer (some ⟨S, 0, none⟩), .int .i64 a] w1.drew fun e w2 => e = .returned (.tuple #[.int .i64 T, .int .i64 U]) ∧ Nx w2))
  have HQ := (show Hid _ from hQ : Hid (∀ w1, Mid w1 → w1.cell? ⟨Pb, 1, none⟩ = some (.pointer (some ⟨S, 0, none⟩)) ∧ w1.heap[w.heap.size]? = some (.cells #[.int .i64 1, .int .i64 a, .int .i64 b, .int .i64 c, .string str] 125 (0, 0))))
  clear hP hD hQ
  go_enter Try.func59, Try.ntmps59
  go_upto_region 3 with fail
  go_cut [7, 8] (fun x y wx => x = .int .i64 T ∧ y = .int .i64 U ∧ Hid (Mid wx))
  case first =>
    go_region_with (go_at_call 28; refine (HP.out _ rfl).mono ?_; rintro e w1 ⟨rfl, ho⟩)
    all_goals
      go_wp2_with fail
      go_meet
      case rel => exact ⟨rfl, rfl, ho⟩
  case rest =>
    obtain ⟨rfl, rfl, HX⟩ := hcut
    obtain ⟨q1, hob⟩ := HQ.out _ HX.out
    obtain ⟨m0, m1, m2, m3, m4⟩ := mark5 hob
    clear p0 hPl HP hob HQ
    go_upto_region 4 with fail
    go_cut [9, 10] (fun x y wx => x = .int .i64 T ∧ y = .int .i64 U ∧ Hid (Nx wx))
    case first =>
      go_region_with (go_at_call 90; refine (HD.out _ HX.out).mono ?_; rintro e w2 ⟨rfl, ho⟩)
      all_goals
        go_wp2_with fail
        go_meet
        case rel => exact ⟨rfl, rfl, ho⟩
    case rest =>
      obtain ⟨rfl, rfl, HY⟩ := hcut
      clear q1 m0 m1 m2 m3 m4 HD HX
      go_wp2_with fail
      go_ret
      exact ⟨rfl, HY.out⟩
set_option maxRecDepth 20000 in
set_option maxHeartbeats 8000000 in
theorem walk_tick (Pb H S O : Nat) (a b c : Int) (str : ByteArray) (T : Int) (Mid Nx : World → Prop) (w : World) (p0 : w.cell? ⟨Pb, 0, none⟩ = some (.pointer (some ⟨H, 0, none⟩))) (hPl : Pb < w.heap.size)
    (hP : ∀ W, W = (w.alloc (.cells #[.int .i64 2, .int .i64 a, .int .i64 b, .int .i64 c, .string str] 125)).drew → Calls Try.prog 33 #[.pointer (some ⟨H, 0, none⟩), .int .i64 a] W fun e w1 => e = .returned (.int .i64 T) ∧ Mid w1)
    (hD : ∀ w1, Mid w1 → Calls Try.prog 91 #[.pointer (some ⟨S, 0, none⟩), .int .i64 a] w1.drew fun e w2 => e = .returned (.int .i64 T) ∧ Nx w2)
    (hQ : ∀ w1, Mid w1 → w1.cell? ⟨Pb, 1, none⟩ = some (.pointer (some ⟨S, 0, none⟩)) ∧ w1.heap[w.heap.size]? = some (.cells #[.int .i64 2, .int .i64 a, .int .i64 b, .int .i64 c, .string str] 125 (0, 0))) :
    Calls Try.prog 59 #[.pointer (some ⟨Pb, 0, none⟩), .agg #[.int .i64 2, .int .i64 a, .int .i64 b, .int .i64 c, .string str], .pointer (some ⟨O, 0, none⟩)] w fun e w' => e = .returned (.bool true) ∧ Nx w' := by
  have HP := (show Hid _ from hP : Hid (∀ W, W = (w.alloc (.cells #[.int .i64 2, .int .i64 a, .int .i64 b, .int .i64 c, .string str] 125)).drew → Calls Try.prog 33 #[.pointer (some ⟨H, 0, none⟩), .int .i64 a] W fun e w1 => e = .returned (.int .i64 T) ∧ Mid w1))
  have HD := (show Hid _ from hD : Hid (∀ w1, Mid w1 → Calls Try.prog 91 #[.pointer (some ⟨S, 0, none⟩), .int .i64 a] w1.drew fun e w2 => e = .returned (.int .i64 T) ∧ Nx w2))
  have HQ := (show Hid _ from hQ : Hid (∀ w1, Mid w1 → w1.cell? ⟨Pb, 1, none⟩ = some (.pointer (some ⟨S, 0, none⟩)) ∧ w1.heap[w.heap.size]? = some (.cells #[.int .i64 2, .int .i64 a, .int .i64 b, .int .i64 c, .string str] 125 (0, 0))))
  clear hP hD hQ
  go_enter Try.func59, Try.ntmps59
  go_upto_region 7 with fail
  go_cut [11] (fun x wx => x = .int .i64 T ∧ Hid (Mid wx))
  case first =>
    go_region_with (go_at_call 33; refine (HP.out _ rfl).mono ?_; rintro e w1 ⟨rfl, ho⟩)
    all_goals
      go_wp2_with fail
      go_meet
      case rel => exact ⟨rfl, ho⟩
  case rest =>
    obtain ⟨rfl, HX⟩ := hcut
    obtain ⟨q1, hob⟩ := HQ.out _ HX.out
    obtain ⟨m0, m1, m2, m3, m4⟩ := mark5 hob
    clear p0 hPl HP hob HQ
    go_upto_region 8 with fail
    go_cut [12] (fun x wx => x = .int .i64 T ∧ Hid (Nx wx))
    case first =>
      go_region_with (go_at_call 91; refine (HD.out _ HX.out).mono ?_; rintro e w2 ⟨rfl, ho⟩)
      all_goals
        go_wp2_with fail
        go_meet
        case rel => exact ⟨rfl, ho⟩
    case rest =>
      obtain ⟨rfl, HY⟩ := hcut
      clear q1 m0 m1 m2 m3 m4 HD HX
      go_wp2_with fail
      go_ret
      exact ⟨rfl, HY.out⟩
set_option maxRecDepth 20000 in
set_option maxHeartbeats 8000000 in
theorem walk_ack (Pb H S O : Nat) (a b c : Int) (str : ByteArray) (T : Int) (Mid Nx : World → Prop) (w : World) (p0 : w.cell? ⟨Pb, 0, none⟩ = some (.pointer (some ⟨H, 0, none⟩))) (hPl : Pb < w.heap.size)
    (hP : ∀ W, W = (w.alloc (.cells #[.int .i64 3, .int .i64 a, .int .i64 b, .int .i64 c, .string str] 125)).drew → Calls Try.prog 38 #[.pointer (some ⟨H, 0, none⟩), .int .i64 a, .int .i64 b] W fun e w1 => e = .returned (.int .i64 T) ∧ Mid w1)
    (hD : ∀ w1, Mid w1 → Calls Try.prog 92 #[.pointer (some ⟨S, 0, none⟩), .int .i64 a, .int .i64 b] w1.drew fun e w2 => e = .returned (.int .i64 T) ∧ Nx w2)
    (hQ : ∀ w1, Mid w1 → w1.cell? ⟨Pb, 1, none⟩ = some (.pointer (some ⟨S, 0, none⟩)) ∧ w1.heap[w.heap.size]? = some (.cells #[.int .i64 3, .int .i64 a, .int .i64 b, .int .i64 c, .string str] 125 (0, 0))) :
    Calls Try.prog 59 #[.pointer (some ⟨Pb, 0, none⟩), .agg #[.int .i64 3, .int .i64 a, .int .i64 b, .int .i64 c, .string str], .pointer (some ⟨O, 0, none⟩)] w fun e w' => e = .returned (.bool true) ∧ Nx w' := by
  have HP := (show Hid _ from hP : Hid (∀ W, W = (w.alloc (.cells #[.int .i64 3, .int .i64 a, .int .i64 b, .int .i64 c, .string str] 125)).drew → Calls Try.prog 38 #[.pointer (some ⟨H, 0, none⟩), .int .i64 a, .int .i64 b] W fun e w1 => e = .returned (.int .i64 T) ∧ Mid w1))
  have HD := (show Hid _ from hD : Hid (∀ w1, Mid w1 → Calls Try.prog 92 #[.pointer (some ⟨S, 0, none⟩), .int .i64 a, .int .i64 b] w1.drew fun e w2 => e = .returned (.int .i64 T) ∧ Nx w2))
  have HQ := (show Hid _ from hQ : Hid (∀ w1, Mid w1 → w1.cell? ⟨Pb, 1, none⟩ = some (.pointer (some ⟨S, 0, none⟩)) ∧ w1.heap[w.heap.size]? = some (.cells #[.int .i64 3, .int .i64 a, .int .i64 b, .int .i64 c, .string str] 125 (0, 0))))
  clear hP hD hQ
  go_enter Try.func59, Try.ntmps59
  go_upto_region 11 with fail
  go_cut [13] (fun x wx => x = .int .i64 T ∧ Hid (Mid wx))
  case first =>
    go_region_with (go_at_call 38; refine (HP.out _ rfl).mono ?_; rintro e w1 ⟨rfl, ho⟩)
    all_goals
      go_wp2_with fail
      go_meet
      case rel => exact ⟨rfl, ho⟩
  case rest =>
    obtain ⟨rfl, HX⟩ := hcut
    obtain ⟨q1, hob⟩ := HQ.out _ HX.out
    obtain ⟨m0, m1, m2, m3, m4⟩ := mark5 hob
    clear p0 hPl HP hob HQ
    go_upto_region 12 with fail
    go_cut [14] (fun x wx => x = .int .i64 T ∧ Hid (Nx wx))
    case first =>
      go_region_with (go_at_call 92; refine (HD.out _ HX.out).mono ?_; rintro e w2 ⟨rfl, ho⟩)
      all_goals
        go_wp2_with fail
        go_meet
        case rel => exact ⟨rfl, ho⟩
    case rest =>
      obtain ⟨rfl, HY⟩ := hcut
      clear q1 m0 m1 m2 m3 m4 HD HX
      go_wp2_with fail
      go_ret
      exact ⟨rfl, HY.out⟩
set_option maxRecDepth 20000 in
set_option maxHeartbeats 8000000 in
theorem walk_cancel (Pb H S O : Nat) (a b c : Int) (str : ByteArray) (T : Int) (Mid Nx : World → Prop) (w : World) (p0 : w.cell? ⟨Pb, 0, none⟩ = some (.pointer (some ⟨H, 0, none⟩))) (hPl : Pb < w.heap.size)
    (hP : ∀ W, W = (w.alloc (.cells #[.int .i64 4, .int .i64 a, .int .i64 b, .int .i64 c, .string str] 125)).drew → Calls Try.prog 40 #[.pointer (some ⟨H, 0, none⟩), .int .i64 a] W fun e w1 => e = .returned (.int .i64 T) ∧ Mid w1)
    (hD : ∀ w1, Mid w1 → Calls Try.prog 93 #[.pointer (some ⟨S, 0, none⟩), .int .i64 a] w1.drew fun e w2 => e = .returned (.int .i64 T) ∧ Nx w2)
    (hQ : ∀ w1, Mid w1 → w1.cell? ⟨Pb, 1, none⟩ = some (.pointer (some ⟨S, 0, none⟩)) ∧ w1.heap[w.heap.size]? = some (.cells #[.int .i64 4, .int .i64 a, .int .i64 b, .int .i64 c, .string str] 125 (0, 0))) :
    Calls Try.prog 59 #[.pointer (some ⟨Pb, 0, none⟩), .agg #[.int .i64 4, .int .i64 a, .int .i64 b, .int .i64 c, .string str], .pointer (some ⟨O, 0, none⟩)] w fun e w' => e = .returned (.bool true) ∧ Nx w' := by
  have HP := (show Hid _ from hP : Hid (∀ W, W = (w.alloc (.cells #[.int .i64 4, .int .i64 a, .int .i64 b, .int .i64 c, .string str] 125)).drew → Calls Try.prog 40 #[.pointer (some ⟨H, 0, none⟩), .int .i64 a] W fun e w1 => e = .returned (.int .i64 T) ∧ Mid w1))
  have HD := (show Hid _ from hD : Hid (∀ w1, Mid w1 → Calls Try.prog 93 #[.pointer (some ⟨S, 0, none⟩), .int .i64 a] w1.drew fun e w2 => e = .returned (.int .i64 T) ∧ Nx w2))
  have HQ := (show Hid _ from hQ : Hid (∀ w1, Mid w1 → w1.cell? ⟨Pb, 1, none⟩ = some (.pointer (some ⟨S, 0, none⟩)) ∧ w1.heap[w.heap.size]? = some (.cells #[.int .i64 4, .int .i64 a, .int .i64 b, .int .i64 c, .string str] 125 (0, 0))))
  clear hP hD hQ
  go_enter Try.func59, Try.ntmps59
  go_upto_region 15 with fail
  go_cut [15] (fun x wx => x = .int .i64 T ∧ Hid (Mid wx))
  case first =>
    go_region_with (go_at_call 40; refine (HP.out _ rfl).mono ?_; rintro e w1 ⟨rfl, ho⟩)
    all_goals
      go_wp2_with fail
      go_meet
      case rel => exact ⟨rfl, ho⟩
  case rest =>
    obtain ⟨rfl, HX⟩ := hcut
    obtain ⟨q1, hob⟩ := HQ.out _ HX.out
    obtain ⟨m0, m1, m2, m3, m4⟩ := mark5 hob
    clear p0 hPl HP hob HQ
    go_upto_region 16 with fail
    go_cut [16] (fun x wx => x = .int .i64 T ∧ Hid (Nx wx))
    case first =>
      go_region_with (go_at_call 93; refine (HD.out _ HX.out).mono ?_; rintro e w2 ⟨rfl, ho⟩)
      all_goals
        go_wp2_with fail
        go_meet
        case rel => exact ⟨rfl, ho⟩
    case rest =>
      obtain ⟨rfl, HY⟩ := hcut
      clear q1 m0 m1 m2 m3 m4 HD HX
      go_wp2_with fail
      go_ret
      exact ⟨rfl, HY.out⟩
set_option maxRecDepth 20000 in
set_option maxHeartbeats 8000000 in
theorem walk_drain (Pb H S O : Nat) (a b c : Int) (str : ByteArray) (m : Msg) (f : Int) (Mid Nx : World → Prop) (w : World) (p0 : w.cell? ⟨Pb, 0, none⟩ = some (.pointer (some ⟨H, 0, none⟩))) (hPl : Pb < w.heap.size)
    (hp1 : Calls Try.prog 37 #[.pointer (some ⟨H, 0, none⟩), .int .i64 a] (w.alloc (.cells #[.int .i64 5, .int .i64 a, .int .i64 b, .int .i64 c, .string str] 125)).drew fun e w1 => e = .returned (.tuple #[.agg #[.int .i64 m.dev, .int .i64 m.run, .int .i64 m.num, .int .i64 m.key], .int .i64 f]) ∧ w.heap.size < w1.heap.size ∧ ∀ o2, Mid (w1.alloc o2))
    (hp2 : Calls Try.prog 37 #[.pointer (some ⟨H, 0, none⟩), .int .i64 a] ((w.alloc (.cells #[.int .i64 5, .int .i64 a, .int .i64 b, .int .i64 c, .string str] 125)).alloc (.cells #[.int .i64 0, .int .i64 0, .int .i64 0, .int .i64 0] 83)).drew fun e w1 => e = .returned (.tuple #[.agg #[.int .i64 m.dev, .int .i64 m.run, .int .i64 m.num, .int .i64 m.key], .int .i64 f]) ∧ w1.heap[w.heap.size + 1]? = some (.cells #[.int .i64 0, .int .i64 0, .int .i64 0, .int .i64 0] 83 (0, 0)) ∧ ∀ u0 u1 u2 u3, Mid ((((w1.setCell ⟨w.heap.size + 1, 0, none⟩ u0).setCell ⟨w.heap.size + 1, 1, none⟩ u1).setCell ⟨w.heap.size + 1, 2, none⟩ u2).setCell ⟨w.heap.size + 1, 3, none⟩ u3))
    (hd1 : ∀ w1 X ox, w.heap.size ≤ X → w1.heap[X]? = some ox → Mid w1 → Calls Try.prog 94 #[.pointer (some ⟨S, 0, none⟩), .int .i64 a] w1.drew fun e w2 => e = .returned (.tuple #[.agg #[.int .i64 m.dev, .int .i64 m.run, .int .i64 m.num, .int .i64 m.key], .int .i64 f]) ∧ w2.heap[X]? = some ox ∧ ∀ o2, Nx (w2.alloc o2))
    (hd2 : ∀ w1 X ox, w.heap.size ≤ X → w1.heap[X]? = some ox → Mid w1 → Calls Try.prog 94 #[.pointer (some ⟨S, 0, none⟩), .int .i64 a] (w1.alloc (.cells #[.int .i64 0, .int .i64 0, .int .i64 0, .int .i64 0] 83)).drew fun e w2 => e = .returned (.tuple #[.agg #[.int .i64 m.dev, .int .i64 m.run, .int .i64 m.num, .int .i64 m.key], .int .i64 f]) ∧ w2.heap[w1.heap.size]? = some (.cells #[.int .i64 0, .int .i64 0, .int .i64 0, .int .i64 0] 83 (0, 0)) ∧ ∀ u0 u1 u2 u3, ((((w2.setCell ⟨w1.heap.size, 0, none⟩ u0).setCell ⟨w1.heap.size, 1, none⟩ u1).setCell ⟨w1.heap.size, 2, none⟩ u2).setCell ⟨w1.heap.size, 3, none⟩ u3).heap[X]? = some ox ∧ Nx ((((w2.setCell ⟨w1.heap.size, 0, none⟩ u0).setCell ⟨w1.heap.size, 1, none⟩ u1).setCell ⟨w1.heap.size, 2, none⟩ u2).setCell ⟨w1.heap.size, 3, none⟩ u3))
    (hq : ∀ w1, Mid w1 → w1.cell? ⟨Pb, 1, none⟩ = some (.pointer (some ⟨S, 0, none⟩)) ∧ w1.heap[w.heap.size]? = some (.cells #[.int .i64 5, .int .i64 a, .int .i64 b, .int .i64 c, .string str] 125 (0, 0)) ∧ Pb < w1.heap.size) :
    Calls Try.prog 59 #[.pointer (some ⟨Pb, 0, none⟩), .agg #[.int .i64 5, .int .i64 a, .int .i64 b, .int .i64 c, .string str], .pointer (some ⟨O, 0, none⟩)] w fun e w' => e = .returned (.bool true) ∧ Nx w' := by
  have HP1 := (show Hid _ from hp1 : Hid (Calls Try.prog 37 #[.pointer (some ⟨H, 0, none⟩), .int .i64 a] (w.alloc (.cells #[.int .i64 5, .int .i64 a, .int .i64 b, .int .i64 c, .string str] 125)).drew fun e w1 => e = .returned (.tuple #[.agg #[.int .i64 m.dev, .int .i64 m.run, .int .i64 m.num, .int .i64 m.key], .int .i64 f]) ∧ w.heap.size < w1.heap.size ∧ ∀ o2, Mid (w1.alloc o2)))
  have HP2 := (show Hid _ from hp2 : Hid (Calls Try.prog 37 #[.pointer (some ⟨H, 0, none⟩), .int .i64 a] ((w.alloc (.cells #[.int .i64 5, .int .i64 a, .int .i64 b, .int .i64 c, .string str] 125)).alloc (.cells #[.int .i64 0, .int .i64 0, .int .i64 0, .int .i64 0] 83)).drew fun e w1 => e = .returned (.tuple #[.agg #[.int .i64 m.dev, .int .i64 m.run, .int .i64 m.num, .int .i64 m.key], .int .i64 f]) ∧ w1.heap[w.heap.size + 1]? = some (.cells #[.int .i64 0, .int .i64 0, .int .i64 0, .int .i64 0] 83 (0, 0)) ∧ ∀ u0 u1 u2 u3, Mid ((((w1.setCell ⟨w.heap.size + 1, 0, none⟩ u0).setCell ⟨w.heap.size + 1, 1, none⟩ u1).setCell ⟨w.heap.size + 1, 2, none⟩ u2).setCell ⟨w.heap.size + 1, 3, none⟩ u3)))
  have HD1 := (show Hid _ from hd1 : Hid (∀ w1 X ox, w.heap.size ≤ X → w1.heap[X]? = some ox → Mid w1 → Calls Try.prog 94 #[.pointer (some ⟨S, 0, none⟩), .int .i64 a] w1.drew fun e w2 => e = .returned (.tuple #[.agg #[.int .i64 m.dev, .int .i64 m.run, .int .i64 m.num, .int .i64 m.key], .int .i64 f]) ∧ w2.heap[X]? = some ox ∧ ∀ o2, Nx (w2.alloc o2)))
  have HD2 := (show Hid _ from hd2 : Hid (∀ w1 X ox, w.heap.size ≤ X → w1.heap[X]? = some ox → Mid w1 → Calls Try.prog 94 #[.pointer (some ⟨S, 0, none⟩), .int .i64 a] (w1.alloc (.cells #[.int .i64 0, .int .i64 0, .int .i64 0, .int .i64 0] 83)).drew fun e w2 => e = .returned (.tuple #[.agg #[.int .i64 m.dev, .int .i64 m.run, .int .i64 m.num, .int .i64 m.key], .int .i64 f]) ∧ w2.heap[w1.heap.size]? = some (.cells #[.int .i64 0, .int .i64 0, .int .i64 0, .int .i64 0] 83 (0, 0)) ∧ ∀ u0 u1 u2 u3, ((((w2.setCell ⟨w1.heap.size, 0, none⟩ u0).setCell ⟨w1.heap.size, 1, none⟩ u1).setCell ⟨w1.heap.size, 2, none⟩ u2).setCell ⟨w1.heap.size, 3, none⟩ u3).heap[X]? = some ox ∧ Nx ((((w2.setCell ⟨w1.heap.size, 0, none⟩ u0).setCell ⟨w1.heap.size, 1, none⟩ u1).setCell ⟨w1.heap.size, 2, none⟩ u2).setCell ⟨w1.heap.size, 3, none⟩ u3)))
  have HQ := (show Hid _ from hq : Hid (∀ w1, Mid w1 → w1.cell? ⟨Pb, 1, none⟩ = some (.pointer (some ⟨S, 0, none⟩)) ∧ w1.heap[w.heap.size]? = some (.cells #[.int .i64 5, .int .i64 a, .int .i64 b, .int .i64 c, .string str] 125 (0, 0)) ∧ Pb < w1.heap.size))
  clear hp1 hp2 hd1 hd2 hq
  go_enter Try.func59, Try.ntmps59
  go_upto_region 19 with fail
  go_cut [17, 18] (fun x y wx => ∃ X, x = .pointer (some ⟨X, 0, none⟩) ∧ y = .int .i64 f ∧ Hid (w.heap.size ≤ X ∧ wx.heap[X]? = some (.cells #[.int .i64 m.dev, .int .i64 m.run, .int .i64 m.num, .int .i64 m.key] 83 (0, 0)) ∧ Mid wx))
  case first =>
    go_region_with (go_at_call 37; first | (with_reducible refine HP1.out.mono ?_; rintro e w1 ⟨rfl, ho1, ho3⟩) | (with_reducible refine HP2.out.mono ?_; rintro e w1 ⟨rfl, hz1, hz3⟩; obtain ⟨n0, n1, n2, n3, y0, y1, y2, y3⟩ := cells4 hz1))
    all_goals
      go_wp2_with fail
      go_meet
      case rel =>
        first
          | exact ⟨w.heap.size + 1, rfl, rfl, Nat.le_succ _, set_cells4 hz1 _ _ _ _, hz3 _ _ _ _⟩
          | exact ⟨w1.heap.size, rfl, rfl, Nat.le_of_lt ho1, heap_alloc_new _ _, ho3 _⟩
  case rest =>
    obtain ⟨X, rfl, rfl, HX⟩ := hcut
    obtain ⟨q1, hob, hPw⟩ := HQ.out _ HX.out.2.2
    obtain ⟨m0, m1, m2, m3, m4⟩ := mark5 hob
    have hOl : w.heap.size < wc.heap.size := heap_lt hob
    have HDA := HD1.out wc X _ HX.out.1 HX.out.2.1 HX.out.2.2
    have HDB := HD2.out wc X _ HX.out.1 HX.out.2.1 HX.out.2.2
    have HA : Hid (Calls Try.prog 94 #[.pointer (some ⟨S, 0, none⟩), .int .i64 a] wc.drew fun e w2 => e = .returned (.tuple #[.agg #[.int .i64 m.dev, .int .i64 m.run, .int .i64 m.num, .int .i64 m.key], .int .i64 f]) ∧ w2.heap[X]? = some (.cells #[.int .i64 m.dev, .int .i64 m.run, .int .i64 m.num, .int .i64 m.key] 83 (0, 0)) ∧ ∀ o2, Nx (w2.alloc o2)) := HDA
    have HB : Hid (Calls Try.prog 94 #[.pointer (some ⟨S, 0, none⟩), .int .i64 a] (wc.alloc (.cells #[.int .i64 0, .int .i64 0, .int .i64 0, .int .i64 0] 83)).drew fun e w2 => e = .returned (.tuple #[.agg #[.int .i64 m.dev, .int .i64 m.run, .int .i64 m.num, .int .i64 m.key], .int .i64 f]) ∧ w2.heap[wc.heap.size]? = some (.cells #[.int .i64 0, .int .i64 0, .int .i64 0, .int .i64 0] 83 (0, 0)) ∧ ∀ u0 u1 u2 u3, ((((w2.setCell ⟨wc.heap.size, 0, none⟩ u0).setCell ⟨wc.heap.size, 1, none⟩ u1).setCell ⟨wc.heap.size, 2, none⟩ u2).setCell ⟨wc.heap.size, 3, none⟩ u3).heap[X]? = some (.cells #[.int .i64 m.dev, .int .i64 m.run, .int .i64 m.num, .int .i64 m.key] 83 (0, 0)) ∧ Nx ((((w2.setCell ⟨wc.heap.size, 0, none⟩ u0).setCell ⟨wc.heap.size, 1, none⟩ u1).setCell ⟨wc.heap.size, 2, none⟩ u2).setCell ⟨wc.heap.size, 3, none⟩ u3)) := HDB
    clear p0 hPl HP1 HP2 hob HQ HD1 HD2 HDA HDB
    go_upto_region 20 with fail
    go_cut [19, 20] (fun x y wx => ∃ Y, x = .pointer (some ⟨Y, 0, none⟩) ∧ y = .int .i64 f ∧ Hid (wx.heap[Y]? = some (.cells #[.int .i64 m.dev, .int .i64 m.run, .int .i64 m.num, .int .i64 m.key] 83 (0, 0)) ∧ wx.heap[X]? = some (.cells #[.int .i64 m.dev, .int .i64 m.run, .int .i64 m.num, .int .i64 m.key] 83 (0, 0)) ∧ Nx wx))
    case first =>
      go_region_with (go_at_call 94; first | (with_reducible refine HA.out.mono ?_; rintro e w2 ⟨rfl, ho1, ho3⟩) | (with_reducible refine HB.out.mono ?_; rintro e w2 ⟨rfl, hz1, hz3⟩; obtain ⟨n0, n1, n2, n3, y0, y1, y2, y3⟩ := cells4 hz1))
      all_goals
        go_wp2_with fail
        go_meet
        case rel =>
          first
            | exact ⟨wc.heap.size, rfl, rfl, set_cells4 hz1 _ _ _ _, (hz3 _ _ _ _).1, (hz3 _ _ _ _).2⟩
            | exact ⟨w2.heap.size, rfl, rfl, heap_alloc_new _ _, (Below.heap_alloc _ _ _ (heap_lt ho1)).trans ho1, ho3 _⟩
    case rest =>
      obtain ⟨Y, rfl, rfl, HY⟩ := hcut
      obtain ⟨r0, r1, r2, r3⟩ := mark4 HY.out.1
      obtain ⟨t0, t1, t2, t3⟩ := mark4 HY.out.2.1
      clear q1 m0 m1 m2 m3 m4 HA HB HX
      go_wp2_with fail
      go_ret
      exact ⟨rfl, HY.out.2.2⟩
end Go.Proofs.Ytmmmnghiegajmaa
/- The harness: steps that do nothing, look, or ask for the journal. -/
namespace Go.Proofs.Ytmmmnghiegajmaa
open Go.RowKit Go.Proofs.Herald
set_option maxRecDepth 20000 in
set_option maxHeartbeats 8000000 in
theorem walk_none (Pb O : Nat) (k a b c : Int) (str : ByteArray) (Nx : World → Prop) (w : World) (hk : k ≤ 0 ∨ 8 ≤ k) (hN : ∀ ob, Nx (w.alloc ob)) :
    Calls Try.prog 59 #[.pointer (some ⟨Pb, 0, none⟩), .agg #[.int .i64 k, .int .i64 a, .int .i64 b, .int .i64 c, .string str], .pointer (some ⟨O, 0, none⟩)] w fun e w' => e = .returned (.bool true) ∧ Nx w' := by
  have HS : Hid (∀ ob, Nx (w.alloc ob)) := hN
  have k1 : (k == 1) = false := by simp; omega
  have k2 : (k == 2) = false := by simp; omega
  have k3 : (k == 3) = false := by simp; omega
  have k4 : (k == 4) = false := by simp; omega
  have k5 : (k == 5) = false := by simp; omega
  have k6 : (k == 6) = false := by simp; omega
  have k7 : (k == 7) = false := by simp; omega
  clear hN hk
  go_enter Try.func59, Try.ntmps59
  go_wp2_with fail
  go_ret
  exact ⟨rfl, HS.out _⟩
set_option maxRecDepth 20000 in
set_option maxHeartbeats 8000000 in
theorem walk_show (Pb O : Nat) (a b c : Int) (str : ByteArray) (Nx : World → Prop) (w : World) (hL : ∀ ob, Calls Try.prog 17 #[.pointer (some ⟨Pb, 0, none⟩), .pointer (some ⟨O, 0, none⟩)] (w.alloc ob) fun e w' => e = .returned (.bool true) ∧ Nx w') :
    Calls Try.prog 59 #[.pointer (some ⟨Pb, 0, none⟩), .agg #[.int .i64 6, .int .i64 a, .int .i64 b, .int .i64 c, .string str], .pointer (some ⟨O, 0, none⟩)] w fun e w' => e = .returned (.bool true) ∧ Nx w' := by
  have HL := (show Hid _ from hL : Hid (∀ ob, Calls Try.prog 17 #[.pointer (some ⟨Pb, 0, none⟩), .pointer (some ⟨O, 0, none⟩)] (w.alloc ob) fun e w' => e = .returned (.bool true) ∧ Nx w'))
  clear hL
  go_enter Try.func59, Try.ntmps59
  go_wp2_with fail
  refine (HL.out _).mono ?_
  rintro e w1 ⟨rfl, ho⟩
  have HO : Hid (Nx w1) := ho
  clear ho HL
  go_wp2_with fail
  go_ret
  exact ⟨rfl, HO.out⟩
set_option maxRecDepth 20000 in
set_option maxHeartbeats 8000000 in
theorem walk_journal (Pb H S O : Nat) (a b c : Int) (str J : ByteArray) (Nx : World → Prop) (w : World) (p0 : w.cell? ⟨Pb, 0, none⟩ = some (.pointer (some ⟨H, 0, none⟩))) (hPl : Pb < w.heap.size)
    (hJ : ∀ ob, Calls Try.prog 64 #[.pointer (some ⟨H, 0, none⟩)] (w.alloc ob) fun e w' => e = .returned (.string J) ∧ w'.cell? ⟨Pb, 1, none⟩ = some (.pointer (some ⟨S, 0, none⟩)) ∧ w'.cell? ⟨S, 7, none⟩ = some (.string J) ∧ Nx w') :
    Calls Try.prog 59 #[.pointer (some ⟨Pb, 0, none⟩), .agg #[.int .i64 7, .int .i64 a, .int .i64 b, .int .i64 c, .string str], .pointer (some ⟨O, 0, none⟩)] w fun e w' => e = .returned (.bool true) ∧ Nx w' := by
  have HJ := (show Hid _ from hJ : Hid (∀ ob, Calls Try.prog 64 #[.pointer (some ⟨H, 0, none⟩)] (w.alloc ob) fun e w' => e = .returned (.string J) ∧ w'.cell? ⟨Pb, 1, none⟩ = some (.pointer (some ⟨S, 0, none⟩)) ∧ w'.cell? ⟨S, 7, none⟩ = some (.string J) ∧ Nx w'))
  clear hJ
  go_enter Try.func59, Try.ntmps59
  go_wp2_with fail
  refine (HJ.out _).mono ?_
  rintro e w1 ⟨rfl, c1, c7, ho⟩
  have HO : Hid (Nx w1) := ho
  clear ho HJ p0
  go_wp2_with fail
  go_ret
  exact ⟨rfl, HO.out⟩
end Go.Proofs.Ytmmmnghiegajmaa
