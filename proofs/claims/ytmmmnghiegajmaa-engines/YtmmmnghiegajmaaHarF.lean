/- The harness: one step of a script, in memory. -/
import Derived.Test.YtmmmnghiegajmaaHarA
import Derived.Deep.RegionWith
import Derived.Deep.DeepCutAuto
namespace Go.Proofs.Ytmmmnghiegajmaa
open Go.RowKit Go.Proofs.Herald

/-- Behind the program's call. -/
def HMid {RT : Type} (M : Mode RT) (CB : World → Prop) (w : World) (Pb H S Q O : Nat) (u tv : Value) (cs : List Ins) (hm' : Her Pr) (hd : Her RT) (s : PSt) (o : OSt) (ob : Obj) (w1 : World) : Prop :=
  ∃ s1, LK M CB w1 Pb H S Q O u tv cs hm' hd s1 o ∧ s1.drec = s.drec ∧ s1.n ≤ s.n + 19 ∧ Below M.B0 w w1 ∧ w1.heap[w.heap.size]? = some ob

theorem mid_of {RT : Type} {M : Mode RT} (hM : ModeOk M) {CB : World → Prop} (hCB : ∀ w w', CB w → Still M.B0 w w' → CB w') {w W w1 : World} {Pb H S Q O : Nat} {u tv : Value} {cs : List Ins} {hm hm' : Her Pr} {hd : Her RT} {s : PSt} {o : OSt} {ob : Obj} (L : LK M CB w Pb H S Q O u tv cs hm hd s o) (hW : W = (w.alloc ob).drew) (ho : FHOut W w1 H cs hm' s.code s.jr s.rv s.qv (s.n + 19)) : HMid M CB w Pb H S Q O u tv cs hm' hd s o ob w1 := by
  have hb : Below w.heap.size w W := by rw [hW]; exact ((Below.refl _ _).alloc (Nat.le_refl _) _).drew
  obtain ⟨s1, h1, h2, h3, h4, h5, _⟩ := prog_step hM hCB L hb ho
  have hWb : W.heap[w.heap.size]? = some ob := by rw [hW]; exact heap_alloc_new _ _
  exact ⟨s1, h1, h2, h3, h4, (h5 w.heap.size (Nat.le_refl _) (heap_lt hWb)).trans hWb⟩

set_option maxRecDepth 20000 in
set_option maxHeartbeats 8000000 in
theorem play_trig {RT : Type} {M : Mode RT} {G : RT → Prop} {ρ : RT → Pr → Prop} {CB : World → Prop} {cs : List Ins} (K : Kinds M G ρ CB cs) (Pb H S Q O : Nat) (u tv : Value) (i : Nat) (hm : Her Pr) (hd : Her RT) (s : PSt) (o : OSt) (a b c : Int) (str : ByteArray) (w : World) (h : ST M G ρ CB w Pb H S Q O u tv cs i hm hd s o) (hi : i ≤ 1100000) :
    Calls Try.prog 59 #[.pointer (some ⟨Pb, 0, none⟩), .agg #[.int .i64 1, .int .i64 a, .int .i64 b, .int .i64 c, .string str], .pointer (some ⟨O, 0, none⟩)] w fun e w' => e = .returned (.bool true) ∧ Next M G ρ CB w Pb H S Q O u tv cs i w' := by
  have p0 : w.cell? ⟨Pb, 0, none⟩ = some (.pointer (some ⟨H, 0, none⟩)) := (cell_of_heap h.lk.pp.p).trans rfl
  have hPl : Pb < w.heap.size := heap_lt h.lk.pp.p
  have hmok := h.mok K (by omega)
  obtain ⟨b1, b2, hB⟩ := both_trig K h a
  generalize hT : trigH (machE cs) hm a = T at *
  generalize hT2 : trigH M.E hd a = T2 at *
  have hn := h.n
  have hdr := h.dr
  have HP : Hid (∀ W, W = (w.alloc (.cells #[.int .i64 1, .int .i64 a, .int .i64 b, .int .i64 c, .string str] 125)).drew → Calls Try.prog 28 #[.pointer (some ⟨H, 0, none⟩), .int .i64 a] W fun e w1 => e = .returned (.tuple #[.int .i64 T.1, .int .i64 T.2.1]) ∧ HMid M CB w Pb H S Q O u tv cs T.2.2 hd s o (.cells #[.int .i64 1, .int .i64 a, .int .i64 b, .int .i64 c, .string str] 125 (0, 0)) w1) := fun W hW => by
    have hb : Below w.heap.size w W := by rw [hW]; exact ((Below.refl _ _).alloc (Nat.le_refl _) _).drew
    refine (by have hF := (f_Trigger H cs hm s.code s.jr s.rv s.qv s.n a _ W (h.lk.pp.f.below hb) hmok (by omega)); rw [hT] at hF; exact hF : Calls Try.prog 28 #[.pointer (some ⟨H, 0, none⟩), .int .i64 a] W fun e w' => e = .returned (.tuple #[.int .i64 T.1, .int .i64 T.2.1]) ∧ FHOut W w' H cs T.2.2 s.code s.jr s.rv s.qv (s.n + 19)).mono ?_
    rintro e w1 ⟨rfl, ho⟩
    exact ⟨rfl, mid_of K.hM K.hCB h.lk hW ho⟩
  have HD : Hid (∀ w1, HMid M CB w Pb H S Q O u tv cs T.2.2 hd s o (.cells #[.int .i64 1, .int .i64 a, .int .i64 b, .int .i64 c, .string str] 125 (0, 0)) w1 → Calls Try.prog 90 #[.pointer (some ⟨S, 0, none⟩), .int .i64 a] w1.drew fun e w2 => e = .returned (.tuple #[.int .i64 T.1, .int .i64 T.2.1]) ∧ Next M G ρ CB w Pb H S Q O u tv cs i w2) := fun w1 hmid => by
    obtain ⟨s1, L1, e1, e2, hb, _⟩ := hmid
    have hW : Below w1.heap.size w1 w1.drew := (Below.refl _ _).drew
    have hD := (L1.below K.hM K.hCB hW).pp.d
    refine (K.trig S Q s1.drec hd s1.pv s1.dqv s1.rs a _ w1.drew hD (L1.below K.hM K.hCB hW).pp.cb h.okd (by omega) (by rw [e1]; omega) (by have := h.last; rw [h.same.last]; omega)).mono ?_
    rintro e w2 ⟨rfl, rec', hr, ho⟩
    rw [hT2] at ho ⊢
    rw [b1, b2]
    exact ⟨rfl, ST.next K.hM K.hCB h L1 e1 e2 hb hB hW hr ho⟩
  have HQ : Hid (∀ w1, HMid M CB w Pb H S Q O u tv cs T.2.2 hd s o (.cells #[.int .i64 1, .int .i64 a, .int .i64 b, .int .i64 c, .string str] 125 (0, 0)) w1 → w1.cell? ⟨Pb, 1, none⟩ = some (.pointer (some ⟨S, 0, none⟩)) ∧ w1.heap[w.heap.size]? = some (.cells #[.int .i64 1, .int .i64 a, .int .i64 b, .int .i64 c, .string str] 125 (0, 0))) := fun w1 hmid => by
    obtain ⟨s1, L1, _, _, _, hob⟩ := hmid
    exact ⟨(cell_of_heap L1.pp.p).trans rfl, hob⟩

  clear h hmok hB hn hdr
  go_enter Try.func59, Try.ntmps59
  go_upto_region 3 with fail
  go_cut [7, 8] (fun x y wx => x = .int .i64 T.1 ∧ y = .int .i64 T.2.1 ∧ Hid (HMid M CB w Pb H S Q O u tv cs T.2.2 hd s o (.cells #[.int .i64 1, .int .i64 a, .int .i64 b, .int .i64 c, .string str] 125 (0, 0)) wx))
  case first =>
    go_region_with (go_at_call 28; refine (HP.out _ rfl).mono ?_; rintro e w1 ⟨rfl, ho⟩)
    all_goals
      go_wp2_with fail
      go_meet
      case rel => exact ⟨rfl, rfl, ho⟩
  case rest =>
    obtain ⟨rfl, rfl, HX⟩ := hcut
    obtain ⟨q1, hob⟩ := HQ.out _ HX.out
    obtain ⟨m0, m1, m2, m3, m4⟩ := mark5 hob
    clear p0 hPl HP hob HQ
    go_upto_region 4 with fail
    go_cut [9, 10] (fun x y wx => x = .int .i64 T.1 ∧ y = .int .i64 T.2.1 ∧ Hid (Next M G ρ CB w Pb H S Q O u tv cs i wx))
    case first =>
      go_region_with (go_at_call 90; refine (HD.out _ HX.out).mono ?_; rintro e w2 ⟨rfl, ho⟩)
      all_goals
        go_wp2_with fail
        go_meet
        case rel => exact ⟨rfl, rfl, ho⟩
    case rest =>
      obtain ⟨rfl, rfl, HY⟩ := hcut
      clear q1 m0 m1 m2 m3 m4 HD HX
      go_wp2_with fail
      go_ret
      exact ⟨rfl, HY.out⟩

set_option maxRecDepth 20000 in
set_option maxHeartbeats 8000000 in
theorem play_tick {RT : Type} {M : Mode RT} {G : RT → Prop} {ρ : RT → Pr → Prop} {CB : World → Prop} {cs : List Ins} (K : Kinds M G ρ CB cs) (Pb H S Q O : Nat) (u tv : Value) (i : Nat) (hm : Her Pr) (hd : Her RT) (s : PSt) (o : OSt) (a b c : Int) (str : ByteArray) (w : World) (h : ST M G ρ CB w Pb H S Q O u tv cs i hm hd s o) (hi : i ≤ 1100000) :
    Calls Try.prog 59 #[.pointer (some ⟨Pb, 0, none⟩), .agg #[.int .i64 2, .int .i64 a, .int .i64 b, .int .i64 c, .string str], .pointer (some ⟨O, 0, none⟩)] w fun e w' => e = .returned (.bool true) ∧ Next M G ρ CB w Pb H S Q O u tv cs i w' := by
  have p0 : w.cell? ⟨Pb, 0, none⟩ = some (.pointer (some ⟨H, 0, none⟩)) := (cell_of_heap h.lk.pp.p).trans rfl
  have hPl : Pb < w.heap.size := heap_lt h.lk.pp.p
  have hmok := h.mok K (by omega)
  obtain ⟨b1, hB⟩ := both_tick K h a
  generalize hT : tickH (machE cs) hm a = T at *
  generalize hT2 : tickH M.E hd a = T2 at *
  have hn := h.n
  have hdr := h.dr
  have HP : Hid (∀ W, W = (w.alloc (.cells #[.int .i64 2, .int .i64 a, .int .i64 b, .int .i64 c, .string str] 125)).drew → Calls Try.prog 33 #[.pointer (some ⟨H, 0, none⟩), .int .i64 a] W fun e w1 => e = .returned (.int .i64 T.1) ∧ HMid M CB w Pb H S Q O u tv cs T.2 hd s o (.cells #[.int .i64 2, .int .i64 a, .int .i64 b, .int .i64 c, .string str] 125 (0, 0)) w1) := fun W hW => by
    have hb : Below w.heap.size w W := by rw [hW]; exact ((Below.refl _ _).alloc (Nat.le_refl _) _).drew
    refine (by have hF := (f_Tick H cs hm s.code s.jr s.rv s.qv s.n a _ W (h.lk.pp.f.below hb) hmok (by omega)); rw [hT] at hF; exact hF : Calls Try.prog 33 #[.pointer (some ⟨H, 0, none⟩), .int .i64 a] W fun e w' => e = .returned (.int .i64 T.1) ∧ FHOut W w' H cs T.2 s.code s.jr s.rv s.qv (s.n + 19)).mono ?_
    rintro e w1 ⟨rfl, ho⟩
    exact ⟨rfl, mid_of K.hM K.hCB h.lk hW ho⟩
  have HD : Hid (∀ w1, HMid M CB w Pb H S Q O u tv cs T.2 hd s o (.cells #[.int .i64 2, .int .i64 a, .int .i64 b, .int .i64 c, .string str] 125 (0, 0)) w1 → Calls Try.prog 91 #[.pointer (some ⟨S, 0, none⟩), .int .i64 a] w1.drew fun e w2 => e = .returned (.int .i64 T.1) ∧ Next M G ρ CB w Pb H S Q O u tv cs i w2) := fun w1 hmid => by
    obtain ⟨s1, L1, e1, e2, hb, _⟩ := hmid
    have hW : Below w1.heap.size w1 w1.drew := (Below.refl _ _).drew
    have hD := (L1.below K.hM K.hCB hW).pp.d
    refine (doc_tick K.hM K.engd S Q s1.drec hd s1.pv s1.dqv s1.rs a _ w1.drew hD h.okd (by omega) (by rw [e1]; omega)).mono ?_
    rintro e w2 ⟨rfl, rec', hr, ho⟩
    rw [hT2] at ho ⊢
    rw [b1]
    exact ⟨rfl, ST.next K.hM K.hCB h L1 e1 e2 hb hB hW hr ho⟩
  have HQ : Hid (∀ w1, HMid M CB w Pb H S Q O u tv cs T.2 hd s o (.cells #[.int .i64 2, .int .i64 a, .int .i64 b, .int .i64 c, .string str] 125 (0, 0)) w1 → w1.cell? ⟨Pb, 1, none⟩ = some (.pointer (some ⟨S, 0, none⟩)) ∧ w1.heap[w.heap.size]? = some (.cells #[.int .i64 2, .int .i64 a, .int .i64 b, .int .i64 c, .string str] 125 (0, 0))) := fun w1 hmid => by
    obtain ⟨s1, L1, _, _, _, hob⟩ := hmid
    exact ⟨(cell_of_heap L1.pp.p).trans rfl, hob⟩

  clear h hmok hB hn hdr
  go_enter Try.func59, Try.ntmps59
  go_upto_region 7 with fail
  go_cut [11] (fun x wx => x = .int .i64 T.1 ∧ Hid (HMid M CB w Pb H S Q O u tv cs T.2 hd s o (.cells #[.int .i64 2, .int .i64 a, .int .i64 b, .int .i64 c, .string str] 125 (0, 0)) wx))
  case first =>
    go_region_with (go_at_call 33; refine (HP.out _ rfl).mono ?_; rintro e w1 ⟨rfl, ho⟩)
    all_goals
      go_wp2_with fail
      go_meet
      case rel => exact ⟨rfl, ho⟩
  case rest =>
    obtain ⟨rfl, HX⟩ := hcut
    obtain ⟨q1, hob⟩ := HQ.out _ HX.out
    obtain ⟨m0, m1, m2, m3, m4⟩ := mark5 hob
    clear p0 hPl HP hob HQ
    go_upto_region 8 with fail
    go_cut [12] (fun x wx => x = .int .i64 T.1 ∧ Hid (Next M G ρ CB w Pb H S Q O u tv cs i wx))
    case first =>
      go_region_with (go_at_call 91; refine (HD.out _ HX.out).mono ?_; rintro e w2 ⟨rfl, ho⟩)
      all_goals
        go_wp2_with fail
        go_meet
        case rel => exact ⟨rfl, ho⟩
    case rest =>
      obtain ⟨rfl, HY⟩ := hcut
      clear q1 m0 m1 m2 m3 m4 HD HX
      go_wp2_with fail
      go_ret
      exact ⟨rfl, HY.out⟩

set_option maxRecDepth 20000 in
set_option maxHeartbeats 8000000 in
theorem play_ack {RT : Type} {M : Mode RT} {G : RT → Prop} {ρ : RT → Pr → Prop} {CB : World → Prop} {cs : List Ins} (K : Kinds M G ρ CB cs) (Pb H S Q O : Nat) (u tv : Value) (i : Nat) (hm : Her Pr) (hd : Her RT) (s : PSt) (o : OSt) (a b c : Int) (str : ByteArray) (w : World) (h : ST M G ρ CB w Pb H S Q O u tv cs i hm hd s o) (hi : i ≤ 1100000) :
    Calls Try.prog 59 #[.pointer (some ⟨Pb, 0, none⟩), .agg #[.int .i64 3, .int .i64 a, .int .i64 b, .int .i64 c, .string str], .pointer (some ⟨O, 0, none⟩)] w fun e w' => e = .returned (.bool true) ∧ Next M G ρ CB w Pb H S Q O u tv cs i w' := by
  have p0 : w.cell? ⟨Pb, 0, none⟩ = some (.pointer (some ⟨H, 0, none⟩)) := (cell_of_heap h.lk.pp.p).trans rfl
  have hPl : Pb < w.heap.size := heap_lt h.lk.pp.p
  have hmok := h.mok K (by omega)
  obtain ⟨b1, hB⟩ := both_ack K h a b
  generalize hT : ackH (machE cs) hm a b = T at *
  generalize hT2 : ackH M.E hd a b = T2 at *
  have hn := h.n
  have hdr := h.dr
  have HP : Hid (∀ W, W = (w.alloc (.cells #[.int .i64 3, .int .i64 a, .int .i64 b, .int .i64 c, .string str] 125)).drew → Calls Try.prog 38 #[.pointer (some ⟨H, 0, none⟩), .int .i64 a, .int .i64 b] W fun e w1 => e = .returned (.int .i64 T.1) ∧ HMid M CB w Pb H S Q O u tv cs T.2 hd s o (.cells #[.int .i64 3, .int .i64 a, .int .i64 b, .int .i64 c, .string str] 125 (0, 0)) w1) := fun W hW => by
    have hb : Below w.heap.size w W := by rw [hW]; exact ((Below.refl _ _).alloc (Nat.le_refl _) _).drew
    refine (by have hF := (f_Ack H cs hm s.code s.jr s.rv s.qv s.n a b _ W (h.lk.pp.f.below hb) hmok (by omega)); rw [hT] at hF; exact hF : Calls Try.prog 38 #[.pointer (some ⟨H, 0, none⟩), .int .i64 a, .int .i64 b] W fun e w' => e = .returned (.int .i64 T.1) ∧ FHOut W w' H cs T.2 s.code s.jr s.rv s.qv (s.n + 19)).mono ?_
    rintro e w1 ⟨rfl, ho⟩
    exact ⟨rfl, mid_of K.hM K.hCB h.lk hW ho⟩
  have HD : Hid (∀ w1, HMid M CB w Pb H S Q O u tv cs T.2 hd s o (.cells #[.int .i64 3, .int .i64 a, .int .i64 b, .int .i64 c, .string str] 125 (0, 0)) w1 → Calls Try.prog 92 #[.pointer (some ⟨S, 0, none⟩), .int .i64 a, .int .i64 b] w1.drew fun e w2 => e = .returned (.int .i64 T.1) ∧ Next M G ρ CB w Pb H S Q O u tv cs i w2) := fun w1 hmid => by
    obtain ⟨s1, L1, e1, e2, hb, _⟩ := hmid
    have hW : Below w1.heap.size w1 w1.drew := (Below.refl _ _).drew
    have hD := (L1.below K.hM K.hCB hW).pp.d
    refine (sim_ack K.hM S Q s1.drec hd s1.pv s1.dqv s1.rs a b _ w1.drew hD h.okd (by omega) (by rw [e1]; omega)).mono ?_
    rintro e w2 ⟨rfl, ho⟩
    have hr := recAfter_size s1.drec (ackH M.E hd a b).1 65 a b
    rw [hT2] at ho hr ⊢
    rw [b1]
    exact ⟨rfl, ST.next K.hM K.hCB h L1 e1 e2 hb hB hW hr ho⟩
  have HQ : Hid (∀ w1, HMid M CB w Pb H S Q O u tv cs T.2 hd s o (.cells #[.int .i64 3, .int .i64 a, .int .i64 b, .int .i64 c, .string str] 125 (0, 0)) w1 → w1.cell? ⟨Pb, 1, none⟩ = some (.pointer (some ⟨S, 0, none⟩)) ∧ w1.heap[w.heap.size]? = some (.cells #[.int .i64 3, .int .i64 a, .int .i64 b, .int .i64 c, .string str] 125 (0, 0))) := fun w1 hmid => by
    obtain ⟨s1, L1, _, _, _, hob⟩ := hmid
    exact ⟨(cell_of_heap L1.pp.p).trans rfl, hob⟩

  clear h hmok hB hn hdr
  go_enter Try.func59, Try.ntmps59
  go_upto_region 11 with fail
  go_cut [13] (fun x wx => x = .int .i64 T.1 ∧ Hid (HMid M CB w Pb H S Q O u tv cs T.2 hd s o (.cells #[.int .i64 3, .int .i64 a, .int .i64 b, .int .i64 c, .string str] 125 (0, 0)) wx))
  case first =>
    go_region_with (go_at_call 38; refine (HP.out _ rfl).mono ?_; rintro e w1 ⟨rfl, ho⟩)
    all_goals
      go_wp2_with fail
      go_meet
      case rel => exact ⟨rfl, ho⟩
  case rest =>
    obtain ⟨rfl, HX⟩ := hcut
    obtain ⟨q1, hob⟩ := HQ.out _ HX.out
    obtain ⟨m0, m1, m2, m3, m4⟩ := mark5 hob
    clear p0 hPl HP hob HQ
    go_upto_region 12 with fail
    go_cut [14] (fun x wx => x = .int .i64 T.1 ∧ Hid (Next M G ρ CB w Pb H S Q O u tv cs i wx))
    case first =>
      go_region_with (go_at_call 92; refine (HD.out _ HX.out).mono ?_; rintro e w2 ⟨rfl, ho⟩)
      all_goals
        go_wp2_with fail
        go_meet
        case rel => exact ⟨rfl, ho⟩
    case rest =>
      obtain ⟨rfl, HY⟩ := hcut
      clear q1 m0 m1 m2 m3 m4 HD HX
      go_wp2_with fail
      go_ret
      exact ⟨rfl, HY.out⟩

set_option maxRecDepth 20000 in
set_option maxHeartbeats 8000000 in
theorem play_cancel {RT : Type} {M : Mode RT} {G : RT → Prop} {ρ : RT → Pr → Prop} {CB : World → Prop} {cs : List Ins} (K : Kinds M G ρ CB cs) (Pb H S Q O : Nat) (u tv : Value) (i : Nat) (hm : Her Pr) (hd : Her RT) (s : PSt) (o : OSt) (a b c : Int) (str : ByteArray) (w : World) (h : ST M G ρ CB w Pb H S Q O u tv cs i hm hd s o) (hi : i ≤ 1100000) :
    Calls Try.prog 59 #[.pointer (some ⟨Pb, 0, none⟩), .agg #[.int .i64 4, .int .i64 a, .int .i64 b, .int .i64 c, .string str], .pointer (some ⟨O, 0, none⟩)] w fun e w' => e = .returned (.bool true) ∧ Next M G ρ CB w Pb H S Q O u tv cs i w' := by
  have p0 : w.cell? ⟨Pb, 0, none⟩ = some (.pointer (some ⟨H, 0, none⟩)) := (cell_of_heap h.lk.pp.p).trans rfl
  have hPl : Pb < w.heap.size := heap_lt h.lk.pp.p
  have hmok := h.mok K (by omega)
  obtain ⟨b1, hB⟩ := both_cancel K h a
  generalize hT : cancelH (machE cs) hm a = T at *
  generalize hT2 : cancelH M.E hd a = T2 at *
  have hn := h.n
  have hdr := h.dr
  have HP : Hid (∀ W, W = (w.alloc (.cells #[.int .i64 4, .int .i64 a, .int .i64 b, .int .i64 c, .string str] 125)).drew → Calls Try.prog 40 #[.pointer (some ⟨H, 0, none⟩), .int .i64 a] W fun e w1 => e = .returned (.int .i64 T.1) ∧ HMid M CB w Pb H S Q O u tv cs T.2 hd s o (.cells #[.int .i64 4, .int .i64 a, .int .i64 b, .int .i64 c, .string str] 125 (0, 0)) w1) := fun W hW => by
    have hb : Below w.heap.size w W := by rw [hW]; exact ((Below.refl _ _).alloc (Nat.le_refl _) _).drew
    refine (by have hF := (f_Cancel H cs hm s.code s.jr s.rv s.qv s.n a _ W (h.lk.pp.f.below hb) hmok (by omega)); rw [hT] at hF; exact hF : Calls Try.prog 40 #[.pointer (some ⟨H, 0, none⟩), .int .i64 a] W fun e w' => e = .returned (.int .i64 T.1) ∧ FHOut W w' H cs T.2 s.code s.jr s.rv s.qv (s.n + 19)).mono ?_
    rintro e w1 ⟨rfl, ho⟩
    exact ⟨rfl, mid_of K.hM K.hCB h.lk hW ho⟩
  have HD : Hid (∀ w1, HMid M CB w Pb H S Q O u tv cs T.2 hd s o (.cells #[.int .i64 4, .int .i64 a, .int .i64 b, .int .i64 c, .string str] 125 (0, 0)) w1 → Calls Try.prog 93 #[.pointer (some ⟨S, 0, none⟩), .int .i64 a] w1.drew fun e w2 => e = .returned (.int .i64 T.1) ∧ Next M G ρ CB w Pb H S Q O u tv cs i w2) := fun w1 hmid => by
    obtain ⟨s1, L1, e1, e2, hb, _⟩ := hmid
    have hW : Below w1.heap.size w1 w1.drew := (Below.refl _ _).drew
    have hD := (L1.below K.hM K.hCB hW).pp.d
    refine (sim_cancel K.hM S Q s1.drec hd s1.pv s1.dqv s1.rs a _ w1.drew hD h.okd (by rw [e1]; omega)).mono ?_
    rintro e w2 ⟨rfl, ho⟩
    have hr := recAfter_size s1.drec (cancelH M.E hd a).1 67 a 0
    rw [hT2] at ho hr ⊢
    rw [b1]
    exact ⟨rfl, ST.next K.hM K.hCB h L1 e1 e2 hb hB hW hr ho⟩
  have HQ : Hid (∀ w1, HMid M CB w Pb H S Q O u tv cs T.2 hd s o (.cells #[.int .i64 4, .int .i64 a, .int .i64 b, .int .i64 c, .string str] 125 (0, 0)) w1 → w1.cell? ⟨Pb, 1, none⟩ = some (.pointer (some ⟨S, 0, none⟩)) ∧ w1.heap[w.heap.size]? = some (.cells #[.int .i64 4, .int .i64 a, .int .i64 b, .int .i64 c, .string str] 125 (0, 0))) := fun w1 hmid => by
    obtain ⟨s1, L1, _, _, _, hob⟩ := hmid
    exact ⟨(cell_of_heap L1.pp.p).trans rfl, hob⟩

  clear h hmok hB hn hdr
  go_enter Try.func59, Try.ntmps59
  go_upto_region 15 with fail
  go_cut [15] (fun x wx => x = .int .i64 T.1 ∧ Hid (HMid M CB w Pb H S Q O u tv cs T.2 hd s o (.cells #[.int .i64 4, .int .i64 a, .int .i64 b, .int .i64 c, .string str] 125 (0, 0)) wx))
  case first =>
    go_region_with (go_at_call 40; refine (HP.out _ rfl).mono ?_; rintro e w1 ⟨rfl, ho⟩)
    all_goals
      go_wp2_with fail
      go_meet
      case rel => exact ⟨rfl, ho⟩
  case rest =>
    obtain ⟨rfl, HX⟩ := hcut
    obtain ⟨q1, hob⟩ := HQ.out _ HX.out
    obtain ⟨m0, m1, m2, m3, m4⟩ := mark5 hob
    clear p0 hPl HP hob HQ
    go_upto_region 16 with fail
    go_cut [16] (fun x wx => x = .int .i64 T.1 ∧ Hid (Next M G ρ CB w Pb H S Q O u tv cs i wx))
    case first =>
      go_region_with (go_at_call 93; refine (HD.out _ HX.out).mono ?_; rintro e w2 ⟨rfl, ho⟩)
      all_goals
        go_wp2_with fail
        go_meet
        case rel => exact ⟨rfl, ho⟩
    case rest =>
      obtain ⟨rfl, HY⟩ := hcut
      clear q1 m0 m1 m2 m3 m4 HD HX
      go_wp2_with fail
      go_ret
      exact ⟨rfl, HY.out⟩

end Go.Proofs.Ytmmmnghiegajmaa
