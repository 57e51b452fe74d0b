import Derived.Test.YtmmmnghiegajmaaM33
import Derived.Test.YtmmmnghiegajmaaM12
import Derived.Test.YtmmmnghiegajmaaM18
/- The program's herald with its journal, exactly: what each call writes down. -/
namespace Go.Proofs.Ytmmmnghiegajmaa
open Go.RowKit Go.Proofs.Herald
/-- The journal behind a call: f is its answer. -/
def noteJ (f : Int) (J : List Nat) (c : Nat) (a b : Int) : List Nat := if f = 0 then J ++ recB c a b else J
theorem natsI_len (J : List Nat) : (natsI J).length = J.length := List.length_map ..
/-- The whole herald: the machine, and its records. -/
structure FJ (w : World) (H : Nat) (cs : List Ins) (h : Her Pr) (code rec rv : Value) (qv : Nat → Value) (J : List Nat) : Prop where
  m : MH w H code rec cs h rv qv
  r : w.ownsRow 0 5 1 rec J.length (bytesV (natsI J))
theorem FJ.fh {w : World} {H : Nat} {cs : List Ins} {h : Her Pr} {code rec rv : Value} {qv : Nat → Value} {J : List Nat} (F : FJ w H cs h code rec rv qv J) : FH w H cs h code rec rv qv J.length := ⟨F.m, natsI J, natsI_len J, F.r⟩
/-- Behind a call of the herald. -/
structure FJOut (w w' : World) (H : Nat) (cs : List Ins) (h : Her Pr) (code rec rv : Value) (qv : Nat → Value) (J : List Nat) : Prop where
  ex : ∃ rec' rv' qv', FJ w' H cs h code rec' rv' qv' J ∧ ∀ k, ownF H code rec' rv' qv' k → ownF H code rec rv qv k ∨ w.heap.size ≤ k
  fr : Fr (ownF H code rec rv qv) w w'
theorem FJ.rec_keep {w w1 : World} {H : Nat} {cs : List Ins} {h : Her Pr} {code rec rv : Value} {qv : Nat → Value} {J : List Nat} (F : FJ w H cs h code rec rv qv J) (hf : Fr (ownH H rv qv) w w1) : w1.ownsRow 0 5 1 rec J.length (bytesV (natsI J)) := by
  refine own_keep F.r fun b hb => ?_
  obtain ⟨c, hc⟩ := own_block F.r hb
  refine hf.block b (heap_lt hc) fun ho => ?_
  obtain ⟨c2, t, hc2, ht⟩ := F.m.at'.sort ho
  rcases ht with rfl | rfl | rfl
  · exact ne_of_type hc hc2 (by decide) rfl
  · exact ne_of_type hc hc2 (by decide) rfl
  · exact ne_of_type hc hc2 (by decide) rfl
theorem FJOut.of_m {w w1 : World} {H : Nat} {cs : List Ins} {h h1 : Her Pr} {code rec rv : Value} {qv : Nat → Value} {J : List Nat} (F : FJ w H cs h code rec rv qv J) (ho : MHOut w w1 H code rec cs h1 rv qv) : FJOut w w1 H cs h1 code rec rv qv J := by
  obtain ⟨⟨rv', qv', h2, h3⟩, h4⟩ := ho
  refine ⟨⟨rec, rv', qv', ⟨h2, F.rec_keep h4⟩, fun k hk => ?_⟩, h4.mono fun k _ hk => .inl hk⟩
  rcases hk with hk | hk
  · rcases h3 k hk with h | h
    · exact .inl (.inl h)
    · exact .inr h
  · exact .inl (.inr hk)
theorem FJOut.trans {w w1 w2 : World} {H : Nat} {cs : List Ins} {h1 : Her Pr} {code rec rv rec1 rv1 : Value} {qv qv1 : Nat → Value} {J : List Nat} (ho : ∀ k, ownF H code rec1 rv1 qv1 k → ownF H code rec rv qv k ∨ w.heap.size ≤ k) (hf : Fr (ownF H code rec rv qv) w w1) (h2 : FJOut w1 w2 H cs h1 code rec1 rv1 qv1 J) : FJOut w w2 H cs h1 code rec rv qv J := by
  obtain ⟨⟨rec', rv', qv', a2, a3⟩, a4⟩ := h2
  refine ⟨⟨rec', rv', qv', a2, fun k hk => ?_⟩, ?_⟩
  · rcases a3 k hk with h | h
    · exact ho k h
    · exact .inr (Nat.le_trans hf.size h)
  · have f1 : Fr (fun k => ownF H code rec rv qv k ∨ w.heap.size ≤ k) w w1 := hf.mono fun k _ hk => .inl hk
    have f2 : Fr (fun k => ownF H code rec rv qv k ∨ w.heap.size ≤ k) w1 w2 := a4.mono fun k _ hk => ho k hk
    exact (f1.trans f2).mono fun k hk hs => by
      rcases hs with h | h
      · exact h
      · omega
theorem FJ.below {w w1 : World} {H : Nat} {cs : List Ins} {h : Her Pr} {code rec rv : Value} {qv : Nat → Value} {J : List Nat} (F : FJ w H cs h code rec rv qv J) (hb : Below w.heap.size w w1) : FJ w1 H cs h code rec rv qv J := by
  have hf : Fr (ownH H rv qv) w w1 := (Fr.of_below hb).mono fun k hk hs => by omega
  exact ⟨⟨F.m.at'.below hb, F.m.at'.code hf F.m.cd⟩, F.rec_keep hf⟩
theorem FJOut.below {w w1 : World} {H : Nat} {cs : List Ins} {h : Her Pr} {code rec rv : Value} {qv : Nat → Value} {J : List Nat} (F : FJ w H cs h code rec rv qv J) (hb : Below w.heap.size w w1) : FJOut w w1 H cs h code rec rv qv J :=
  ⟨⟨rec, rv, qv, F.below hb, fun _ hk => .inl hk⟩, (Fr.of_below hb).mono fun k hk hs => by omega⟩
set_option maxRecDepth 20000 in
set_option maxHeartbeats 4000000 in
theorem note_yesJ (H : Nat) (cs : List Ins) (h : Her Pr) (code rec rv : Value) (qv : Nat → Value) (J : List Nat) (c : Nat) (hc : c < 256) (a b : Int) (w : World) (F0 : FJ w H cs h code rec rv qv J) (hn : J.length ≤ 90000000) :
    Calls Try.prog 68 #[.pointer (some ⟨H, 0, none⟩), .int .i64 0, .agg #[.int .u8 (c : Nat), .int .i64 a, .int .i64 b]] w fun e w' => e = .returned (.tuple #[]) ∧ FJOut w w' H cs h code rec rv qv (J ++ recB c a b) := by
  have F := F0.fh
  have hxo := F0.r
  obtain ⟨xs, hxs⟩ : ∃ xs, xs = natsI J := ⟨_, rfl⟩
  obtain ⟨n, hnJ⟩ : ∃ n, n = J.length := ⟨_, rfl⟩
  have hxl : xs.length = n := by rw [hxs, hnJ, natsI_len]
  rw [← hxs, ← hnJ] at hxo
  rw [← hnJ] at F hn
  have HXS : Hid (xs = natsI J ∧ n = J.length) := ⟨hxs, hnJ⟩
  obtain ⟨ra, rc, hrv⟩ := ownsRow_slice hxo
  have HF : Hid (FH w H cs h code rec rv qv n) := F
  have HRV : Hid (rec = .slice ra n rc) := hrv
  have HXL : Hid (xs.length = n) := hxl
  have HW : Hid (∀ W : World, Calls Try.prog 101 #[.agg #[.int .u8 (c : Nat), .int .i64 a, .int .i64 b]] W fun e w' => ∃ v, e = .returned v ∧ w'.ownsRow W.heap.size 5 1 v 19 (bytesV (natsI (recB c a b))) ∧ Below W.heap.size W w') := fun W => x_write c hc a b W
  have HXO : Hid (w.ownsRow 0 5 1 (.slice ra n rc) n (bytesV xs)) := by rw [← hrv]; exact hxo
  clear F F0 hxo hrv hxl hxs hnJ hc
  go_enter Try.func68, Try.ntmps68
  go_wp2_with fail
  refine (HW.out _).mono ?_
  rintro e w1 ⟨v, rfl, hyo, hb1⟩
  obtain ⟨ys, hys⟩ : ∃ ys, ys = natsI (recB c a b) := ⟨_, rfl⟩
  rw [← hys] at hyo
  have hyl : ys.length = 19 := by rw [hys, natsI_len, recB_len]
  have HYS : Hid (ys = natsI (recB c a b)) := hys
  clear hys
  obtain ⟨va, vc, hv⟩ := ownsRow_slice hyo
  subst hv
  have HB1 : Hid (Below w.heap.size w w1) := ((Below.refl _ _).alloc (Nat.le_refl _) _).trans (hb1.mono (by simp))
  have HS : Hid (SrcAt w1 va 19 (bytesV ys) ∧ ys.length = 19) := ⟨src_own (own0 hyo), hyl⟩
  have HF1 : Hid (FH w1 H cs h code rec rv qv n) := HF.out.below HB1.out
  have HX1 : Hid (w1.ownsRow 0 5 1 (.slice ra n rc) n (bytesV xs)) := own_keep HXO.out fun k hk => by obtain ⟨c, hc⟩ := own_block HXO.out hk; exact HB1.out.block k (heap_lt hc)
  have c7 : w1.cell? ⟨H, 7, none⟩ = some (.slice ra n rc) := by rw [← HRV.out]; exact (cell_of_heap HF1.out.m.at'.blk).trans rfl
  clear hyo hb1 hyl
  go_wp2_with (at_builtin; refine wpList_append_src _ rfl (.tmp 15) (.tmp 16) 139 rfl 5 _ 1 1 Try.underlying139 Try.infoByte rfl (by decide) (by decide) (.slice ra n rc) n (bytesV xs) va 19 vc (bytesV ys) (by rfl) (by exact HX1.out) (by rfl) HS.out.1 (by rw [bytesV_len, HS.out.2]) (bytesV_one _) (by omega) ?_)
  intro v2 w2 hown2 ha2
  have hty : ∀ {k : Nat} {c : Array Value} {t : TypeId}, w1.heap[k]? = some (.cells c t (0, 0)) → t ≠ 5 → w2.heap[k]? = w1.heap[k]? := fun {k c t} hk ht => by
    rcases ha2 with ⟨g, cap, e1, _, hg⟩ | ⟨_, hg⟩
    · refine hg.block k (heap_lt hk) fun e => ?_
      obtain ⟨c2, hc2⟩ := own_block HX1.out (k := k) (by rw [e1]; exact e.symm)
      exact ne_of_type hk hc2 ht rfl
    · exact hg.block k (heap_lt hk) (by simp)
  have hb2 := (hty HF1.out.m.at'.blk (by decide)).trans HF1.out.m.at'.blk
  have d7 : w2.cell? ⟨H, 7, none⟩ = some (.slice ra n rc) := by rw [← HRV.out]; exact (cell_of_heap hb2).trans rfl
  have y7 : w2.frozen? ⟨H, 7, none⟩ = false := free_of_heap hb2
  obtain ⟨a2, cap2, hv2⟩ := ownsRow_slice hown2
  subst hv2
  have HFin : Hid (FJOut w (w2.setCell ⟨H, 7, none⟩ (.slice a2 (n + 19) cap2)) H cs h code rec rv qv (J ++ recB c a b)) := by
    have hlen : (J ++ recB c a b).length = n + 19 := by rw [List.length_append, recB_len, HXS.out.2]
    have hcont : natsI (J ++ recB c a b) = xs ++ ys := by rw [natsI_append, HXS.out.1, HYS.out]
    have hk3 : ∀ {k : Nat} {c : Array Value} {t : TypeId}, w1.heap[k]? = some (.cells c t (0, 0)) → t ≠ 5 → t ≠ 150 → (w2.setCell ⟨H, 7, none⟩ (.slice a2 (n + 19) cap2)).heap[k]? = w1.heap[k]? := fun {k c t} hk h1 h2 => by
      rw [Below.heap_setCell _ _ _ _ (ne_of_type hk HF1.out.m.at'.blk h2)]
      exact hty hk h1
    have hA := HF1.out.m.at'
    have hnew : ∀ b, (Value.slice a2 (n + 19) cap2).ownBlock = some b → rec.ownBlock = some b ∨ w.heap.size ≤ b := fun b hb => by
      rcases ha2 with ⟨g, cap, e1, e2, hg⟩ | ⟨hnw, hg⟩
      · rw [e2] at hb
        left
        rw [HRV.out, e1]
        exact hb
      · exact .inr (Nat.le_trans HB1.out.size (hnw b hb))
    refine ⟨⟨.slice a2 (n + 19) cap2, rv, qv, ⟨⟨⟨?_, fun d hd => own_keep (hA.oB d hd) fun b hb => ?_, hA.ql, hA.dis, own_keep hA.rB fun b hb => ?_, hA.rl⟩, own_keep HF1.out.m.cd fun b hb => ?_⟩, ?_⟩, fun k hk => ?_⟩, ?_⟩
    · rw [heap_setCell_self _ hb2]; rfl
    · obtain ⟨c, hc⟩ := own_block (hA.oB d hd) hb
      exact hk3 hc (by decide) (by decide)
    · obtain ⟨c, hc⟩ := own_block hA.rB hb
      exact hk3 hc (by decide) (by decide)
    · obtain ⟨c, hc⟩ := own_block HF1.out.m.cd hb
      exact hk3 hc (by decide) (by decide)
    · rw [hlen, hcont, bytesV_append]
      refine own_keep hown2 fun b hb => ?_
      obtain ⟨c, hc⟩ := own_block hown2 hb
      exact Below.heap_setCell _ _ _ _ (ne_of_type hc hb2 (by decide))
    · rcases hk with hk | hk | hk
      · exact .inl (.inl hk)
      · rcases hnew k hk with h | h
        · exact .inl (.inr (.inl h))
        · exact .inr h
      · exact .inl (.inr (.inr hk))
    · have f1 : Fr (ownF H code rec rv qv) w w1 := (Fr.of_below HB1.out).mono fun k hk hs => by omega
      have f2 : Fr (ownF H code rec rv qv) w1 w2 := by
        rcases ha2 with ⟨g, cap, e1, _, hg⟩ | ⟨_, hg⟩
        · exact (Fr.refl _ _).grown hg fun k hk => .inl (.inr (.inl (by rw [HRV.out, e1]; exact hk)))
        · exact (Fr.refl _ _).grown hg fun k hk => by cases hk
      exact (f1.trans f2).setCell ⟨H, 7, none⟩ (.inl (.inl (.inl rfl))) _
  clear hown2 ha2 hty hb2
  go_wp2_with fail
  go_end0
  exact ⟨rfl, HFin.out⟩
theorem note_anyJ (H : Nat) (cs : List Ins) (h : Her Pr) (code rec rv : Value) (qv : Nat → Value) (J : List Nat) (f : Int) (c : Nat) (hc : c < 256) (a b : Int) (w : World) (F : FJ w H cs h code rec rv qv J) (hn : J.length ≤ 90000000) :
    Calls Try.prog 68 #[.pointer (some ⟨H, 0, none⟩), .int .i64 f, .agg #[.int .u8 (c : Nat), .int .i64 a, .int .i64 b]] w fun e w' => e = .returned (.tuple #[]) ∧ FJOut w w' H cs h code rec rv qv (noteJ f J c a b) := by
  by_cases hf : f = 0
  · subst hf
    have e : noteJ 0 J c a b = J ++ recB c a b := if_pos rfl
    rw [e]
    exact note_yesJ H cs h code rec rv qv J c hc a b w F hn
  · have e : noteJ f J c a b = J := if_neg hf
    rw [e]
    refine (note_no H f c a b w hf).mono ?_
    rintro e w' ⟨rfl, hb⟩
    exact ⟨rfl, FJOut.below F hb⟩
/-- A call of the machine, and its record. -/
theorem notedJ {w w1 : World} {H : Nat} {cs : List Ins} {h h1 : Her Pr} {code rec rv : Value} {qv : Nat → Value} {J : List Nat} (F : FJ w H cs h code rec rv qv J) (hn : J.length ≤ 90000000) (ho : MHOut w w1 H code rec cs h1 rv qv) (f : Int) (c : Nat) (hc : c < 256) (a b : Int) :
    Calls Try.prog 68 #[.pointer (some ⟨H, 0, none⟩), .int .i64 f, .agg #[.int .u8 (c : Nat), .int .i64 a, .int .i64 b]] w1 fun e w' => e = .returned (.tuple #[]) ∧ FJOut w w' H cs h1 code rec rv qv (noteJ f J c a b) := by
  obtain ⟨⟨rec', rv', qv', h3, h4⟩, h5⟩ := FJOut.of_m F ho
  refine (note_anyJ H cs h1 code rec' rv' qv' J f c hc a b w1 h3 hn).mono ?_
  rintro e w' ⟨rfl, hO⟩
  exact ⟨rfl, FJOut.trans h4 h5 hO⟩
set_option maxRecDepth 20000 in
set_option maxHeartbeats 4000000 in
theorem j_Trigger (H : Nat) (cs : List Ins) (h : Her Pr) (code rec rv : Value) (qv : Nat → Value) (J : List Nat) (dev C : Int) (w : World) (F : FJ w H cs h code rec rv qv J) (hk : MOk cs C h) (hn : J.length ≤ 90000000) :
    Calls Try.prog 28 #[.pointer (some ⟨H, 0, none⟩), .int .i64 dev] w fun e w' => e = .returned (.tuple #[.int .i64 (trigH (machE cs) h dev).1, .int .i64 (trigH (machE cs) h dev).2.1]) ∧ FJOut w w' H cs (trigH (machE cs) h dev).2.2 code rec rv qv (noteJ (trigH (machE cs) h dev).2.1 J 84 dev 0) := by
  have HM : Hid (Calls Try.prog 67 #[.pointer (some ⟨H, 0, none⟩), .int .i64 dev] w fun e w' => e = .returned (.tuple #[.int .i64 (trigH (machE cs) h dev).1, .int .i64 (trigH (machE cs) h dev).2.1]) ∧ MHOut w w' H code rec cs (trigH (machE cs) h dev).2.2 rv qv) := m_Trigger H code rec cs h rv qv dev C w F.m hk
  have HF : Hid (FJ w H cs h code rec rv qv J) := F
  clear F hk
  generalize trigH (machE cs) h dev = T at *
  go_enter Try.func28, Try.ntmps28
  go_wp2_with fail
  refine HM.out.mono ?_
  rintro e w1 ⟨rfl, ho⟩
  have HN : Hid (Calls Try.prog 68 #[.pointer (some ⟨H, 0, none⟩), .int .i64 T.2.1, .agg #[.int .u8 84, .int .i64 dev, .int .i64 0]] w1 fun e w' => e = .returned (.tuple #[]) ∧ FJOut w w' H cs T.2.2 code rec rv qv (noteJ T.2.1 J 84 dev 0)) := notedJ HF.out hn ho _ 84 (by decide) _ _
  clear ho HM
  go_wp2_with fail
  refine HN.out.mono ?_
  rintro e w2 ⟨rfl, ho⟩
  have HO : Hid (FJOut w w2 H cs T.2.2 code rec rv qv (noteJ T.2.1 J 84 dev 0)) := ho
  clear ho HN
  go_wp2_with fail
  go_ret2
  exact ⟨rfl, HO.out⟩
set_option maxRecDepth 20000 in
set_option maxHeartbeats 4000000 in
theorem j_Tick (H : Nat) (cs : List Ins) (h : Her Pr) (code rec rv : Value) (qv : Nat → Value) (J : List Nat) (t C : Int) (w : World) (F : FJ w H cs h code rec rv qv J) (hk : MOk cs C h) (hn : J.length ≤ 90000000) :
    Calls Try.prog 33 #[.pointer (some ⟨H, 0, none⟩), .int .i64 t] w fun e w' => e = .returned (.int .i64 (tickH (machE cs) h t).1) ∧ FJOut w w' H cs (tickH (machE cs) h t).2 code rec rv qv (noteJ (tickH (machE cs) h t).1 J 75 t 0) := by
  have HM : Hid (Calls Try.prog 70 #[.pointer (some ⟨H, 0, none⟩), .int .i64 t] w fun e w' => e = .returned (.int .i64 (tickH (machE cs) h t).1) ∧ MHOut w w' H code rec cs (tickH (machE cs) h t).2 rv qv) := m_Tick H code rec cs h rv qv t C w F.m hk
  have HF : Hid (FJ w H cs h code rec rv qv J) := F
  clear F hk
  generalize tickH (machE cs) h t = T at *
  go_enter Try.func33, Try.ntmps33
  go_wp2_with fail
  refine HM.out.mono ?_
  rintro e w1 ⟨rfl, ho⟩
  have HN : Hid (Calls Try.prog 68 #[.pointer (some ⟨H, 0, none⟩), .int .i64 T.1, .agg #[.int .u8 75, .int .i64 t, .int .i64 0]] w1 fun e w' => e = .returned (.tuple #[]) ∧ FJOut w w' H cs T.2 code rec rv qv (noteJ T.1 J 75 t 0)) := notedJ HF.out hn ho _ 75 (by decide) _ _
  clear ho HM
  go_wp2_with fail
  refine HN.out.mono ?_
  rintro e w2 ⟨rfl, ho⟩
  have HO : Hid (FJOut w w2 H cs T.2 code rec rv qv (noteJ T.1 J 75 t 0)) := ho
  clear ho HN
  go_wp2_with fail
  go_ret
  exact ⟨rfl, HO.out⟩
set_option maxRecDepth 20000 in
set_option maxHeartbeats 4000000 in
theorem j_Ack (H : Nat) (cs : List Ins) (h : Her Pr) (code rec rv : Value) (qv : Nat → Value) (J : List Nat) (id num C : Int) (w : World) (F : FJ w H cs h code rec rv qv J) (hk : MOk cs C h) (hn : J.length ≤ 90000000) :
    Calls Try.prog 38 #[.pointer (some ⟨H, 0, none⟩), .int .i64 id, .int .i64 num] w fun e w' => e = .returned (.int .i64 (ackH (machE cs) h id num).1) ∧ FJOut w w' H cs (ackH (machE cs) h id num).2 code rec rv qv (noteJ (ackH (machE cs) h id num).1 J 65 id num) := by
  have HM : Hid (Calls Try.prog 72 #[.pointer (some ⟨H, 0, none⟩), .int .i64 id, .int .i64 num] w fun e w' => e = .returned (.int .i64 (ackH (machE cs) h id num).1) ∧ MHOut w w' H code rec cs (ackH (machE cs) h id num).2 rv qv) := m_Ack H code rec cs h rv qv id num C w F.m hk
  have HF : Hid (FJ w H cs h code rec rv qv J) := F
  clear F hk
  generalize ackH (machE cs) h id num = T at *
  go_enter Try.func38, Try.ntmps38
  go_wp2_with fail
  refine HM.out.mono ?_
  rintro e w1 ⟨rfl, ho⟩
  have HN : Hid (Calls Try.prog 68 #[.pointer (some ⟨H, 0, none⟩), .int .i64 T.1, .agg #[.int .u8 65, .int .i64 id, .int .i64 num]] w1 fun e w' => e = .returned (.tuple #[]) ∧ FJOut w w' H cs T.2 code rec rv qv (noteJ T.1 J 65 id num)) := notedJ HF.out hn ho _ 65 (by decide) _ _
  clear ho HM
  go_wp2_with fail
  refine HN.out.mono ?_
  rintro e w2 ⟨rfl, ho⟩
  have HO : Hid (FJOut w w2 H cs T.2 code rec rv qv (noteJ T.1 J 65 id num)) := ho
  clear ho HN
  go_wp2_with fail
  go_ret
  exact ⟨rfl, HO.out⟩
set_option maxRecDepth 20000 in
set_option maxHeartbeats 4000000 in
theorem j_Cancel (H : Nat) (cs : List Ins) (h : Her Pr) (code rec rv : Value) (qv : Nat → Value) (J : List Nat) (id C : Int) (w : World) (F : FJ w H cs h code rec rv qv J) (hk : MOk cs C h) (hn : J.length ≤ 90000000) :
    Calls Try.prog 40 #[.pointer (some ⟨H, 0, none⟩), .int .i64 id] w fun e w' => e = .returned (.int .i64 (cancelH (machE cs) h id).1) ∧ FJOut w w' H cs (cancelH (machE cs) h id).2 code rec rv qv (noteJ (cancelH (machE cs) h id).1 J 67 id 0) := by
  have HM : Hid (Calls Try.prog 73 #[.pointer (some ⟨H, 0, none⟩), .int .i64 id] w fun e w' => e = .returned (.int .i64 (cancelH (machE cs) h id).1) ∧ MHOut w w' H code rec cs (cancelH (machE cs) h id).2 rv qv) := m_Cancel H code rec cs h rv qv id C w F.m hk
  have HF : Hid (FJ w H cs h code rec rv qv J) := F
  clear F hk
  generalize cancelH (machE cs) h id = T at *
  go_enter Try.func40, Try.ntmps40
  go_wp2_with fail
  refine HM.out.mono ?_
  rintro e w1 ⟨rfl, ho⟩
  have HN : Hid (Calls Try.prog 68 #[.pointer (some ⟨H, 0, none⟩), .int .i64 T.1, .agg #[.int .u8 67, .int .i64 id, .int .i64 0]] w1 fun e w' => e = .returned (.tuple #[]) ∧ FJOut w w' H cs T.2 code rec rv qv (noteJ T.1 J 67 id 0)) := notedJ HF.out hn ho _ 67 (by decide) _ _
  clear ho HM
  go_wp2_with fail
  refine HN.out.mono ?_
  rintro e w2 ⟨rfl, ho⟩
  have HO : Hid (FJOut w w2 H cs T.2 code rec rv qv (noteJ T.1 J 67 id 0)) := ho
  clear ho HN
  go_wp2_with fail
  go_ret
  exact ⟨rfl, HO.out⟩
theorem FJ.keep {w w1 : World} {H : Nat} {cs : List Ins} {h : Her Pr} {code rec rv : Value} {qv : Nat → Value} {J : List Nat} (F : FJ w H cs h code rec rv qv J) (hk : ∀ k, ownF H code rec rv qv k → w1.heap[k]? = w.heap[k]?) : FJ w1 H cs h code rec rv qv J :=
  ⟨⟨F.m.at'.keep fun k hk' => hk k (.inl hk'), own_keep F.m.cd fun b hb => hk b (.inr (.inr hb))⟩, own_keep F.r fun b hb => hk b (.inr (.inl hb))⟩
theorem FJ.lt {w : World} {H : Nat} {cs : List Ins} {h : Her Pr} {code rec rv : Value} {qv : Nat → Value} {J : List Nat} (F : FJ w H cs h code rec rv qv J) {k : Nat} (hk : ownF H code rec rv qv k) : k < w.heap.size := F.fh.lt hk
set_option maxRecDepth 20000 in
set_option maxHeartbeats 4000000 in
theorem j_Drain (H : Nat) (cs : List Ins) (h : Her Pr) (code rec rv : Value) (qv : Nat → Value) (J : List Nat) (dev C : Int) (w : World) (F : FJ w H cs h code rec rv qv J) (hk : MOk cs C h) (hn : J.length ≤ 90000000) :
    Calls Try.prog 37 #[.pointer (some ⟨H, 0, none⟩), .int .i64 dev] w fun e w' => e = .returned (.tuple #[msgV (drainH h dev).1, .int .i64 (drainH h dev).2.1]) ∧ FJOut w w' H cs (drainH h dev).2.2 code rec rv qv (noteJ (drainH h dev).2.1 J 68 dev 0) := by
  have HM : Hid (∀ ob, Calls Try.prog 71 #[.pointer (some ⟨H, 0, none⟩), .int .i64 dev] (w.alloc ob) fun e w' => e = .returned (.tuple #[msgV (drainH h dev).1, .int .i64 (drainH h dev).2.1]) ∧ MHOut (w.alloc ob) w' H code rec cs (drainH h dev).2.2 rv qv) := fun ob => m_Drain H code rec cs h rv qv dev C (w.alloc ob) (F.below ((Below.refl _ _).alloc (Nat.le_refl _) _)).m hk
  have HF : Hid (∀ ob, FJ (w.alloc ob) H cs h code rec rv qv J) := fun ob => F.below ((Below.refl _ _).alloc (Nat.le_refl _) _)
  have HFW : Hid (FJ w H cs h code rec rv qv J) := F
  clear F hk
  generalize drainH h dev = T at *
  obtain ⟨m, f, h1⟩ := T
  have emv : msgV m = .agg #[.int .i64 m.dev, .int .i64 m.run, .int .i64 m.num, .int .i64 m.key] := rfl
  simp only [emv] at *
  clear emv
  go_enter Try.func37, Try.ntmps37
  go_wp2_with fail
  refine (HM.out _).mono ?_
  rintro e w1 ⟨rfl, ho⟩
  obtain ⟨W, hW⟩ : ∃ W, W = w.alloc (.cells #[.int .i64 0, .int .i64 0, .int .i64 0, .int .i64 0] 83) := ⟨_, rfl⟩
  rw [← hW] at ho
  have hWs : W.heap.size = w.heap.size + 1 := by rw [hW]; simp
  have hWr : W.heap[w.heap.size]? = some (.cells #[.int .i64 0, .int .i64 0, .int .i64 0, .int .i64 0] 83 (0, 0)) := by rw [hW]; exact heap_alloc_new _ _
  have HFo : Hid (FJOut W w1 H cs h1 code rec rv qv J) := FJOut.of_m (by rw [hW]; exact HF.out _) ho
  have HWW : Hid (W.heap.size = w.heap.size + 1 ∧ (∀ k, k < w.heap.size → W.heap[k]? = w.heap[k]?) ∧ Fr (ownF H code rec rv qv) w W) := by
    refine ⟨hWs, fun k hk => by rw [hW]; exact Below.heap_alloc _ _ _ hk, ?_⟩
    rw [hW]
    exact (Fr.refl _ _).alloc _
  have hr1 : w1.heap[w.heap.size]? = some (.cells #[.int .i64 0, .int .i64 0, .int .i64 0, .int .i64 0] 83 (0, 0)) := by
    rw [HFo.out.fr.block _ (by omega) (fun hk => by have := HFW.out.lt hk; omega)]
    exact hWr
  have HN : Hid (∀ ob, Calls Try.prog 68 #[.pointer (some ⟨H, 0, none⟩), .int .i64 f, .agg #[.int .u8 68, .int .i64 dev, .int .i64 0]] (w1.alloc ob) fun e w' => e = .returned (.tuple #[]) ∧ FJOut W w' H cs h1 code rec rv qv (noteJ f J 68 dev 0) ∧ w'.heap[w1.heap.size]? = some ob ∧ w'.heap[w.heap.size]? = some (.cells #[.int .i64 0, .int .i64 0, .int .i64 0, .int .i64 0] 83 (0, 0))) := fun ob => by
    obtain ⟨⟨rec', rv', qv', h3, h4⟩, h5⟩ := HFo.out
    have hb : Below w1.heap.size w1 (w1.alloc ob) := (Below.refl _ _).alloc (Nat.le_refl _) _
    refine (note_anyJ H cs h1 code rec' rv' qv' J f 68 (by decide) dev 0 (w1.alloc ob) (h3.below hb) hn).mono ?_
    rintro e w' ⟨rfl, hO⟩
    refine ⟨rfl, FJOut.trans h4 (h5.alloc _) hO, ?_, ?_⟩
    · rw [hO.fr.block _ (by simp) (fun hk => by have := h3.lt hk; omega)]
      exact heap_alloc_new _ _
    · have hlt : w.heap.size < w1.heap.size := heap_lt hr1
      rw [hO.fr.block _ (by simp; omega) (fun hk => by
        rcases h4 _ hk with h | h
        · have := HFW.out.lt h; omega
        · omega), Below.heap_alloc _ _ _ hlt]
      exact hr1
  clear ho HM hW hWs hWr HFo hr1
  go_wp2_with fail
  refine (HN.out _).mono ?_
  rintro e w2 ⟨rfl, ho, hm2, hr2⟩
  obtain ⟨r0, r1, r2, r3, y0, y1, y2, y3⟩ := cells4 hr2
  obtain ⟨s0, s1, s2, s3, _⟩ := cells4 hm2
  have hlt2 : w.heap.size < w2.heap.size := heap_lt hr2
  have HO : Hid (FJOut W w2 H cs h1 code rec rv qv (noteJ f J 68 dev 0)) := ho
  clear ho HN hm2 hr2
  go_wp2_with fail
  refine bodyPost_ret (v := .tuple #[.agg #[.int .i64 m.dev, .int .i64 m.run, .int .i64 m.num, .int .i64 m.key], .int .i64 f]) (by simp [results, Try.results37, go_sem, r0, r1, r2, r3]) rfl ⟨rfl, ?_⟩
  obtain ⟨⟨rec', rv', qv', h3, h4⟩, h5⟩ := HO.out
  have hne : ∀ k, ownF H code rec' rv' qv' k → k ≠ w.heap.size := fun k hk => by
    rcases h4 k hk with h | h
    · have := HFW.out.lt h; omega
    · have := HWW.out.1; omega
  refine ⟨⟨rec', rv', qv', h3.keep fun k hk => ?_, fun k hk => ?_⟩, ?_⟩
  · have := hne k hk
    rw [Below.heap_setCell _ _ _ _ this, Below.heap_setCell _ _ _ _ this, Below.heap_setCell _ _ _ _ this, Below.heap_setCell _ _ _ _ this]
  · rcases h4 k hk with h | h
    · exact .inl h
    · exact .inr (by have := HWW.out.1; omega)
  · have hw : w.heap.size ≤ (⟨w.heap.size, 0, none⟩ : Addr).block := Nat.le_refl _
    have f0 : Fr (ownF H code rec rv qv) w w2 := HWW.out.2.2.trans h5
    exact (((f0.setCell ⟨w.heap.size, 0, none⟩ (.inr hw) _).setCell ⟨w.heap.size, 1, none⟩ (.inr hw) _).setCell ⟨w.heap.size, 2, none⟩ (.inr hw) _).setCell ⟨w.heap.size, 3, none⟩ (.inr hw) _
end Go.Proofs.Ytmmmnghiegajmaa
/- The document's check, by long division, is the program's, bit by bit: a record of the document is one of the program. -/
namespace Go.Proofs.Herald
open Go Go.RowKit
/-- One bit comes in. -/
def crcSt (r : Nat) (t : Bool) : Nat := crcBit (r ^^^ (if t then 32768 else 0))
theorem two_xor (a b : Nat) : 2 * (a ^^^ b) = (2 * a) ^^^ (2 * b) := by
  refine Nat.eq_of_testBit_eq fun i => ?_
  have e : ∀ x : Nat, 2 * x = x <<< 1 := fun x => by rw [Nat.shiftLeft_eq]; omega
  rw [e, e, e, Nat.testBit_xor, Nat.testBit_shiftLeft, Nat.testBit_shiftLeft, Nat.testBit_shiftLeft, Nat.testBit_xor]
  cases decide (i ≥ 1) <;> simp
theorem top_xor {x y : Nat} (hx : x < 65536) (hy : y < 32768) : 65535 < 2 * (x ^^^ y) ↔ 65535 < 2 * x := by
  have hz : x ^^^ y < 65536 := Nat.xor_lt_two_pow (n := 16) hx (by omega)
  have key : ∀ z : Nat, z < 65536 → (65535 < 2 * z ↔ z.testBit 15 = true) := fun z hz => by
    rw [Nat.testBit_eq_decide_div_mod_eq]
    have : z / 2 ^ 15 % 2 = 1 ↔ 65535 < 2 * z := by omega
    simpa using this.symm
  rw [key _ hz, key _ hx, Nat.testBit_xor, Nat.testBit_lt_two_pow (show y < 2 ^ 15 from hy), Bool.xor_false]
theorem crcBit_xor {x y : Nat} (hx : x < 65536) (hy : y < 32768) : crcBit (x ^^^ y) = crcBit x ^^^ (2 * y) := by
  unfold crcBit
  by_cases h : 65535 < 2 * x
  · rw [if_pos h, if_pos ((top_xor hx hy).mpr h), two_xor, Nat.xor_assoc, Nat.xor_assoc, Nat.xor_comm (2 * y)]
  · rw [if_neg h, if_neg (fun hh => h ((top_xor hx hy).mp hh)), two_xor]
theorem xor_split (b : Nat) (hb : b < 256) : 256 * b = (if 128 ≤ b then 32768 else 0) ^^^ (256 * (b % 128)) := by
  have : ∀ b : Fin 256, 256 * b.1 = (if 128 ≤ b.1 then 32768 else 0) ^^^ (256 * (b.1 % 128)) := by decide +kernel
  exact this ⟨b, hb⟩
theorem crcBit_byte {r b : Nat} (hr : r < 65536) (hb : b < 256) : crcBit (r ^^^ (256 * b)) = crcSt r (decide (128 ≤ b)) ^^^ (256 * (2 * b % 256)) := by
  unfold crcSt
  rw [xor_split b hb, ← Nat.xor_assoc, crcBit_xor (Nat.xor_lt_two_pow (n := 16) hr (by split <;> omega)) (by omega)]
  have e : 2 * (256 * (b % 128)) = 256 * (2 * b % 256) := by omega
  rw [e]
  by_cases h : 128 ≤ b
  · simp [h]
  · simp [h]
theorem crcBits_succ : ∀ (k r : Nat), crcBits (k + 1) r = crcBits k (crcBit r)
  | 0, _ => rfl
  | k + 1, r => by
    show crcBit (crcBits (k + 1) r) = crcBit (crcBits k (crcBit r))
    rw [crcBits_succ k r]
theorem crcSt_lt {r : Nat} (h : r < 65536) (t : Bool) : crcSt r t < 65536 := crcBit_lt (Nat.xor_lt_two_pow (n := 16) h (by split <;> omega))
/-- The top k bits of a byte. -/
def topBits (b : Nat) : Nat → List Bool
  | 0 => []
  | k + 1 => decide (128 ≤ b % 256) :: topBits (2 * b) k
theorem topBits_mod : ∀ (k b : Nat), topBits (b % 256) k = topBits b k
  | 0, _ => rfl
  | k + 1, b => by
    show _ :: _ = _ :: _
    rw [Nat.mod_mod, ← topBits_mod k (2 * (b % 256)), ← topBits_mod k (2 * b)]
    congr 2
    omega
theorem crcBits_bits : ∀ (k r b : Nat), r < 65536 → b < 256 → crcBits k (r ^^^ (256 * b)) = (topBits b k).foldl crcSt r ^^^ (256 * (2 ^ k * b % 256))
  | 0, r, b, _, hb => by
    show r ^^^ (256 * b) = r ^^^ _
    rw [Nat.pow_zero, Nat.one_mul, Nat.mod_eq_of_lt hb]
  | k + 1, r, b, hr, hb => by
    rw [crcBits_succ, crcBit_byte hr hb, crcBits_bits k _ _ (crcSt_lt hr _) (by omega), topBits_mod]
    show _ = (topBits (2 * b) k).foldl crcSt (crcSt r (decide (128 ≤ b % 256))) ^^^ _
    rw [Nat.mod_eq_of_lt hb]
    congr 1
    congr 1
    rw [Nat.pow_succ, Nat.mul_assoc]
    have h := Nat.mul_mod (2 ^ k) (2 * b % 256) 256
    rw [Nat.mod_mod] at h
    rw [h, ← Nat.mul_mod]
theorem crcByte_top {r b : Nat} (hr : r < 65536) (hb : b < 256) : crcByte r b = (topBits b 8).foldl crcSt r := by
  rw [crcByte_eq, crcBits_bits 8 r b hr hb]
  have e : 2 ^ 8 * b % 256 = 0 := by omega
  rw [e, Nat.mul_zero, Nat.xor_zero]
def bitsL (L : List Nat) : List Bool := L.flatMap fun b => topBits b 8
theorem bitsL_cons (b : Nat) (L : List Nat) : bitsL (b :: L) = topBits b 8 ++ bitsL L := by unfold bitsL; rw [List.flatMap_cons]
theorem foldl_st_lt : ∀ (l : List Bool) {r : Nat}, r < 65536 → l.foldl crcSt r < 65536
  | [], _, h => h
  | t :: l, _, h => foldl_st_lt l (crcSt_lt h t)
theorem crcL_bits : ∀ (L : List Nat) {r : Nat}, r < 65536 → (∀ b ∈ L, b < 256) → L.foldl crcByte r = (bitsL L).foldl crcSt r
  | [], _, _, _ => rfl
  | b :: L, r, hr, hb => by
    have h1 := hb b (List.mem_cons_self ..)
    rw [List.foldl_cons, bitsL_cons, List.foldl_append, crcByte_top hr h1]
    exact crcL_bits L (foldl_st_lt _ hr) fun c hc => hb c (List.mem_cons_of_mem _ hc)
theorem crcBit_top {x : Nat} (hx : x < 65536) {k : Nat} : (crcBit x).testBit k = ((decide (1 ≤ k) && x.testBit (k - 1)) != (x.testBit 15 && (69665 : Nat).testBit k)) := by
  have e2 : ∀ z : Nat, (2 * z).testBit k = (decide (1 ≤ k) && z.testBit (k - 1)) := fun z => by
    rw [show 2 * z = z <<< 1 from by rw [Nat.shiftLeft_eq]; omega, Nat.testBit_shiftLeft]
  have key : 65535 < 2 * x ↔ x.testBit 15 = true := by
    rw [Nat.testBit_eq_decide_div_mod_eq]
    have : x / 2 ^ 15 % 2 = 1 ↔ 65535 < 2 * x := by omega
    simpa using this.symm
  unfold crcBit
  by_cases h : 65535 < 2 * x
  · rw [if_pos h, Nat.testBit_xor, e2, key.mp h, Bool.true_and]
  · have h2 : x.testBit 15 = false := by
      cases hh : x.testBit 15 with
      | false => rfl
      | true => exact absurd (key.mpr hh) h
    rw [if_neg h, e2, h2, Bool.false_and, Bool.bne_false]
theorem crcSt_top {r : Nat} (hr : r < 65536) (t : Bool) {k : Nat} (hk : k < 16) : (crcSt r t).testBit k = ((decide (1 ≤ k) && r.testBit (k - 1)) != ((r.testBit 15 != t) && (69665 : Nat).testBit k)) := by
  unfold crcSt
  have h32 : ∀ j : Nat, (if t then 32768 else 0 : Nat).testBit j = (t && decide (j = 15)) := fun j => by
    cases t with
    | false => simp
    | true =>
      show (32768 : Nat).testBit j = (true && decide (j = 15))
      rw [show (32768 : Nat) = 2 ^ 15 from rfl, Nat.testBit_two_pow, Bool.true_and]
      exact decide_eq_decide.mpr ⟨fun h => h.symm, fun h => h.symm⟩
  rw [crcBit_top (Nat.xor_lt_two_pow (n := 16) hr (by split <;> omega)), Nat.testBit_xor, Nat.testBit_xor, h32, h32]
  have e : decide (k - 1 = 15) = false := decide_eq_false (by omega)
  rw [e, Bool.and_false, Bool.xor_false]
  simp
theorem flipAt_get (l : List Bool) (q p : Nat) (hp : p < l.length) : (flipAt l q).getD p false = (l.getD p false != decide (p = q)) := by
  unfold flipAt
  by_cases h : p = q
  · subst h
    simp [List.getD, hp]
  · have h2 : q ≠ p := fun e => h e.symm
    simp [List.getD, List.getElem?_set_ne h2, h]
theorem sub_all (l : List Bool) (i : Nat) : subN l i 16 = flipAt (flipAt (flipAt l (i + 16)) (i + 11)) (i + 4) := by
  have d : ∀ k, k < 16 → divB k = (k == 0 || k == 5 || k == 12) := fun k hk => by
    have : ∀ k : Fin 16, divB k.1 = (k.1 == 0 || k.1 == 5 || k.1 == 12) := by decide +kernel
    exact this ⟨k, hk⟩
  simp only [subN, d 0 (by omega), d 1 (by omega), d 2 (by omega), d 3 (by omega), d 4 (by omega), d 5 (by omega), d 6 (by omega), d 7 (by omega), d 8 (by omega), d 9 (by omega), d 10 (by omega), d 11 (by omega), d 12 (by omega), d 13 (by omega), d 14 (by omega), d 15 (by omega)]
  rfl
theorem poly_bit (k : Nat) (hk : k < 16) : (69665 : Nat).testBit k = (k == 0 || k == 5 || k == 12) := by
  have : ∀ k : Fin 16, (69665 : Nat).testBit k.1 = (k.1 == 0 || k.1 == 5 || k.1 == 12) := by decide +kernel
  exact this ⟨k, hk⟩
/-- The division's state: i bits are divided, r is the rest. -/
structure DivAt (B : List Bool) (n i r : Nat) (l : List Bool) : Prop where
  len : l.length = n + 16
  win : ∀ j, j < 16 → l.getD (i + j) false = (r.testBit (15 - j) != B.getD (i + j) false)
  far : ∀ p, i + 16 ≤ p → p < n + 16 → l.getD p false = B.getD p false
theorem DivAt.step {B : List Bool} {n i r : Nat} {l : List Bool} (h : DivAt B n i r l) (hi : i < n) (hr : r < 65536) : DivAt B n (i + 1) (crcSt r (B.getD i false)) (if l.getD i false then subN (l.set i false) i 16 else l) := by
  have h0 : l.getD i false = (r.testBit 15 != B.getD i false) := by
    have := h.win 0 (by omega)
    simpa using this
  have hget : ∀ p, i < p → p < n + 16 → (if l.getD i false then subN (l.set i false) i 16 else l).getD p false = (l.getD p false != (l.getD i false && (decide (p = i + 16) || decide (p = i + 11) || decide (p = i + 4)))) := fun p h1 h2 => by
    cases hl : l.getD i false with
    | false => simp
    | true =>
      rw [if_pos rfl, sub_all]
      have hs : ∀ p, i < p → (l.set i false).getD p false = l.getD p false := fun p hp => by
        have hne : i ≠ p := by omega
        simp [List.getD, List.getElem?_set_ne hne]
      rw [flipAt_get _ _ _ (by rw [flipAt_len, flipAt_len, List.length_set, h.len]; omega), flipAt_get _ _ _ (by rw [flipAt_len, List.length_set, h.len]; omega), flipAt_get _ _ _ (by rw [List.length_set, h.len]; omega), hs p h1]
      by_cases e1 : p = i + 16
      · have e2 : ¬ p = i + 11 := by omega
        have e3 : ¬ p = i + 4 := by omega
        simp [e1]
      · by_cases e2 : p = i + 11
        · simp [e2]
        · by_cases e3 : p = i + 4
          · simp [e3]
          · simp [e1, e2, e3]
  refine ⟨?_, fun j hj => ?_, fun p h1 h2 => ?_⟩
  · split
    · rw [subN_len, List.length_set, h.len]
    · exact h.len
  · rw [hget (i + 1 + j) (by omega) (by omega), crcSt_top hr _ (by omega), poly_bit _ (by omega), h0]
    by_cases hj15 : j = 15
    · subst hj15
      rw [h.far (i + 1 + 15) (by omega) (by omega)]
      have e1 : decide (i + 1 + 15 = i + 16) = true := decide_eq_true (by omega)
      rw [e1]
      generalize B.getD (i + 1 + 15) false = x
      generalize (r.testBit 15 != B.getD i false) = y
      cases x <;> cases y <;> rfl
    · have hw := h.win (j + 1) (by omega)
      rw [show i + (j + 1) = i + 1 + j by omega, show 15 - (j + 1) = 15 - j - 1 by omega] at hw
      rw [hw]
      have e0 : decide (1 ≤ 15 - j) = true := decide_eq_true (by omega)
      have e1 : decide (i + 1 + j = i + 16) = false := decide_eq_false (by omega)
      have e2 : decide (i + 1 + j = i + 11) = (15 - j == 5) := by
        by_cases hh : j = 10
        · subst hh; simp
        · have a1 : ¬ i + 1 + j = i + 11 := by omega
          have a2 : ¬ 15 - j = 5 := by omega
          simp [a1, a2]
      have e3 : decide (i + 1 + j = i + 4) = (15 - j == 12) := by
        by_cases hh : j = 3
        · subst hh; simp
        · have a1 : ¬ i + 1 + j = i + 4 := by omega
          have a2 : ¬ 15 - j = 12 := by omega
          simp [a1, a2]
      have e4 : (15 - j == 0) = false := by
        have a2 : ¬ 15 - j = 0 := by omega
        simp [a2]
      rw [e0, e1, e2, e3, e4, Bool.true_and, Bool.false_or]
      generalize r.testBit (15 - j - 1) = x
      generalize B.getD (i + 1 + j) false = y
      generalize (r.testBit 15 != B.getD i false) = z
      generalize (15 - j == 5) = u
      generalize (15 - j == 12) = v
      cases x <;> cases y <;> cases z <;> cases u <;> cases v <;> rfl
  · rw [hget p (by omega) h2, h.far p (by omega) h2]
    have e1 : decide (p = i + 16) = false := decide_eq_false (by omega)
    have e2 : decide (p = i + 11) = false := decide_eq_false (by omega)
    have e3 : decide (p = i + 4) = false := decide_eq_false (by omega)
    rw [e1, e2, e3]
    simp
theorem div_all {B : List Bool} {n : Nat} {l : List Bool} (hB : B.length = n) (h : DivAt B n 0 65535 l) : ∀ i, i ≤ n → DivAt B n i ((B.take i).foldl crcSt 65535) (divN l i)
  | 0, _ => by rw [List.take_zero]; exact h
  | i + 1, hi => by
    have ih := div_all hB h i (by omega)
    have hlt : i < B.length := by omega
    rw [List.take_succ_eq_append_getElem hlt, List.foldl_append, List.foldl_cons, List.foldl_nil]
    have e : B[i] = B.getD i false := by simp [List.getD, hlt]
    rw [e]
    exact ih.step (by omega) (foldl_st_lt _ (by decide))
theorem flipN_get (l : List Bool) : ∀ (k p : Nat), p < l.length → (flipN l k).getD p false = (l.getD p false != decide (p < k))
  | 0, p, _ => by simp [flipN]
  | k + 1, p, hp => by
    rw [flipN, flipAt_get _ _ _ (by rw [flipN_len]; exact hp), flipN_get l k p hp]
    by_cases h1 : p = k
    · subst h1; simp
    · by_cases h2 : p < k
      · have : p < k + 1 := by omega
        simp [h1, h2, this]
      · have : ¬ p < k + 1 := by omega
        simp [h1, h2, this]
theorem head_div (B : List Bool) (h16 : 16 ≤ B.length) : DivAt B B.length 0 65535 (flipN B 16 ++ List.replicate 16 false) := by
  have hg : ∀ p, p < B.length + 16 → (flipN B 16 ++ List.replicate 16 false).getD p false = (B.getD p false != decide (p < 16)) := fun p hp => by
    by_cases h : p < B.length
    · rw [← flipN_get B 16 p h]
      simp [List.getD, List.getElem?_append_left (show p < (flipN B 16).length by rw [flipN_len]; exact h)]
    · have h1 : ¬ p < 16 := by omega
      simp only [List.getD, List.getElem?_append_right (show (flipN B 16).length ≤ p by rw [flipN_len]; omega), List.getElem?_replicate, List.getElem?_eq_none (show B.length ≤ p by omega), h1, flipN_len]
      split <;> rfl
  refine ⟨by rw [List.length_append, flipN_len, List.length_replicate], fun j hj => ?_, fun p h1 h2 => ?_⟩
  · have e1 : (65535 : Nat).testBit (15 - j) = true := by
      have : ∀ k : Fin 16, (65535 : Nat).testBit k.1 = true := by decide +kernel
      exact this ⟨15 - j, by omega⟩
    have e2 : decide (0 + j < 16) = true := decide_eq_true (by omega)
    rw [hg _ (by omega), e1, e2]
    generalize B.getD (0 + j) false = x
    cases x <;> rfl
  · have e2 : decide (p < 16) = false := decide_eq_false (by omega)
    rw [hg p h2, e2, Bool.bne_false]
/-- Two bytes out of bits. -/
def out2F (f : Nat → Bool) : Nat → List Int
  | 0 => [0, 0]
  | k + 1 => if f k then (out2F f k).set (k / 8) (Go.bits BinOp.or IntKind.u8 ((out2F f k).getD (k / 8) 0) (2 ^ (7 - k % 8))) else out2F f k
theorem out2F_eq (l : List Bool) (n : Nat) : ∀ k, outN l n k = out2F (fun k => l.getD (n + k) false) k
  | 0 => rfl
  | k + 1 => by rw [outN, out2F, out2F_eq l n k]
theorem out2F_congr {f g : Nat → Bool} : ∀ k, (∀ j, j < k → f j = g j) → out2F f k = out2F g k
  | 0, _ => rfl
  | k + 1, h => by rw [out2F, out2F, out2F_congr k (fun j hj => h j (by omega)), h k (by omega)]
theorem out2F_len (f : Nat → Bool) : ∀ k, (out2F f k).length = 2
  | 0 => rfl
  | k + 1 => by
    rw [out2F]
    split
    · rw [List.length_set, out2F_len f k]
    · exact out2F_len f k
theorem out2F_low (f : Nat → Bool) (x : Int) (h8 : out2F f 8 = [x, 0]) : ∀ k, k ≤ 8 → out2F f (8 + k) = [x, (out2F (fun j => f (8 + j)) k).getD 0 0]
  | 0, _ => by rw [Nat.add_zero, h8]; rfl
  | k + 1, hk => by
    have ih := out2F_low f x h8 k (by omega)
    rw [show 8 + (k + 1) = (8 + k) + 1 by omega, out2F, out2F, ih, show (8 + k) / 8 = 1 by omega, show (8 + k) % 8 = k by omega, show k / 8 = 0 by omega, show k % 8 = k by omega]
    have hl := out2F_len (fun j => f (8 + j)) k
    generalize out2F (fun j => f (8 + j)) k = o at *
    match o, hl with
    | [a, b], _ =>
      cases f (8 + k) <;> rfl
theorem out_byte (v : Nat) (hv : v < 256) : out2F (fun k => v.testBit (7 - k)) 8 = [(v : Int), 0] := by
  have : ∀ v : Fin 256, out2F (fun k => v.1.testBit (7 - k)) 8 = [(v.1 : Int), 0] := by decide +kernel
  exact this ⟨v, hv⟩
theorem out_two {f : Nat → Bool} {r : Nat} (hr : r < 65536) (hf : ∀ j, j < 16 → f j = r.testBit (15 - j)) : out2F f 16 = [((r / 256 : Nat) : Int), ((r % 256 : Nat) : Int)] := by
  have h1 : out2F f 8 = [((r / 256 : Nat) : Int), 0] := by
    rw [← out_byte (r / 256) (by omega)]
    refine out2F_congr 8 fun j hj => ?_
    rw [hf j (by omega), show r / 256 = r / 2 ^ 8 from rfl, Nat.testBit_div_two_pow, show 7 - j + 8 = 15 - j by omega]
  have h2 := out2F_low f _ h1 8 (by omega)
  rw [show (16 : Nat) = 8 + 8 from rfl, h2]
  have h3 : out2F (fun j => f (8 + j)) 8 = [((r % 256 : Nat) : Int), 0] := by
    rw [← out_byte (r % 256) (by omega)]
    refine out2F_congr 8 fun j hj => ?_
    rw [hf (8 + j) (by omega), show r % 256 = r % 2 ^ 8 from rfl, Nat.testBit_mod_two_pow, show 15 - (8 + j) = 7 - j by omega, decide_eq_true (show 7 - j < 8 by omega), Bool.true_and]
  rw [h3]
  rfl
theorem topBits_len : ∀ (k b : Nat), (topBits b k).length = k
  | 0, _ => rfl
  | k + 1, b => by show (topBits (2 * b) k).length + 1 = k + 1; rw [topBits_len k]
theorem topBits_bitF (b m : Nat) (hb : b < 256) (hm : m < 8) : (topBits b 8).getD m false = bitF (b : Int) m := by
  have : ∀ (b : Fin 256) (m : Fin 8), (topBits b.1 8).getD m.1 false = bitF (b.1 : Int) m.1 := by decide +kernel
  exact this ⟨b, hb⟩ ⟨m, hm⟩
theorem bitsL_get : ∀ (L : List Nat) (i : Nat), i < L.length * 8 → (bitsL L).getD i false = (topBits (L.getD (i / 8) 0) 8).getD (i % 8) false
  | [], i, h => by simp at h
  | b :: L, i, h => by
    have hl := topBits_len 8 b
    show ((topBits b 8) ++ bitsL L).getD i false = _
    by_cases hi : i < 8
    · rw [show i / 8 = 0 by omega, show i % 8 = i by omega]
      simp [List.getD, List.getElem?_append_left (show i < (topBits b 8).length by omega)]
    · have e : (i - 8) / 8 = i / 8 - 1 := by omega
      have e2 : (i - 8) % 8 = i % 8 := by omega
      have ih := bitsL_get L (i - 8) (by simp only [List.length_cons] at h; omega)
      rw [e, e2] at ih
      obtain ⟨q, hq⟩ : ∃ q, i / 8 = q + 1 := ⟨i / 8 - 1, by omega⟩
      rw [hq] at ih ⊢
      have e3 : ((topBits b 8) ++ bitsL L).getD i false = (bitsL L).getD (i - 8) false := by
        simp only [List.getD, List.getElem?_append_right (show (topBits b 8).length ≤ i by omega), hl]
      rw [e3, ih]
      rfl
theorem bitsL_len : ∀ L : List Nat, (bitsL L).length = L.length * 8
  | [] => rfl
  | b :: L => by
    show ((topBits b 8) ++ bitsL L).length = _
    rw [List.length_append, topBits_len, bitsL_len L, List.length_cons]
    omega
theorem bits_strN (L : List Nat) (hL : ∀ x ∈ L, x < 256) : bitsUpto (strN L) (L.length * 8) = bitsL L := by
  refine List.ext_getElem (by rw [bitsUpto_len, bitsL_len]) fun i h1 h2 => ?_
  rw [bitsUpto_len] at h1
  have hi : i / 8 < L.length := by omega
  have e1 : (bitsUpto (strN L) (L.length * 8))[i]'(by rw [bitsUpto_len]; exact h1) = bitOf (strN L) i := by simp [bitsUpto]
  have e2 : (bitsL L)[i] = (bitsL L).getD i false := by simp [List.getD, h2]
  rw [e1, e2, bitsL_get L i h1]
  have hg : L.getD (i / 8) 0 = L[i / 8] := by simp [List.getD, hi]
  have hb := hL _ (List.getElem_mem hi)
  rw [hg, topBits_bitF _ _ hb (by omega)]
  unfold bitOf
  have e3 : (strN L).data.getD (i / 8) 0 = UInt8.ofNat L[i / 8] := by
    rw [Array.getD_eq_getD_getElem?]
    simp [strN, hi]
  rw [e3, u8_back hb]
/-- The document's check is the program's. -/
theorem check_crc (L : List Nat) (hL : ∀ x ∈ L, x < 256) (h2 : 2 ≤ L.length) : checkS (strN L) = strN [crcL L / 256, crcL L % 256] := by
  unfold checkS headL
  rw [strN_size, bits_strN L hL]
  have hl := bitsL_len L
  have hd := div_all hl.symm.symm (by have := head_div (bitsL L) (by omega); rw [hl] at this; exact this) (L.length * 8) (Nat.le_refl _)
  rw [List.take_of_length_le (by omega), ← crcL_bits L (by decide) hL] at hd
  have hr : L.foldl crcByte 65535 < 65536 := by rw [crcL_bits L (by decide) hL]; exact foldl_st_lt _ (by decide)
  rw [out2F_eq, out_two hr fun j hj => ?_]
  · unfold strOfNums strN crcL
    rfl
  · rw [hd.win j hj]
    have e : (bitsL L).getD (L.length * 8 + j) false = false := by simp [List.getD, List.getElem?_eq_none (show (bitsL L).length ≤ L.length * 8 + j by omega)]
    rw [e, Bool.bne_false]
end Go.Proofs.Herald
namespace Go.Proofs.Ytmmmnghiegajmaa
open Go.RowKit Go.Proofs.Herald
theorem eightL_N (n : Int) : strOfNums (eightL n) = strN (eightN n) := by
  rw [← strN_nums, eightN_int]
  rfl
theorem bodyS_B (c : Nat) (a b : Int) : bodyS (c : Int) a b = strN (bodyB c a b) := by
  have e : strOfNums [(c : Int)] = strN [c] := by
    rw [← strN_nums]
    rfl
  unfold bodyS
  rw [eightL_N, eightL_N, e, strN_append, strN_append]
  rfl
/-- A record. -/
theorem recS_B {c : Nat} (hc : c < 256) (a b : Int) : recS (c : Int) a b = strN (recB c a b) := by
  unfold recS
  rw [bodyS_B, check_crc _ (bodyB_lt hc a b) (by rw [bodyB_len]; omega), strN_append]
  rfl
theorem recAfter_N {c : Nat} (hc : c < 256) (J : List Nat) (f a b : Int) : recAfter (strN J) f (c : Int) a b = strN (noteJ f J c a b) := by
  unfold recAfter noteJ
  split
  · rw [recS_B hc, strN_append]
  · rfl
end Go.Proofs.Ytmmmnghiegajmaa
