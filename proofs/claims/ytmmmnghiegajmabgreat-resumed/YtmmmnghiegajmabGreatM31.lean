import Derived.Test.YtmmmnghiegajmabGreatM30
/- The program's herald with its journal, exactly: what each call writes down. -/
namespace Go.Proofs.YtmmmnghiegajmabGreat
open Go.RowKit Go.Proofs.Herald
/-- The journal behind a call: f is its answer. -/
def noteJ (f : Int) (J : List Nat) (c : Nat) (a b : Int) : List Nat := if f = 0 then J ++ recB c a b else J
theorem natsI_len (J : List Nat) : (natsI J).length = J.length := List.length_map ..
/-- The whole herald: the machine, and its records. -/
structure FJ (w : World) (H : Nat) (cs : List Ins) (h : Her Pr) (code rec rv : Value) (qv : Nat → Value) (J : List Nat) : Prop where
  m : MH w H code rec cs h rv qv
  r : w.ownsRow 0 5 1 rec J.length (bytesV (natsI J))
theorem FJ.fh {w : World} {H : Nat} {cs : List Ins} {h : Her Pr} {code rec rv : Value} {qv : Nat → Value} {J : List Nat} (F : FJ w H cs h code rec rv qv J) : FH w H cs h code rec rv qv J.length := ⟨F.m, natsI J, natsI_len J, F.r⟩
/-- Behind a call of the herald. -/
structure FJOut (w w' : World) (H : Nat) (cs : List Ins) (h : Her Pr) (code rec rv : Value) (qv : Nat → Value) (J : List Nat) : Prop where
  ex : ∃ rec' rv' qv', FJ w' H cs h code rec' rv' qv' J ∧ ∀ k, ownF H code rec' rv' qv' k → ownF H code rec rv qv k ∨ w.heap.size ≤ k
  fr : Fr (ownF H code rec rv qv) w w'
theorem FJ.rec_keep {w w1 : World} {H : Nat} {cs : List Ins} {h : Her Pr} {code rec rv : Value} {qv : Nat → Value} {J : List Nat} (F : FJ w H cs h code rec rv qv J) (hf : Fr (ownH H rv qv) w w1) : w1.ownsRow 0 5 1 rec J.length (bytesV (natsI J)) := by
  refine own_keep F.r fun b hb => ?_
  obtain ⟨c, hc⟩ := own_block F.r hb
  refine hf.block b (heap_lt hc) fun ho => ?_
  obtain ⟨c2, t, hc2, ht⟩ := F.m.at'.sort ho
  rcases ht with rfl | rfl | rfl
  · exact ne_of_type hc hc2 (by decide) rfl
  · exact ne_of_type hc hc2 (by decide) rfl
  · exact ne_of_type hc hc2 (by decide) rfl
theorem FJOut.of_m {w w1 : World} {H : Nat} {cs : List Ins} {h h1 : Her Pr} {code rec rv : Value} {qv : Nat → Value} {J : List Nat} (F : FJ w H cs h code rec rv qv J) (ho : MHOut w w1 H code rec cs h1 rv qv) : FJOut w w1 H cs h1 code rec rv qv J := by
  obtain ⟨⟨rv', qv', h2, h3⟩, h4⟩ := ho
  refine ⟨⟨rec, rv', qv', ⟨h2, F.rec_keep h4⟩, fun k hk => ?_⟩, h4.mono fun k _ hk => .inl hk⟩
  rcases hk with hk | hk
  · rcases h3 k hk with h | h
    · exact .inl (.inl h)
    · exact .inr h
  · exact .inl (.inr hk)
theorem FJOut.trans {w w1 w2 : World} {H : Nat} {cs : List Ins} {h1 : Her Pr} {code rec rv rec1 rv1 : Value} {qv qv1 : Nat → Value} {J : List Nat} (ho : ∀ k, ownF H code rec1 rv1 qv1 k → ownF H code rec rv qv k ∨ w.heap.size ≤ k) (hf : Fr (ownF H code rec rv qv) w w1) (h2 : FJOut w1 w2 H cs h1 code rec1 rv1 qv1 J) : FJOut w w2 H cs h1 code rec rv qv J := by
  obtain ⟨⟨rec', rv', qv', a2, a3⟩, a4⟩ := h2
  refine ⟨⟨rec', rv', qv', a2, fun k hk => ?_⟩, ?_⟩
  · rcases a3 k hk with h | h
    · exact ho k h
    · exact .inr (Nat.le_trans hf.size h)
  · have f1 : Fr (fun k => ownF H code rec rv qv k ∨ w.heap.size ≤ k) w w1 := hf.mono fun k _ hk => .inl hk
    have f2 : Fr (fun k => ownF H code rec rv qv k ∨ w.heap.size ≤ k) w1 w2 := a4.mono fun k _ hk => ho k hk
    exact (f1.trans f2).mono fun k hk hs => by
      rcases hs with h | h
      · exact h
      · omega
theorem FJ.below {w w1 : World} {H : Nat} {cs : List Ins} {h : Her Pr} {code rec rv : Value} {qv : Nat → Value} {J : List Nat} (F : FJ w H cs h code rec rv qv J) (hb : Below w.heap.size w w1) : FJ w1 H cs h code rec rv qv J := by
  have hf : Fr (ownH H rv qv) w w1 := (Fr.of_below hb).mono fun k hk hs => by omega
  exact ⟨⟨F.m.at'.below hb, F.m.at'.code hf F.m.cd⟩, F.rec_keep hf⟩
theorem FJOut.below {w w1 : World} {H : Nat} {cs : List Ins} {h : Her Pr} {code rec rv : Value} {qv : Nat → Value} {J : List Nat} (F : FJ w H cs h code rec rv qv J) (hb : Below w.heap.size w w1) : FJOut w w1 H cs h code rec rv qv J :=
  ⟨⟨rec, rv, qv, F.below hb, fun _ hk => .inl hk⟩, (Fr.of_below hb).mono fun k hk hs => by omega⟩
set_option maxRecDepth 20000 in
set_option maxHeartbeats 4000000 in
theorem note_yesJ (H : Nat) (cs : List Ins) (h : Her Pr) (code rec rv : Value) (qv : Nat → Value) (J : List Nat) (c : Nat) (hc : c < 256) (a b : Int) (w : World) (F0 : FJ w H cs h code rec rv qv J) (hn : J.length ≤ 90000000) :
    Calls Tryz.prog 29 #[.pointer (some ⟨H, 0, none⟩), .int .i64 0, .agg #[.int .u8 (c : Nat), .int .i64 a, .int .i64 b]] w fun e w' => e = .returned (.tuple #[]) ∧ FJOut w w' H cs h code rec rv qv (J ++ recB c a b) := by
  have F := F0.fh
  have hxo := F0.r
  obtain ⟨xs, hxs⟩ : ∃ xs, xs = natsI J := ⟨_, rfl⟩
  obtain ⟨n, hnJ⟩ : ∃ n, n = J.length := ⟨_, rfl⟩
  have hxl : xs.length = n := by rw [hxs, hnJ, natsI_len]
  rw [← hxs, ← hnJ] at hxo
  rw [← hnJ] at F hn
  have HXS : Hid (xs = natsI J ∧ n = J.length) := ⟨hxs, hnJ⟩
  obtain ⟨ra, rc, hrv⟩ := ownsRow_slice hxo
  have HF : Hid (FH w H cs h code rec rv qv n) := F
  have HRV : Hid (rec = .slice ra n rc) := hrv
  have HXL : Hid (xs.length = n) := hxl
  have HW : Hid (∀ W : World, Calls Tryz.prog 49 #[.agg #[.int .u8 (c : Nat), .int .i64 a, .int .i64 b]] W fun e w' => ∃ v, e = .returned v ∧ w'.ownsRow W.heap.size 5 1 v 19 (bytesV (natsI (recB c a b))) ∧ Below W.heap.size W w') := fun W => x_write c hc a b W
  have HXO : Hid (w.ownsRow 0 5 1 (.slice ra n rc) n (bytesV xs)) := by rw [← hrv]; exact hxo
  clear F F0 hxo hrv hxl hxs hnJ hc
  go_enter Tryz.func29, Tryz.ntmps29
  go_wp2_with fail
  refine (HW.out _).mono ?_
  rintro e w1 ⟨v, rfl, hyo, hb1⟩
  obtain ⟨ys, hys⟩ : ∃ ys, ys = natsI (recB c a b) := ⟨_, rfl⟩
  rw [← hys] at hyo
  have hyl : ys.length = 19 := by rw [hys, natsI_len, recB_len]
  have HYS : Hid (ys = natsI (recB c a b)) := hys
  clear hys
  obtain ⟨va, vc, hv⟩ := ownsRow_slice hyo
  subst hv
  have HB1 : Hid (Below w.heap.size w w1) := ((Below.refl _ _).alloc (Nat.le_refl _) _).trans (hb1.mono (by simp))
  have HS : Hid (SrcAt w1 va 19 (bytesV ys) ∧ ys.length = 19) := ⟨src_own (own0 hyo), hyl⟩
  have HF1 : Hid (FH w1 H cs h code rec rv qv n) := HF.out.below HB1.out
  have HX1 : Hid (w1.ownsRow 0 5 1 (.slice ra n rc) n (bytesV xs)) := own_keep HXO.out fun k hk => by obtain ⟨c, hc⟩ := own_block HXO.out hk; exact HB1.out.block k (heap_lt hc)
  have c7 : w1.cell? ⟨H, 7, none⟩ = some (.slice ra n rc) := by rw [← HRV.out]; exact (cell_of_heap HF1.out.m.at'.blk).trans rfl
  clear hyo hb1 hyl
  go_wp2_with (at_builtin; refine wpList_append_src _ rfl (.tmp 15) (.tmp 16) 73 rfl 5 _ 1 1 Tryz.underlying73 Tryz.infoByte rfl (by decide) (by decide) (.slice ra n rc) n (bytesV xs) va 19 vc (bytesV ys) (by rfl) (by exact HX1.out) (by rfl) HS.out.1 (by rw [bytesV_len, HS.out.2]) (bytesV_one _) (by omega) ?_)
  intro v2 w2 hown2 ha2
  have hty : ∀ {k : Nat} {c : Array Value} {t : TypeId}, w1.heap[k]? = some (.cells c t (0, 0)) → t ≠ 5 → w2.heap[k]? = w1.heap[k]? := fun {k c t} hk ht => by
    rcases ha2 with ⟨g, cap, e1, _, hg⟩ | ⟨_, hg⟩
    · refine hg.block k (heap_lt hk) fun e => ?_
      obtain ⟨c2, hc2⟩ := own_block HX1.out (k := k) (by rw [e1]; exact e.symm)
      exact ne_of_type hk hc2 ht rfl
    · exact hg.block k (heap_lt hk) (by simp)
  have hb2 := (hty HF1.out.m.at'.blk (by decide)).trans HF1.out.m.at'.blk
  have d7 : w2.cell? ⟨H, 7, none⟩ = some (.slice ra n rc) := by rw [← HRV.out]; exact (cell_of_heap hb2).trans rfl
  have y7 : w2.frozen? ⟨H, 7, none⟩ = false := free_of_heap hb2
  obtain ⟨a2, cap2, hv2⟩ := ownsRow_slice hown2
  subst hv2
  have HFin : Hid (FJOut w (w2.setCell ⟨H, 7, none⟩ (.slice a2 (n + 19) cap2)) H cs h code rec rv qv (J ++ recB c a b)) := by
    have hlen : (J ++ recB c a b).length = n + 19 := by rw [List.length_append, recB_len, HXS.out.2]
    have hcont : natsI (J ++ recB c a b) = xs ++ ys := by rw [natsI_append, HXS.out.1, HYS.out]
    have hk3 : ∀ {k : Nat} {c : Array Value} {t : TypeId}, w1.heap[k]? = some (.cells c t (0, 0)) → t ≠ 5 → t ≠ 75 → (w2.setCell ⟨H, 7, none⟩ (.slice a2 (n + 19) cap2)).heap[k]? = w1.heap[k]? := fun {k c t} hk h1 h2 => by
      rw [Below.heap_setCell _ _ _ _ (ne_of_type hk HF1.out.m.at'.blk h2)]
      exact hty hk h1
    have hA := HF1.out.m.at'
    have hnew : ∀ b, (Value.slice a2 (n + 19) cap2).ownBlock = some b → rec.ownBlock = some b ∨ w.heap.size ≤ b := fun b hb => by
      rcases ha2 with ⟨g, cap, e1, e2, hg⟩ | ⟨hnw, hg⟩
      · rw [e2] at hb
        left
        rw [HRV.out, e1]
        exact hb
      · exact .inr (Nat.le_trans HB1.out.size (hnw b hb))
    refine ⟨⟨.slice a2 (n + 19) cap2, rv, qv, ⟨⟨⟨?_, fun d hd => own_keep (hA.oB d hd) fun b hb => ?_, hA.ql, hA.dis, own_keep hA.rB fun b hb => ?_, hA.rl⟩, own_keep HF1.out.m.cd fun b hb => ?_⟩, ?_⟩, fun k hk => ?_⟩, ?_⟩
    · rw [heap_setCell_self _ hb2]; rfl
    · obtain ⟨c, hc⟩ := own_block (hA.oB d hd) hb
      exact hk3 hc (by decide) (by decide)
    · obtain ⟨c, hc⟩ := own_block hA.rB hb
      exact hk3 hc (by decide) (by decide)
    · obtain ⟨c, hc⟩ := own_block HF1.out.m.cd hb
      exact hk3 hc (by decide) (by decide)
    · rw [hlen, hcont, bytesV_append]
      refine own_keep hown2 fun b hb => ?_
      obtain ⟨c, hc⟩ := own_block hown2 hb
      exact Below.heap_setCell _ _ _ _ (ne_of_type hc hb2 (by decide))
    · rcases hk with hk | hk | hk
      · exact .inl (.inl hk)
      · rcases hnew k hk with h | h
        · exact .inl (.inr (.inl h))
        · exact .inr h
      · exact .inl (.inr (.inr hk))
    · have f1 : Fr (ownF H code rec rv qv) w w1 := (Fr.of_below HB1.out).mono fun k hk hs => by omega
      have f2 : Fr (ownF H code rec rv qv) w1 w2 := by
        rcases ha2 with ⟨g, cap, e1, _, hg⟩ | ⟨_, hg⟩
        · exact (Fr.refl _ _).grown hg fun k hk => .inl (.inr (.inl (by rw [HRV.out, e1]; exact hk)))
        · exact (Fr.refl _ _).grown hg fun k hk => by cases hk
      exact (f1.trans f2).setCell ⟨H, 7, none⟩ (.inl (.inl (.inl rfl))) _
  clear hown2 ha2 hty hb2
  go_wp2_with fail
  go_end0
  exact ⟨rfl, HFin.out⟩
theorem note_anyJ (H : Nat) (cs : List Ins) (h : Her Pr) (code rec rv : Value) (qv : Nat → Value) (J : List Nat) (f : Int) (c : Nat) (hc : c < 256) (a b : Int) (w : World) (F : FJ w H cs h code rec rv qv J) (hn : J.length ≤ 90000000) :
    Calls Tryz.prog 29 #[.pointer (some ⟨H, 0, none⟩), .int .i64 f, .agg #[.int .u8 (c : Nat), .int .i64 a, .int .i64 b]] w fun e w' => e = .returned (.tuple #[]) ∧ FJOut w w' H cs h code rec rv qv (noteJ f J c a b) := by
  by_cases hf : f = 0
  · subst hf
    have e : noteJ 0 J c a b = J ++ recB c a b := if_pos rfl
    rw [e]
    exact note_yesJ H cs h code rec rv qv J c hc a b w F hn
  · have e : noteJ f J c a b = J := if_neg hf
    rw [e]
    refine (note_no H f c a b w hf).mono ?_
    rintro e w' ⟨rfl, hb⟩
    exact ⟨rfl, FJOut.below F hb⟩
/-- A call of the machine, and its record. -/
theorem notedJ {w w1 : World} {H : Nat} {cs : List Ins} {h h1 : Her Pr} {code rec rv : Value} {qv : Nat → Value} {J : List Nat} (F : FJ w H cs h code rec rv qv J) (hn : J.length ≤ 90000000) (ho : MHOut w w1 H code rec cs h1 rv qv) (f : Int) (c : Nat) (hc : c < 256) (a b : Int) :
    Calls Tryz.prog 29 #[.pointer (some ⟨H, 0, none⟩), .int .i64 f, .agg #[.int .u8 (c : Nat), .int .i64 a, .int .i64 b]] w1 fun e w' => e = .returned (.tuple #[]) ∧ FJOut w w' H cs h1 code rec rv qv (noteJ f J c a b) := by
  obtain ⟨⟨rec', rv', qv', h3, h4⟩, h5⟩ := FJOut.of_m F ho
  refine (note_anyJ H cs h1 code rec' rv' qv' J f c hc a b w1 h3 hn).mono ?_
  rintro e w' ⟨rfl, hO⟩
  exact ⟨rfl, FJOut.trans h4 h5 hO⟩
set_option maxRecDepth 20000 in
set_option maxHeartbeats 4000000 in
theorem j_Trigger (H : Nat) (cs : List Ins) (h : Her Pr) (code rec rv : Value) (qv : Nat → Value) (J : List Nat) (dev C : Int) (w : World) (F : FJ w H cs h code rec rv qv J) (hk : MOk cs C h) (hn : J.length ≤ 90000000) :
    Calls Tryz.prog 15 #[.pointer (some ⟨H, 0, none⟩), .int .i64 dev] w fun e w' => e = .returned (.tuple #[.int .i64 (trigH (machE cs) h dev).1, .int .i64 (trigH (machE cs) h dev).2.1]) ∧ FJOut w w' H cs (trigH (machE cs) h dev).2.2 code rec rv qv (noteJ (trigH (machE cs) h dev).2.1 J 84 dev 0) := by
  have HM : Hid (Calls Tryz.prog 28 #[.pointer (some ⟨H, 0, none⟩), .int .i64 dev] w fun e w' => e = .returned (.tuple #[.int .i64 (trigH (machE cs) h dev).1, .int .i64 (trigH (machE cs) h dev).2.1]) ∧ MHOut w w' H code rec cs (trigH (machE cs) h dev).2.2 rv qv) := m_Trigger H code rec cs h rv qv dev C w F.m hk
  have HF : Hid (FJ w H cs h code rec rv qv J) := F
  clear F hk
  generalize trigH (machE cs) h dev = T at *
  go_enter Tryz.func15, Tryz.ntmps15
  go_wp2_with fail
  refine HM.out.mono ?_
  rintro e w1 ⟨rfl, ho⟩
  have HN : Hid (Calls Tryz.prog 29 #[.pointer (some ⟨H, 0, none⟩), .int .i64 T.2.1, .agg #[.int .u8 84, .int .i64 dev, .int .i64 0]] w1 fun e w' => e = .returned (.tuple #[]) ∧ FJOut w w' H cs T.2.2 code rec rv qv (noteJ T.2.1 J 84 dev 0)) := notedJ HF.out hn ho _ 84 (by decide) _ _
  clear ho HM
  go_wp2_with fail
  refine HN.out.mono ?_
  rintro e w2 ⟨rfl, ho⟩
  have HO : Hid (FJOut w w2 H cs T.2.2 code rec rv qv (noteJ T.2.1 J 84 dev 0)) := ho
  clear ho HN
  go_wp2_with fail
  go_ret2
  exact ⟨rfl, HO.out⟩
set_option maxRecDepth 20000 in
set_option maxHeartbeats 4000000 in
theorem j_Tick (H : Nat) (cs : List Ins) (h : Her Pr) (code rec rv : Value) (qv : Nat → Value) (J : List Nat) (t C : Int) (w : World) (F : FJ w H cs h code rec rv qv J) (hk : MOk cs C h) (hn : J.length ≤ 90000000) :
    Calls Tryz.prog 17 #[.pointer (some ⟨H, 0, none⟩), .int .i64 t] w fun e w' => e = .returned (.int .i64 (tickH (machE cs) h t).1) ∧ FJOut w w' H cs (tickH (machE cs) h t).2 code rec rv qv (noteJ (tickH (machE cs) h t).1 J 75 t 0) := by
  have HM : Hid (Calls Tryz.prog 36 #[.pointer (some ⟨H, 0, none⟩), .int .i64 t] w fun e w' => e = .returned (.int .i64 (tickH (machE cs) h t).1) ∧ MHOut w w' H code rec cs (tickH (machE cs) h t).2 rv qv) := m_Tick H code rec cs h rv qv t C w F.m hk
  have HF : Hid (FJ w H cs h code rec rv qv J) := F
  clear F hk
  generalize tickH (machE cs) h t = T at *
  go_enter Tryz.func17, Tryz.ntmps17
  go_wp2_with fail
  refine HM.out.mono ?_
  rintro e w1 ⟨rfl, ho⟩
  have HN : Hid (Calls Tryz.prog 29 #[.pointer (some ⟨H, 0, none⟩), .int .i64 T.1, .agg #[.int .u8 75, .int .i64 t, .int .i64 0]] w1 fun e w' => e = .returned (.tuple #[]) ∧ FJOut w w' H cs T.2 code rec rv qv (noteJ T.1 J 75 t 0)) := notedJ HF.out hn ho _ 75 (by decide) _ _
  clear ho HM
  go_wp2_with fail
  refine HN.out.mono ?_
  rintro e w2 ⟨rfl, ho⟩
  have HO : Hid (FJOut w w2 H cs T.2 code rec rv qv (noteJ T.1 J 75 t 0)) := ho
  clear ho HN
  go_wp2_with fail
  go_ret
  exact ⟨rfl, HO.out⟩
set_option maxRecDepth 20000 in
set_option maxHeartbeats 4000000 in
theorem j_Ack (H : Nat) (cs : List Ins) (h : Her Pr) (code rec rv : Value) (qv : Nat → Value) (J : List Nat) (id num C : Int) (w : World) (F : FJ w H cs h code rec rv qv J) (hk : MOk cs C h) (hn : J.length ≤ 90000000) :
    Calls Tryz.prog 18 #[.pointer (some ⟨H, 0, none⟩), .int .i64 id, .int .i64 num] w fun e w' => e = .returned (.int .i64 (ackH (machE cs) h id num).1) ∧ FJOut w w' H cs (ackH (machE cs) h id num).2 code rec rv qv (noteJ (ackH (machE cs) h id num).1 J 65 id num) := by
  have HM : Hid (Calls Tryz.prog 37 #[.pointer (some ⟨H, 0, none⟩), .int .i64 id, .int .i64 num] w fun e w' => e = .returned (.int .i64 (ackH (machE cs) h id num).1) ∧ MHOut w w' H code rec cs (ackH (machE cs) h id num).2 rv qv) := m_Ack H code rec cs h rv qv id num C w F.m hk
  have HF : Hid (FJ w H cs h code rec rv qv J) := F
  clear F hk
  generalize ackH (machE cs) h id num = T at *
  go_enter Tryz.func18, Tryz.ntmps18
  go_wp2_with fail
  refine HM.out.mono ?_
  rintro e w1 ⟨rfl, ho⟩
  have HN : Hid (Calls Tryz.prog 29 #[.pointer (some ⟨H, 0, none⟩), .int .i64 T.1, .agg #[.int .u8 65, .int .i64 id, .int .i64 num]] w1 fun e w' => e = .returned (.tuple #[]) ∧ FJOut w w' H cs T.2 code rec rv qv (noteJ T.1 J 65 id num)) := notedJ HF.out hn ho _ 65 (by decide) _ _
  clear ho HM
  go_wp2_with fail
  refine HN.out.mono ?_
  rintro e w2 ⟨rfl, ho⟩
  have HO : Hid (FJOut w w2 H cs T.2 code rec rv qv (noteJ T.1 J 65 id num)) := ho
  clear ho HN
  go_wp2_with fail
  go_ret
  exact ⟨rfl, HO.out⟩
set_option maxRecDepth 20000 in
set_option maxHeartbeats 4000000 in
theorem j_Cancel (H : Nat) (cs : List Ins) (h : Her Pr) (code rec rv : Value) (qv : Nat → Value) (J : List Nat) (id C : Int) (w : World) (F : FJ w H cs h code rec rv qv J) (hk : MOk cs C h) (hn : J.length ≤ 90000000) :
    Calls Tryz.prog 19 #[.pointer (some ⟨H, 0, none⟩), .int .i64 id] w fun e w' => e = .returned (.int .i64 (cancelH (machE cs) h id).1) ∧ FJOut w w' H cs (cancelH (machE cs) h id).2 code rec rv qv (noteJ (cancelH (machE cs) h id).1 J 67 id 0) := by
  have HM : Hid (Calls Tryz.prog 38 #[.pointer (some ⟨H, 0, none⟩), .int .i64 id] w fun e w' => e = .returned (.int .i64 (cancelH (machE cs) h id).1) ∧ MHOut w w' H code rec cs (cancelH (machE cs) h id).2 rv qv) := m_Cancel H code rec cs h rv qv id C w F.m hk
  have HF : Hid (FJ w H cs h code rec rv qv J) := F
  clear F hk
  generalize cancelH (machE cs) h id = T at *
  go_enter Tryz.func19, Tryz.ntmps19
  go_wp2_with fail
  refine HM.out.mono ?_
  rintro e w1 ⟨rfl, ho⟩
  have HN : Hid (Calls Tryz.prog 29 #[.pointer (some ⟨H, 0, none⟩), .int .i64 T.1, .agg #[.int .u8 67, .int .i64 id, .int .i64 0]] w1 fun e w' => e = .returned (.tuple #[]) ∧ FJOut w w' H cs T.2 code rec rv qv (noteJ T.1 J 67 id 0)) := notedJ HF.out hn ho _ 67 (by decide) _ _
  clear ho HM
  go_wp2_with fail
  refine HN.out.mono ?_
  rintro e w2 ⟨rfl, ho⟩
  have HO : Hid (FJOut w w2 H cs T.2 code rec rv qv (noteJ T.1 J 67 id 0)) := ho
  clear ho HN
  go_wp2_with fail
  go_ret
  exact ⟨rfl, HO.out⟩
theorem FJ.keep {w w1 : World} {H : Nat} {cs : List Ins} {h : Her Pr} {code rec rv : Value} {qv : Nat → Value} {J : List Nat} (F : FJ w H cs h code rec rv qv J) (hk : ∀ k, ownF H code rec rv qv k → w1.heap[k]? = w.heap[k]?) : FJ w1 H cs h code rec rv qv J :=
  ⟨⟨F.m.at'.keep fun k hk' => hk k (.inl hk'), own_keep F.m.cd fun b hb => hk b (.inr (.inr hb))⟩, own_keep F.r fun b hb => hk b (.inr (.inl hb))⟩
theorem FJ.lt {w : World} {H : Nat} {cs : List Ins} {h : Her Pr} {code rec rv : Value} {qv : Nat → Value} {J : List Nat} (F : FJ w H cs h code rec rv qv J) {k : Nat} (hk : ownF H code rec rv qv k) : k < w.heap.size := F.fh.lt hk
set_option maxRecDepth 20000 in
set_option maxHeartbeats 4000000 in
theorem j_Drain (H : Nat) (cs : List Ins) (h : Her Pr) (code rec rv : Value) (qv : Nat → Value) (J : List Nat) (dev C : Int) (w : World) (F : FJ w H cs h code rec rv qv J) (hk : MOk cs C h) (hn : J.length ≤ 90000000) :
    Calls Tryz.prog 20 #[.pointer (some ⟨H, 0, none⟩), .int .i64 dev] w fun e w' => e = .returned (.tuple #[msgV (drainH h dev).1, .int .i64 (drainH h dev).2.1]) ∧ FJOut w w' H cs (drainH h dev).2.2 code rec rv qv (noteJ (drainH h dev).2.1 J 68 dev 0) := by
  have HM : Hid (∀ ob, Calls Tryz.prog 39 #[.pointer (some ⟨H, 0, none⟩), .int .i64 dev] (w.alloc ob) fun e w' => e = .returned (.tuple #[msgV (drainH h dev).1, .int .i64 (drainH h dev).2.1]) ∧ MHOut (w.alloc ob) w' H code rec cs (drainH h dev).2.2 rv qv) := fun ob => m_Drain H code rec cs h rv qv dev C (w.alloc ob) (F.below ((Below.refl _ _).alloc (Nat.le_refl _) _)).m hk
  have HF : Hid (∀ ob, FJ (w.alloc ob) H cs h code rec rv qv J) := fun ob => F.below ((Below.refl _ _).alloc (Nat.le_refl _) _)
  have HFW : Hid (FJ w H cs h code rec rv qv J) := F
  clear F hk
  generalize drainH h dev = T at *
  obtain ⟨m, f, h1⟩ := T
  have emv : msgV m = .agg #[.int .i64 m.dev, .int .i64 m.run, .int .i64 m.num, .int .i64 m.key] := rfl
  simp only [emv] at *
  clear emv
  go_enter Tryz.func20, Tryz.ntmps20
  go_wp2_with fail
  refine (HM.out _).mono ?_
  rintro e w1 ⟨rfl, ho⟩
  obtain ⟨W, hW⟩ : ∃ W, W = w.alloc (.cells #[.int .i64 0, .int .i64 0, .int .i64 0, .int .i64 0] 29) := ⟨_, rfl⟩
  rw [← hW] at ho
  have hWs : W.heap.size = w.heap.size + 1 := by rw [hW]; simp
  have hWr : W.heap[w.heap.size]? = some (.cells #[.int .i64 0, .int .i64 0, .int .i64 0, .int .i64 0] 29 (0, 0)) := by rw [hW]; exact heap_alloc_new _ _
  have HFo : Hid (FJOut W w1 H cs h1 code rec rv qv J) := FJOut.of_m (by rw [hW]; exact HF.out _) ho
  have HWW : Hid (W.heap.size = w.heap.size + 1 ∧ (∀ k, k < w.heap.size → W.heap[k]? = w.heap[k]?) ∧ Fr (ownF H code rec rv qv) w W) := by
    refine ⟨hWs, fun k hk => by rw [hW]; exact Below.heap_alloc _ _ _ hk, ?_⟩
    rw [hW]
    exact (Fr.refl _ _).alloc _
  have hr1 : w1.heap[w.heap.size]? = some (.cells #[.int .i64 0, .int .i64 0, .int .i64 0, .int .i64 0] 29 (0, 0)) := by
    rw [HFo.out.fr.block _ (by omega) (fun hk => by have := HFW.out.lt hk; omega)]
    exact hWr
  have HN : Hid (∀ ob, Calls Tryz.prog 29 #[.pointer (some ⟨H, 0, none⟩), .int .i64 f, .agg #[.int .u8 68, .int .i64 dev, .int .i64 0]] (w1.alloc ob) fun e w' => e = .returned (.tuple #[]) ∧ FJOut W w' H cs h1 code rec rv qv (noteJ f J 68 dev 0) ∧ w'.heap[w1.heap.size]? = some ob ∧ w'.heap[w.heap.size]? = some (.cells #[.int .i64 0, .int .i64 0, .int .i64 0, .int .i64 0] 29 (0, 0))) := fun ob => by
    obtain ⟨⟨rec', rv', qv', h3, h4⟩, h5⟩ := HFo.out
    have hb : Below w1.heap.size w1 (w1.alloc ob) := (Below.refl _ _).alloc (Nat.le_refl _) _
    refine (note_anyJ H cs h1 code rec' rv' qv' J f 68 (by decide) dev 0 (w1.alloc ob) (h3.below hb) hn).mono ?_
    rintro e w' ⟨rfl, hO⟩
    refine ⟨rfl, FJOut.trans h4 (h5.alloc _) hO, ?_, ?_⟩
    · rw [hO.fr.block _ (by simp) (fun hk => by have := h3.lt hk; omega)]
      exact heap_alloc_new _ _
    · have hlt : w.heap.size < w1.heap.size := heap_lt hr1
      rw [hO.fr.block _ (by simp; omega) (fun hk => by
        rcases h4 _ hk with h | h
        · have := HFW.out.lt h; omega
        · omega), Below.heap_alloc _ _ _ hlt]
      exact hr1
  clear ho HM hW hWs hWr HFo hr1
  go_wp2_with fail
  refine (HN.out _).mono ?_
  rintro e w2 ⟨rfl, ho, hm2, hr2⟩
  obtain ⟨r0, r1, r2, r3, y0, y1, y2, y3⟩ := cells4 hr2
  obtain ⟨s0, s1, s2, s3, _⟩ := cells4 hm2
  have hlt2 : w.heap.size < w2.heap.size := heap_lt hr2
  have HO : Hid (FJOut W w2 H cs h1 code rec rv qv (noteJ f J 68 dev 0)) := ho
  clear ho HN hm2 hr2
  go_wp2_with fail
  refine bodyPost_ret (v := .tuple #[.agg #[.int .i64 m.dev, .int .i64 m.run, .int .i64 m.num, .int .i64 m.key], .int .i64 f]) (by simp [results, Tryz.results20, go_sem, r0, r1, r2, r3]) rfl ⟨rfl, ?_⟩
  obtain ⟨⟨rec', rv', qv', h3, h4⟩, h5⟩ := HO.out
  have hne : ∀ k, ownF H code rec' rv' qv' k → k ≠ w.heap.size := fun k hk => by
    rcases h4 k hk with h | h
    · have := HFW.out.lt h; omega
    · have := HWW.out.1; omega
  refine ⟨⟨rec', rv', qv', h3.keep fun k hk => ?_, fun k hk => ?_⟩, ?_⟩
  · have := hne k hk
    rw [Below.heap_setCell _ _ _ _ this, Below.heap_setCell _ _ _ _ this, Below.heap_setCell _ _ _ _ this, Below.heap_setCell _ _ _ _ this]
  · rcases h4 k hk with h | h
    · exact .inl h
    · exact .inr (by have := HWW.out.1; omega)
  · have hw : w.heap.size ≤ (⟨w.heap.size, 0, none⟩ : Addr).block := Nat.le_refl _
    have f0 : Fr (ownF H code rec rv qv) w w2 := HWW.out.2.2.trans h5
    exact (((f0.setCell ⟨w.heap.size, 0, none⟩ (.inr hw) _).setCell ⟨w.heap.size, 1, none⟩ (.inr hw) _).setCell ⟨w.heap.size, 2, none⟩ (.inr hw) _).setCell ⟨w.heap.size, 3, none⟩ (.inr hw) _
end Go.Proofs.YtmmmnghiegajmabGreat
