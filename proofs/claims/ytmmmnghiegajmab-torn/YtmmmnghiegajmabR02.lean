import Derived.Test.YtmmmnghiegajmabM01
import Derived.Test.YtmmmnghiegajmabM02
import Derived.Test.YtmmmnghiegajmabM03
import Derived.Test.YtmmmnghiegajmabM04
import Derived.Test.YtmmmnghiegajmabM05
import Derived.Test.YtmmmnghiegajmabM06
import Derived.Test.YtmmmnghiegajmabM07
import Derived.Test.YtmmmnghiegajmabM08
import Derived.Test.YtmmmnghiegajmabM09
import Derived.Test.YtmmmnghiegajmabM10
import Derived.Test.YtmmmnghiegajmabM11
import Derived.Test.YtmmmnghiegajmabM12
import Derived.Test.YtmmmnghiegajmabM14
import Derived.Test.YtmmmnghiegajmabM15
import Derived.Test.YtmmmnghiegajmabM16
import Derived.Test.YtmmmnghiegajmabM20
import Derived.Test.YtmmmnghiegajmabM21
import Derived.Test.YtmmmnghiegajmabM22
import Derived.Test.YtmmmnghiegajmabM24
import Derived.Test.YtmmmnghiegajmabM26
import Derived.Test.YtmmmnghiegajmabM27
import Derived.Test.YtmmmnghiegajmabM28
import Derived.Test.YtmmmnghiegajmabM29
import Derived.Test.YtmmmnghiegajmabM30
import Derived.Test.YtmmmnghiegajmabM31
import Derived.Test.YtmmmnghiegajmabM32
import Derived.Test.YtmmmnghiegajmabM33
import Derived.Test.YtmmmnghiegajmabM34
import Derived.Test.YtmmmnghiegajmabM35
import Derived.Test.YtmmmnghiegajmabM36
import Derived.Test.YtmmmnghiegajmabM37
import Derived.Test.YtmmmnghiegajmabM38
import Derived.Test.YtmmmnghiegajmabM40
import Derived.Test.YtmmmnghiegajmabM41
import Derived.Test.YtmmmnghiegajmabM42
import Derived.Test.YtmmmnghiegajmabR01
namespace Go.Proofs.Ytmmmnghiegajmab
open Go.RowKit Go.Proofs.Herald
/-- The journal behind a call: f is its answer. -/
def noteJ (f : Int) (J : List Nat) (c : Nat) (a b : Int) : List Nat := if f = 0 then J ++ recB c a b else J
theorem natsI_len (J : List Nat) : (natsI J).length = J.length := List.length_map ..
/-- The whole herald: the machine, and its records. -/
structure FJ (w : World) (H : Nat) (cs : List Ins) (h : Her Pr) (code rec rv : Value) (qv : Nat → Value) (J : List Nat) : Prop where
  m : MH w H code rec cs h rv qv
  r : w.ownsRow 0 5 1 rec J.length (bytesV (natsI J))
theorem FJ.fh {w : World} {H : Nat} {cs : List Ins} {h : Her Pr} {code rec rv : Value} {qv : Nat → Value} {J : List Nat} (F : FJ w H cs h code rec rv qv J) : FH w H cs h code rec rv qv J.length := ⟨F.m, natsI J, natsI_len J, F.r⟩
/-- Behind a call of the herald. -/
structure FJOut (w w' : World) (H : Nat) (cs : List Ins) (h : Her Pr) (code rec rv : Value) (qv : Nat → Value) (J : List Nat) : Prop where
  ex : ∃ rec' rv' qv', FJ w' H cs h code rec' rv' qv' J ∧ ∀ k, ownF H code rec' rv' qv' k → ownF H code rec rv qv k ∨ w.heap.size ≤ k
  fr : Fr (ownF H code rec rv qv) w w'
theorem FJ.rec_keep {w w1 : World} {H : Nat} {cs : List Ins} {h : Her Pr} {code rec rv : Value} {qv : Nat → Value} {J : List Nat} (F : FJ w H cs h code rec rv qv J) (hf : Fr (ownH H rv qv) w w1) : w1.ownsRow 0 5 1 rec J.length (bytesV (natsI J)) := by
  refine own_keep F.r fun b hb => ?_
  obtain ⟨c, hc⟩ := own_block F.r hb
  refine hf.block b (heap_lt hc) fun ho => ?_
  obtain ⟨c2, t, hc2, ht⟩ := F.m.at'.sort ho
  rcases ht with rfl | rfl | rfl
  · exact ne_of_type hc hc2 (by decide) rfl
  · exact ne_of_type hc hc2 (by decide) rfl
  · exact ne_of_type hc hc2 (by decide) rfl
theorem FJOut.of_m {w w1 : World} {H : Nat} {cs : List Ins} {h h1 : Her Pr} {code rec rv : Value} {qv : Nat → Value} {J : List Nat} (F : FJ w H cs h code rec rv qv J) (ho : MHOut w w1 H code rec cs h1 rv qv) : FJOut w w1 H cs h1 code rec rv qv J := by
  obtain ⟨⟨rv', qv', h2, h3⟩, h4⟩ := ho
  refine ⟨⟨rec, rv', qv', ⟨h2, F.rec_keep h4⟩, fun k hk => ?_⟩, h4.mono fun k _ hk => .inl hk⟩
  rcases hk with hk | hk
  · rcases h3 k hk with h | h
    · exact .inl (.inl h)
    · exact .inr h
  · exact .inl (.inr hk)
theorem FJOut.trans {w w1 w2 : World} {H : Nat} {cs : List Ins} {h1 : Her Pr} {code rec rv rec1 rv1 : Value} {qv qv1 : Nat → Value} {J : List Nat} (ho : ∀ k, ownF H code rec1 rv1 qv1 k → ownF H code rec rv qv k ∨ w.heap.size ≤ k) (hf : Fr (ownF H code rec rv qv) w w1) (h2 : FJOut w1 w2 H cs h1 code rec1 rv1 qv1 J) : FJOut w w2 H cs h1 code rec rv qv J := by
  obtain ⟨⟨rec', rv', qv', a2, a3⟩, a4⟩ := h2
  refine ⟨⟨rec', rv', qv', a2, fun k hk => ?_⟩, ?_⟩
  · rcases a3 k hk with h | h
    · exact ho k h
    · exact .inr (Nat.le_trans hf.size h)
  · have f1 : Fr (fun k => ownF H code rec rv qv k ∨ w.heap.size ≤ k) w w1 := hf.mono fun k _ hk => .inl hk
    have f2 : Fr (fun k => ownF H code rec rv qv k ∨ w.heap.size ≤ k) w1 w2 := a4.mono fun k _ hk => ho k hk
    exact (f1.trans f2).mono fun k hk hs => by
      rcases hs with h | h
      · exact h
      · omega
theorem FJ.below {w w1 : World} {H : Nat} {cs : List Ins} {h : Her Pr} {code rec rv : Value} {qv : Nat → Value} {J : List Nat} (F : FJ w H cs h code rec rv qv J) (hb : Below w.heap.size w w1) : FJ w1 H cs h code rec rv qv J := by
  have hf : Fr (ownH H rv qv) w w1 := (Fr.of_below hb).mono fun k hk hs => by omega
  exact ⟨⟨F.m.at'.below hb, F.m.at'.code hf F.m.cd⟩, F.rec_keep hf⟩
theorem FJOut.below {w w1 : World} {H : Nat} {cs : List Ins} {h : Her Pr} {code rec rv : Value} {qv : Nat → Value} {J : List Nat} (F : FJ w H cs h code rec rv qv J) (hb : Below w.heap.size w w1) : FJOut w w1 H cs h code rec rv qv J :=
  ⟨⟨rec, rv, qv, F.below hb, fun _ hk => .inl hk⟩, (Fr.of_below hb).mono fun k hk hs => by omega⟩
set_option maxRecDepth 20000 in
set_option maxHeartbeats 4000000 in
theorem note_yesJ (H : Nat) (cs : List Ins) (h : Her Pr) (code rec rv : Value) (qv : Nat → Value) (J : List Nat) (c : Nat) (hc : c < 256) (a b : Int) (w : World) (F0 : FJ w H cs h code rec rv qv J) (hn : J.length ≤ 90000000) :
    Calls Try.prog 29 #[.pointer (some ⟨H, 0, none⟩), .int .i64 0, .agg #[.int .u8 (c : Nat), .int .i64 a, .int .i64 b]] w fun e w' => e = .returned (.tuple #[]) ∧ FJOut w w' H cs h code rec rv qv (J ++ recB c a b) := by
  have F := F0.fh
  have hxo := F0.r
  obtain ⟨xs, hxs⟩ : ∃ xs, xs = natsI J := ⟨_, rfl⟩
  obtain ⟨n, hnJ⟩ : ∃ n, n = J.length := ⟨_, rfl⟩
  have hxl : xs.length = n := by rw [hxs, hnJ, natsI_len]
  rw [← hxs, ← hnJ] at hxo
  rw [← hnJ] at F hn
  have HXS : Hid (xs = natsI J ∧ n = J.length) := ⟨hxs, hnJ⟩
  obtain ⟨ra, rc, hrv⟩ := ownsRow_slice hxo
  have HF : Hid (FH w H cs h code rec rv qv n) := F
  have HRV : Hid (rec = .slice ra n rc) := hrv
  have HXL : Hid (xs.length = n) := hxl
  have HW : Hid (∀ W : World, Calls Try.prog 48 #[.agg #[.int .u8 (c : Nat), .int .i64 a, .int .i64 b]] W fun e w' => ∃ v, e = .returned v ∧ w'.ownsRow W.heap.size 5 1 v 19 (bytesV (natsI (recB c a b))) ∧ Below W.heap.size W w') := fun W => x_write c hc a b W
  have HXO : Hid (w.ownsRow 0 5 1 (.slice ra n rc) n (bytesV xs)) := by rw [← hrv]; exact hxo
  clear F F0 hxo hrv hxl hxs hnJ hc
  go_enter Try.func29, Try.ntmps29
  go_wp2_with fail
  refine (HW.out _).mono ?_
  rintro e w1 ⟨v, rfl, hyo, hb1⟩
  obtain ⟨ys, hys⟩ : ∃ ys, ys = natsI (recB c a b) := ⟨_, rfl⟩
  rw [← hys] at hyo
  have hyl : ys.length = 19 := by rw [hys, natsI_len, recB_len]
  have HYS : Hid (ys = natsI (recB c a b)) := hys
  clear hys
  obtain ⟨va, vc, hv⟩ := ownsRow_slice hyo
  subst hv
  have HB1 : Hid (Below w.heap.size w w1) := ((Below.refl _ _).alloc (Nat.le_refl _) _).trans (hb1.mono (by simp))
  have HS : Hid (SrcAt w1 va 19 (bytesV ys) ∧ ys.length = 19) := ⟨src_own (own0 hyo), hyl⟩
  have HF1 : Hid (FH w1 H cs h code rec rv qv n) := HF.out.below HB1.out
  have HX1 : Hid (w1.ownsRow 0 5 1 (.slice ra n rc) n (bytesV xs)) := own_keep HXO.out fun k hk => by obtain ⟨c, hc⟩ := own_block HXO.out hk; exact HB1.out.block k (heap_lt hc)
  have c7 : w1.cell? ⟨H, 7, none⟩ = some (.slice ra n rc) := by rw [← HRV.out]; exact (cell_of_heap HF1.out.m.at'.blk).trans rfl
  clear hyo hb1 hyl
  go_wp2_with (at_builtin; refine wpList_append_src _ rfl (.tmp 15) (.tmp 16) 78 rfl 5 _ 1 1 Try.underlying78 Try.infoByte rfl (by decide) (by decide) (.slice ra n rc) n (bytesV xs) va 19 vc (bytesV ys) (by rfl) (by exact HX1.out) (by rfl) HS.out.1 (by rw [bytesV_len, HS.out.2]) (bytesV_one _) (by omega) ?_)
  intro v2 w2 hown2 ha2
  have hty : ∀ {k : Nat} {c : Array Value} {t : TypeId}, w1.heap[k]? = some (.cells c t (0, 0)) → t ≠ 5 → w2.heap[k]? = w1.heap[k]? := fun {k c t} hk ht => by
    rcases ha2 with ⟨g, cap, e1, _, hg⟩ | ⟨_, hg⟩
    · refine hg.block k (heap_lt hk) fun e => ?_
      obtain ⟨c2, hc2⟩ := own_block HX1.out (k := k) (by rw [e1]; exact e.symm)
      exact ne_of_type hk hc2 ht rfl
    · exact hg.block k (heap_lt hk) (by simp)
  have hb2 := (hty HF1.out.m.at'.blk (by decide)).trans HF1.out.m.at'.blk
  have d7 : w2.cell? ⟨H, 7, none⟩ = some (.slice ra n rc) := by rw [← HRV.out]; exact (cell_of_heap hb2).trans rfl
  have y7 : w2.frozen? ⟨H, 7, none⟩ = false := free_of_heap hb2
  obtain ⟨a2, cap2, hv2⟩ := ownsRow_slice hown2
  subst hv2
  have HFin : Hid (FJOut w (w2.setCell ⟨H, 7, none⟩ (.slice a2 (n + 19) cap2)) H cs h code rec rv qv (J ++ recB c a b)) := by
    have hlen : (J ++ recB c a b).length = n + 19 := by rw [List.length_append, recB_len, HXS.out.2]
    have hcont : natsI (J ++ recB c a b) = xs ++ ys := by rw [natsI_append, HXS.out.1, HYS.out]
    have hk3 : ∀ {k : Nat} {c : Array Value} {t : TypeId}, w1.heap[k]? = some (.cells c t (0, 0)) → t ≠ 5 → t ≠ 80 → (w2.setCell ⟨H, 7, none⟩ (.slice a2 (n + 19) cap2)).heap[k]? = w1.heap[k]? := fun {k c t} hk h1 h2 => by
      rw [Below.heap_setCell _ _ _ _ (ne_of_type hk HF1.out.m.at'.blk h2)]
      exact hty hk h1
    have hA := HF1.out.m.at'
    have hnew : ∀ b, (Value.slice a2 (n + 19) cap2).ownBlock = some b → rec.ownBlock = some b ∨ w.heap.size ≤ b := fun b hb => by
      rcases ha2 with ⟨g, cap, e1, e2, hg⟩ | ⟨hnw, hg⟩
      · rw [e2] at hb
        left
        rw [HRV.out, e1]
        exact hb
      · exact .inr (Nat.le_trans HB1.out.size (hnw b hb))
    refine ⟨⟨.slice a2 (n + 19) cap2, rv, qv, ⟨⟨⟨?_, fun d hd => own_keep (hA.oB d hd) fun b hb => ?_, hA.ql, hA.dis, own_keep hA.rB fun b hb => ?_, hA.rl⟩, own_keep HF1.out.m.cd fun b hb => ?_⟩, ?_⟩, fun k hk => ?_⟩, ?_⟩
    · rw [heap_setCell_self _ hb2]; rfl
    · obtain ⟨c, hc⟩ := own_block (hA.oB d hd) hb
      exact hk3 hc (by decide) (by decide)
    · obtain ⟨c, hc⟩ := own_block hA.rB hb
      exact hk3 hc (by decide) (by decide)
    · obtain ⟨c, hc⟩ := own_block HF1.out.m.cd hb
      exact hk3 hc (by decide) (by decide)
    · rw [hlen, hcont, bytesV_append]
      refine own_keep hown2 fun b hb => ?_
      obtain ⟨c, hc⟩ := own_block hown2 hb
      exact Below.heap_setCell _ _ _ _ (ne_of_type hc hb2 (by decide))
    · rcases hk with hk | hk | hk
      · exact .inl (.inl hk)
      · rcases hnew k hk with h | h
        · exact .inl (.inr (.inl h))
        · exact .inr h
      · exact .inl (.inr (.inr hk))
    · have f1 : Fr (ownF H code rec rv qv) w w1 := (Fr.of_below HB1.out).mono fun k hk hs => by omega
      have f2 : Fr (ownF H code rec rv qv) w1 w2 := by
        rcases ha2 with ⟨g, cap, e1, _, hg⟩ | ⟨_, hg⟩
        · exact (Fr.refl _ _).grown hg fun k hk => .inl (.inr (.inl (by rw [HRV.out, e1]; exact hk)))
        · exact (Fr.refl _ _).grown hg fun k hk => by cases hk
      exact (f1.trans f2).setCell ⟨H, 7, none⟩ (.inl (.inl (.inl rfl))) _
  clear hown2 ha2 hty hb2
  go_wp2_with fail
  go_end0
  exact ⟨rfl, HFin.out⟩
theorem note_anyJ (H : Nat) (cs : List Ins) (h : Her Pr) (code rec rv : Value) (qv : Nat → Value) (J : List Nat) (f : Int) (c : Nat) (hc : c < 256) (a b : Int) (w : World) (F : FJ w H cs h code rec rv qv J) (hn : J.length ≤ 90000000) :
    Calls Try.prog 29 #[.pointer (some ⟨H, 0, none⟩), .int .i64 f, .agg #[.int .u8 (c : Nat), .int .i64 a, .int .i64 b]] w fun e w' => e = .returned (.tuple #[]) ∧ FJOut w w' H cs h code rec rv qv (noteJ f J c a b) := by
  by_cases hf : f = 0
  · subst hf
    have e : noteJ 0 J c a b = J ++ recB c a b := if_pos rfl
    rw [e]
    exact note_yesJ H cs h code rec rv qv J c hc a b w F hn
  · have e : noteJ f J c a b = J := if_neg hf
    rw [e]
    refine (note_no H f c a b w hf).mono ?_
    rintro e w' ⟨rfl, hb⟩
    exact ⟨rfl, FJOut.below F hb⟩
/-- A call of the machine, and its record. -/
theorem notedJ {w w1 : World} {H : Nat} {cs : List Ins} {h h1 : Her Pr} {code rec rv : Value} {qv : Nat → Value} {J : List Nat} (F : FJ w H cs h code rec rv qv J) (hn : J.length ≤ 90000000) (ho : MHOut w w1 H code rec cs h1 rv qv) (f : Int) (c : Nat) (hc : c < 256) (a b : Int) :
    Calls Try.prog 29 #[.pointer (some ⟨H, 0, none⟩), .int .i64 f, .agg #[.int .u8 (c : Nat), .int .i64 a, .int .i64 b]] w1 fun e w' => e = .returned (.tuple #[]) ∧ FJOut w w' H cs h1 code rec rv qv (noteJ f J c a b) := by
  obtain ⟨⟨rec', rv', qv', h3, h4⟩, h5⟩ := FJOut.of_m F ho
  refine (note_anyJ H cs h1 code rec' rv' qv' J f c hc a b w1 h3 hn).mono ?_
  rintro e w' ⟨rfl, hO⟩
  exact ⟨rfl, FJOut.trans h4 h5 hO⟩
set_option maxRecDepth 20000 in
set_option maxHeartbeats 4000000 in
theorem j_Trigger (H : Nat) (cs : List Ins) (h : Her Pr) (code rec rv : Value) (qv : Nat → Value) (J : List Nat) (dev C : Int) (w : World) (F : FJ w H cs h code rec rv qv J) (hk : MOk cs C h) (hn : J.length ≤ 90000000) :
    Calls Try.prog 12 #[.pointer (some ⟨H, 0, none⟩), .int .i64 dev] w fun e w' => e = .returned (.tuple #[.int .i64 (trigH (machE cs) h dev).1, .int .i64 (trigH (machE cs) h dev).2.1]) ∧ FJOut w w' H cs (trigH (machE cs) h dev).2.2 code rec rv qv (noteJ (trigH (machE cs) h dev).2.1 J 84 dev 0) := by
  have HM : Hid (Calls Try.prog 28 #[.pointer (some ⟨H, 0, none⟩), .int .i64 dev] w fun e w' => e = .returned (.tuple #[.int .i64 (trigH (machE cs) h dev).1, .int .i64 (trigH (machE cs) h dev).2.1]) ∧ MHOut w w' H code rec cs (trigH (machE cs) h dev).2.2 rv qv) := m_Trigger H code rec cs h rv qv dev C w F.m hk
  have HF : Hid (FJ w H cs h code rec rv qv J) := F
  clear F hk
  generalize trigH (machE cs) h dev = T at *
  go_enter Try.func12, Try.ntmps12
  go_wp2_with fail
  refine HM.out.mono ?_
  rintro e w1 ⟨rfl, ho⟩
  have HN : Hid (Calls Try.prog 29 #[.pointer (some ⟨H, 0, none⟩), .int .i64 T.2.1, .agg #[.int .u8 84, .int .i64 dev, .int .i64 0]] w1 fun e w' => e = .returned (.tuple #[]) ∧ FJOut w w' H cs T.2.2 code rec rv qv (noteJ T.2.1 J 84 dev 0)) := notedJ HF.out hn ho _ 84 (by decide) _ _
  clear ho HM
  go_wp2_with fail
  refine HN.out.mono ?_
  rintro e w2 ⟨rfl, ho⟩
  have HO : Hid (FJOut w w2 H cs T.2.2 code rec rv qv (noteJ T.2.1 J 84 dev 0)) := ho
  clear ho HN
  go_wp2_with fail
  go_ret2
  exact ⟨rfl, HO.out⟩
set_option maxRecDepth 20000 in
set_option maxHeartbeats 4000000 in
theorem j_Tick (H : Nat) (cs : List Ins) (h : Her Pr) (code rec rv : Value) (qv : Nat → Value) (J : List Nat) (t C : Int) (w : World) (F : FJ w H cs h code rec rv qv J) (hk : MOk cs C h) (hn : J.length ≤ 90000000) :
    Calls Try.prog 23 #[.pointer (some ⟨H, 0, none⟩), .int .i64 t] w fun e w' => e = .returned (.int .i64 (tickH (machE cs) h t).1) ∧ FJOut w w' H cs (tickH (machE cs) h t).2 code rec rv qv (noteJ (tickH (machE cs) h t).1 J 75 t 0) := by
  have HM : Hid (Calls Try.prog 42 #[.pointer (some ⟨H, 0, none⟩), .int .i64 t] w fun e w' => e = .returned (.int .i64 (tickH (machE cs) h t).1) ∧ MHOut w w' H code rec cs (tickH (machE cs) h t).2 rv qv) := m_Tick H code rec cs h rv qv t C w F.m hk
  have HF : Hid (FJ w H cs h code rec rv qv J) := F
  clear F hk
  generalize tickH (machE cs) h t = T at *
  go_enter Try.func23, Try.ntmps23
  go_wp2_with fail
  refine HM.out.mono ?_
  rintro e w1 ⟨rfl, ho⟩
  have HN : Hid (Calls Try.prog 29 #[.pointer (some ⟨H, 0, none⟩), .int .i64 T.1, .agg #[.int .u8 75, .int .i64 t, .int .i64 0]] w1 fun e w' => e = .returned (.tuple #[]) ∧ FJOut w w' H cs T.2 code rec rv qv (noteJ T.1 J 75 t 0)) := notedJ HF.out hn ho _ 75 (by decide) _ _
  clear ho HM
  go_wp2_with fail
  refine HN.out.mono ?_
  rintro e w2 ⟨rfl, ho⟩
  have HO : Hid (FJOut w w2 H cs T.2 code rec rv qv (noteJ T.1 J 75 t 0)) := ho
  clear ho HN
  go_wp2_with fail
  go_ret
  exact ⟨rfl, HO.out⟩
set_option maxRecDepth 20000 in
set_option maxHeartbeats 4000000 in
theorem j_Ack (H : Nat) (cs : List Ins) (h : Her Pr) (code rec rv : Value) (qv : Nat → Value) (J : List Nat) (id num C : Int) (w : World) (F : FJ w H cs h code rec rv qv J) (hk : MOk cs C h) (hn : J.length ≤ 90000000) :
    Calls Try.prog 24 #[.pointer (some ⟨H, 0, none⟩), .int .i64 id, .int .i64 num] w fun e w' => e = .returned (.int .i64 (ackH (machE cs) h id num).1) ∧ FJOut w w' H cs (ackH (machE cs) h id num).2 code rec rv qv (noteJ (ackH (machE cs) h id num).1 J 65 id num) := by
  have HM : Hid (Calls Try.prog 43 #[.pointer (some ⟨H, 0, none⟩), .int .i64 id, .int .i64 num] w fun e w' => e = .returned (.int .i64 (ackH (machE cs) h id num).1) ∧ MHOut w w' H code rec cs (ackH (machE cs) h id num).2 rv qv) := m_Ack H code rec cs h rv qv id num C w F.m hk
  have HF : Hid (FJ w H cs h code rec rv qv J) := F
  clear F hk
  generalize ackH (machE cs) h id num = T at *
  go_enter Try.func24, Try.ntmps24
  go_wp2_with fail
  refine HM.out.mono ?_
  rintro e w1 ⟨rfl, ho⟩
  have HN : Hid (Calls Try.prog 29 #[.pointer (some ⟨H, 0, none⟩), .int .i64 T.1, .agg #[.int .u8 65, .int .i64 id, .int .i64 num]] w1 fun e w' => e = .returned (.tuple #[]) ∧ FJOut w w' H cs T.2 code rec rv qv (noteJ T.1 J 65 id num)) := notedJ HF.out hn ho _ 65 (by decide) _ _
  clear ho HM
  go_wp2_with fail
  refine HN.out.mono ?_
  rintro e w2 ⟨rfl, ho⟩
  have HO : Hid (FJOut w w2 H cs T.2 code rec rv qv (noteJ T.1 J 65 id num)) := ho
  clear ho HN
  go_wp2_with fail
  go_ret
  exact ⟨rfl, HO.out⟩
set_option maxRecDepth 20000 in
set_option maxHeartbeats 4000000 in
theorem j_Cancel (H : Nat) (cs : List Ins) (h : Her Pr) (code rec rv : Value) (qv : Nat → Value) (J : List Nat) (id C : Int) (w : World) (F : FJ w H cs h code rec rv qv J) (hk : MOk cs C h) (hn : J.length ≤ 90000000) :
    Calls Try.prog 25 #[.pointer (some ⟨H, 0, none⟩), .int .i64 id] w fun e w' => e = .returned (.int .i64 (cancelH (machE cs) h id).1) ∧ FJOut w w' H cs (cancelH (machE cs) h id).2 code rec rv qv (noteJ (cancelH (machE cs) h id).1 J 67 id 0) := by
  have HM : Hid (Calls Try.prog 44 #[.pointer (some ⟨H, 0, none⟩), .int .i64 id] w fun e w' => e = .returned (.int .i64 (cancelH (machE cs) h id).1) ∧ MHOut w w' H code rec cs (cancelH (machE cs) h id).2 rv qv) := m_Cancel H code rec cs h rv qv id C w F.m hk
  have HF : Hid (FJ w H cs h code rec rv qv J) := F
  clear F hk
  generalize cancelH (machE cs) h id = T at *
  go_enter Try.func25, Try.ntmps25
  go_wp2_with fail
  refine HM.out.mono ?_
  rintro e w1 ⟨rfl, ho⟩
  have HN : Hid (Calls Try.prog 29 #[.pointer (some ⟨H, 0, none⟩), .int .i64 T.1, .agg #[.int .u8 67, .int .i64 id, .int .i64 0]] w1 fun e w' => e = .returned (.tuple #[]) ∧ FJOut w w' H cs T.2 code rec rv qv (noteJ T.1 J 67 id 0)) := notedJ HF.out hn ho _ 67 (by decide) _ _
  clear ho HM
  go_wp2_with fail
  refine HN.out.mono ?_
  rintro e w2 ⟨rfl, ho⟩
  have HO : Hid (FJOut w w2 H cs T.2 code rec rv qv (noteJ T.1 J 67 id 0)) := ho
  clear ho HN
  go_wp2_with fail
  go_ret
  exact ⟨rfl, HO.out⟩
theorem FJ.keep {w w1 : World} {H : Nat} {cs : List Ins} {h : Her Pr} {code rec rv : Value} {qv : Nat → Value} {J : List Nat} (F : FJ w H cs h code rec rv qv J) (hk : ∀ k, ownF H code rec rv qv k → w1.heap[k]? = w.heap[k]?) : FJ w1 H cs h code rec rv qv J :=
  ⟨⟨F.m.at'.keep fun k hk' => hk k (.inl hk'), own_keep F.m.cd fun b hb => hk b (.inr (.inr hb))⟩, own_keep F.r fun b hb => hk b (.inr (.inl hb))⟩
theorem FJ.lt {w : World} {H : Nat} {cs : List Ins} {h : Her Pr} {code rec rv : Value} {qv : Nat → Value} {J : List Nat} (F : FJ w H cs h code rec rv qv J) {k : Nat} (hk : ownF H code rec rv qv k) : k < w.heap.size := F.fh.lt hk
set_option maxRecDepth 20000 in
set_option maxHeartbeats 4000000 in
theorem j_Drain (H : Nat) (cs : List Ins) (h : Her Pr) (code rec rv : Value) (qv : Nat → Value) (J : List Nat) (dev C : Int) (w : World) (F : FJ w H cs h code rec rv qv J) (hk : MOk cs C h) (hn : J.length ≤ 90000000) :
    Calls Try.prog 26 #[.pointer (some ⟨H, 0, none⟩), .int .i64 dev] w fun e w' => e = .returned (.tuple #[msgV (drainH h dev).1, .int .i64 (drainH h dev).2.1]) ∧ FJOut w w' H cs (drainH h dev).2.2 code rec rv qv (noteJ (drainH h dev).2.1 J 68 dev 0) := by
  have HM : Hid (∀ ob, Calls Try.prog 45 #[.pointer (some ⟨H, 0, none⟩), .int .i64 dev] (w.alloc ob) fun e w' => e = .returned (.tuple #[msgV (drainH h dev).1, .int .i64 (drainH h dev).2.1]) ∧ MHOut (w.alloc ob) w' H code rec cs (drainH h dev).2.2 rv qv) := fun ob => m_Drain H code rec cs h rv qv dev C (w.alloc ob) (F.below ((Below.refl _ _).alloc (Nat.le_refl _) _)).m hk
  have HF : Hid (∀ ob, FJ (w.alloc ob) H cs h code rec rv qv J) := fun ob => F.below ((Below.refl _ _).alloc (Nat.le_refl _) _)
  have HFW : Hid (FJ w H cs h code rec rv qv J) := F
  clear F hk
  generalize drainH h dev = T at *
  obtain ⟨m, f, h1⟩ := T
  have emv : msgV m = .agg #[.int .i64 m.dev, .int .i64 m.run, .int .i64 m.num, .int .i64 m.key] := rfl
  simp only [emv] at *
  clear emv
  go_enter Try.func26, Try.ntmps26
  go_wp2_with fail
  refine (HM.out _).mono ?_
  rintro e w1 ⟨rfl, ho⟩
  obtain ⟨W, hW⟩ : ∃ W, W = w.alloc (.cells #[.int .i64 0, .int .i64 0, .int .i64 0, .int .i64 0] 30) := ⟨_, rfl⟩
  rw [← hW] at ho
  have hWs : W.heap.size = w.heap.size + 1 := by rw [hW]; simp
  have hWr : W.heap[w.heap.size]? = some (.cells #[.int .i64 0, .int .i64 0, .int .i64 0, .int .i64 0] 30 (0, 0)) := by rw [hW]; exact heap_alloc_new _ _
  have HFo : Hid (FJOut W w1 H cs h1 code rec rv qv J) := FJOut.of_m (by rw [hW]; exact HF.out _) ho
  have HWW : Hid (W.heap.size = w.heap.size + 1 ∧ (∀ k, k < w.heap.size → W.heap[k]? = w.heap[k]?) ∧ Fr (ownF H code rec rv qv) w W) := by
    refine ⟨hWs, fun k hk => by rw [hW]; exact Below.heap_alloc _ _ _ hk, ?_⟩
    rw [hW]
    exact (Fr.refl _ _).alloc _
  have hr1 : w1.heap[w.heap.size]? = some (.cells #[.int .i64 0, .int .i64 0, .int .i64 0, .int .i64 0] 30 (0, 0)) := by
    rw [HFo.out.fr.block _ (by omega) (fun hk => by have := HFW.out.lt hk; omega)]
    exact hWr
  have HN : Hid (∀ ob, Calls Try.prog 29 #[.pointer (some ⟨H, 0, none⟩), .int .i64 f, .agg #[.int .u8 68, .int .i64 dev, .int .i64 0]] (w1.alloc ob) fun e w' => e = .returned (.tuple #[]) ∧ FJOut W w' H cs h1 code rec rv qv (noteJ f J 68 dev 0) ∧ w'.heap[w1.heap.size]? = some ob ∧ w'.heap[w.heap.size]? = some (.cells #[.int .i64 0, .int .i64 0, .int .i64 0, .int .i64 0] 30 (0, 0))) := fun ob => by
    obtain ⟨⟨rec', rv', qv', h3, h4⟩, h5⟩ := HFo.out
    have hb : Below w1.heap.size w1 (w1.alloc ob) := (Below.refl _ _).alloc (Nat.le_refl _) _
    refine (note_anyJ H cs h1 code rec' rv' qv' J f 68 (by decide) dev 0 (w1.alloc ob) (h3.below hb) hn).mono ?_
    rintro e w' ⟨rfl, hO⟩
    refine ⟨rfl, FJOut.trans h4 (h5.alloc _) hO, ?_, ?_⟩
    · rw [hO.fr.block _ (by simp) (fun hk => by have := h3.lt hk; omega)]
      exact heap_alloc_new _ _
    · have hlt : w.heap.size < w1.heap.size := heap_lt hr1
      rw [hO.fr.block _ (by simp; omega) (fun hk => by
        rcases h4 _ hk with h | h
        · have := HFW.out.lt h; omega
        · omega), Below.heap_alloc _ _ _ hlt]
      exact hr1
  clear ho HM hW hWs hWr HFo hr1
  go_wp2_with fail
  refine (HN.out _).mono ?_
  rintro e w2 ⟨rfl, ho, hm2, hr2⟩
  obtain ⟨r0, r1, r2, r3, y0, y1, y2, y3⟩ := cells4 hr2
  obtain ⟨s0, s1, s2, s3, _⟩ := cells4 hm2
  have hlt2 : w.heap.size < w2.heap.size := heap_lt hr2
  have HO : Hid (FJOut W w2 H cs h1 code rec rv qv (noteJ f J 68 dev 0)) := ho
  clear ho HN hm2 hr2
  go_wp2_with fail
  refine bodyPost_ret (v := .tuple #[.agg #[.int .i64 m.dev, .int .i64 m.run, .int .i64 m.num, .int .i64 m.key], .int .i64 f]) (by simp [results, Try.results26, go_sem, r0, r1, r2, r3]) rfl ⟨rfl, ?_⟩
  obtain ⟨⟨rec', rv', qv', h3, h4⟩, h5⟩ := HO.out
  have hne : ∀ k, ownF H code rec' rv' qv' k → k ≠ w.heap.size := fun k hk => by
    rcases h4 k hk with h | h
    · have := HFW.out.lt h; omega
    · have := HWW.out.1; omega
  refine ⟨⟨rec', rv', qv', h3.keep fun k hk => ?_, fun k hk => ?_⟩, ?_⟩
  · have := hne k hk
    rw [Below.heap_setCell _ _ _ _ this, Below.heap_setCell _ _ _ _ this, Below.heap_setCell _ _ _ _ this, Below.heap_setCell _ _ _ _ this]
  · rcases h4 k hk with h | h
    · exact .inl h
    · exact .inr (by have := HWW.out.1; omega)
  · have hw : w.heap.size ≤ (⟨w.heap.size, 0, none⟩ : Addr).block := Nat.le_refl _
    have f0 : Fr (ownF H code rec rv qv) w w2 := HWW.out.2.2.trans h5
    exact (((f0.setCell ⟨w.heap.size, 0, none⟩ (.inr hw) _).setCell ⟨w.heap.size, 1, none⟩ (.inr hw) _).setCell ⟨w.heap.size, 2, none⟩ (.inr hw) _).setCell ⟨w.heap.size, 3, none⟩ (.inr hw) _
open Go.RowKit Go.Proofs.Herald
/-- A herald of sound code, behind i calls; J: its journal. -/
structure GJ (cs : List Ins) (i : Nat) (h : Her Pr) (J : List Nat) (w : World) (H : Nat) (s : HS) : Prop where
  ga : GA cs i h w H s
  r : w.ownsRow 0 5 1 s.jr J.length (bytesV (natsI J))
  len : J.length ≤ 19 * i
theorem GJ.fj {cs : List Ins} {i : Nat} {h : Her Pr} {J : List Nat} {w : World} {H : Nat} {s : HS} (g : GJ cs i h J w H s) : FJ w H cs h s.code s.jr s.rv s.qv J := ⟨g.ga.fh.m, g.r⟩
/-- Behind one call more. -/
def GJNext (cs : List Ins) (i : Nat) (h' : Her Pr) (J' : List Nat) (w : World) (H : Nat) (s : HS) (w' : World) : Prop :=
  ∃ s', GJ cs (i + 1) h' J' w' H s' ∧ (∀ k, s'.own H k → s.own H k ∨ w.heap.size ≤ k) ∧ Fr (s.own H) w w'
theorem GJ.keep {cs : List Ins} {i : Nat} {h : Her Pr} {J : List Nat} {w w' : World} {H : Nat} {s : HS} (g : GJ cs i h J w H s) (hk : ∀ k, s.own H k → w'.heap[k]? = w.heap[k]?) : GJ cs i h J w' H s := ⟨g.ga.keep hk, own_keep g.r fun b hb => hk b (.inr (.inl hb)), g.len⟩
theorem GJ.lt {cs : List Ins} {i : Nat} {h : Her Pr} {J : List Nat} {w : World} {H : Nat} {s : HS} (g : GJ cs i h J w H s) {k : Nat} (hk : s.own H k) : k < w.heap.size := g.ga.lt hk
theorem noteJ_len (f : Int) (J : List Nat) (c : Nat) (a b : Int) : (noteJ f J c a b).length ≤ J.length + 19 := by
  unfold noteJ
  split
  · rw [List.length_append, recB_len]
    exact Nat.le_refl _
  · omega
theorem GJNext.of {cs : List Ins} {i : Nat} {h h' : Her Pr} {J J' : List Nat} {w w' : World} {H : Nat} {s : HS} (g : GJ cs i h J w H s) (ho : FJOut w w' H cs h' s.code s.jr s.rv s.qv J') (hj : J'.length ≤ J.length + 19) (hk : HOk (machE cs) (goodM cs) (50000000 * (i + 1 : Nat)) h') (hq : QsOk h') (hl : h'.last ≤ (i + 1 : Nat)) : GJNext cs i h' J' w H s w' := by
  obtain ⟨⟨jr', rv', qv', h2, h3⟩, h4⟩ := ho
  have := g.len
  exact ⟨⟨s.code, jr', rv', qv', J'.length⟩, ⟨⟨h2.fh, by show J'.length ≤ _; omega, g.ga.snd, hk, hq, hl⟩, h2.r, by omega⟩, h3, h4⟩
theorem GJ.new {cs : List Ins} {w : World} {H : Nat} {v : Value} (hs : soundL cs = true) (hH : w.heap[H]? = some (.cells (newHd v) 80 (0, 0))) (hv : w.ownsRow 0 137 4 v cs.length (codeCells cs)) : GJ cs 0 newH [] w H ⟨v, .slice none 0 0, .slice none 0 0, fun _ => .slice none 0 0, 0⟩ :=
  ⟨GA.new hs hH hv, World.ownsRow_nil _ _ _ _, Nat.zero_le _⟩
theorem gj_Trigger {cs : List Ins} {i : Nat} {h : Her Pr} {J : List Nat} {H : Nat} {s : HS} (dev : Int) (w : World) (g : GJ cs i h J w H s) (hi : i ≤ 2000000) :
    Calls Try.prog 12 #[.pointer (some ⟨H, 0, none⟩), .int .i64 dev] w fun e w' => e = .returned (.tuple #[.int .i64 (trigH (machE cs) h dev).1, .int .i64 (trigH (machE cs) h dev).2.1]) ∧ GJNext cs i (trigH (machE cs) h dev).2.2 (noteJ (trigH (machE cs) h dev).2.1 J 84 dev 0) w H s w' := by
  refine (j_Trigger H cs h s.code s.jr s.rv s.qv J dev (50000000 * i) w g.fj (g.ga.mok hi) (by have := g.len; omega)).mono ?_
  rintro e w' ⟨rfl, ho⟩
  have hl := trig_last (E := machE cs) (h := h) dev
  have := g.ga.last
  exact ⟨rfl, GJNext.of g ho (noteJ_len _ _ _ _ _) ((HOk.trig g.ga.eng g.ga.ok (by omega) dev).mono (by push_cast; omega)) (g.ga.qs.trig (fun r hr => g.ga.ok.id r hr) dev) (by push_cast; omega)⟩
theorem gj_Tick {cs : List Ins} {i : Nat} {h : Her Pr} {J : List Nat} {H : Nat} {s : HS} (n : Int) (w : World) (g : GJ cs i h J w H s) (hi : i ≤ 2000000) :
    Calls Try.prog 23 #[.pointer (some ⟨H, 0, none⟩), .int .i64 n] w fun e w' => e = .returned (.int .i64 (tickH (machE cs) h n).1) ∧ GJNext cs i (tickH (machE cs) h n).2 (noteJ (tickH (machE cs) h n).1 J 75 n 0) w H s w' := by
  refine (j_Tick H cs h s.code s.jr s.rv s.qv J n (50000000 * i) w g.fj (g.ga.mok hi) (by have := g.len; omega)).mono ?_
  rintro e w' ⟨rfl, ho⟩
  have k2 := HOk.tick g.ga.eng g.ga.ok n
  have := g.ga.last
  exact ⟨rfl, GJNext.of g ho (noteJ_len _ _ _ _ _) (k2.1.mono (by push_cast; omega)) (g.ga.qs.tick g.ga.eng g.ga.ok n) (by rw [k2.2]; push_cast; omega)⟩
theorem gj_Ack {cs : List Ins} {i : Nat} {h : Her Pr} {J : List Nat} {H : Nat} {s : HS} (id num : Int) (w : World) (g : GJ cs i h J w H s) (hi : i ≤ 2000000) :
    Calls Try.prog 24 #[.pointer (some ⟨H, 0, none⟩), .int .i64 id, .int .i64 num] w fun e w' => e = .returned (.int .i64 (ackH (machE cs) h id num).1) ∧ GJNext cs i (ackH (machE cs) h id num).2 (noteJ (ackH (machE cs) h id num).1 J 65 id num) w H s w' := by
  refine (j_Ack H cs h s.code s.jr s.rv s.qv J id num (50000000 * i) w g.fj (g.ga.mok hi) (by have := g.len; omega)).mono ?_
  rintro e w' ⟨rfl, ho⟩
  have := g.ga.last
  exact ⟨rfl, GJNext.of g ho (noteJ_len _ _ _ _ _) ((HOk.ack g.ga.eng g.ga.ok id num).mono (by push_cast; omega)) (g.ga.qs.ack g.ga.ok id num) (by rw [ack_last]; push_cast; omega)⟩
theorem gj_Cancel {cs : List Ins} {i : Nat} {h : Her Pr} {J : List Nat} {H : Nat} {s : HS} (id : Int) (w : World) (g : GJ cs i h J w H s) (hi : i ≤ 2000000) :
    Calls Try.prog 25 #[.pointer (some ⟨H, 0, none⟩), .int .i64 id] w fun e w' => e = .returned (.int .i64 (cancelH (machE cs) h id).1) ∧ GJNext cs i (cancelH (machE cs) h id).2 (noteJ (cancelH (machE cs) h id).1 J 67 id 0) w H s w' := by
  refine (j_Cancel H cs h s.code s.jr s.rv s.qv J id (50000000 * i) w g.fj (g.ga.mok hi) (by have := g.len; omega)).mono ?_
  rintro e w' ⟨rfl, ho⟩
  have := g.ga.last
  exact ⟨rfl, GJNext.of g ho (noteJ_len _ _ _ _ _) ((HOk.cancel g.ga.ok id).mono (by push_cast; omega)) (g.ga.qs.cancel id) (by rw [cancel_last]; push_cast; omega)⟩
theorem gj_Drain {cs : List Ins} {i : Nat} {h : Her Pr} {J : List Nat} {H : Nat} {s : HS} (dev : Int) (w : World) (g : GJ cs i h J w H s) (hi : i ≤ 2000000) :
    Calls Try.prog 26 #[.pointer (some ⟨H, 0, none⟩), .int .i64 dev] w fun e w' => e = .returned (.tuple #[msgV (drainH h dev).1, .int .i64 (drainH h dev).2.1]) ∧ GJNext cs i (drainH h dev).2.2 (noteJ (drainH h dev).2.1 J 68 dev 0) w H s w' := by
  refine (j_Drain H cs h s.code s.jr s.rv s.qv J dev (50000000 * i) w g.fj (g.ga.mok hi) (by have := g.len; omega)).mono ?_
  rintro e w' ⟨rfl, ho⟩
  have := g.ga.last
  exact ⟨rfl, GJNext.of g ho (noteJ_len _ _ _ _ _) ((HOk.drain g.ga.ok dev).mono (by push_cast; omega)) (g.ga.qs.drain dev) (by rw [drain_last]; push_cast; omega)⟩
/-- A herald behind at most m calls; what it owns is not older than B and not in F; nothing older than B has changed since w0. -/
def KJ (B : Nat) (cs : List Ins) (m : Nat) (h : Her Pr) (J : List Nat) (w0 : World) (H : Nat) (F : Nat → Prop) (w : World) : Prop :=
  ∃ i s, i ≤ m ∧ GJ cs i h J w H s ∧ (∀ k, s.own H k → B ≤ k ∧ ¬ F k) ∧ (∀ k, F k → k < w.heap.size) ∧ Below B w0 w ∧ B ≤ w.heap.size
theorem KJ.less {B : Nat} {cs : List Ins} {m : Nat} {h : Her Pr} {J : List Nat} {w0 w : World} {H : Nat} {F F' : Nat → Prop} (g : KJ B cs m h J w0 H F w) (hF : ∀ k, F' k → F k) : KJ B cs m h J w0 H F' w := by
  obtain ⟨i, s, h1, h2, h3, h4, h5, h6⟩ := g
  exact ⟨i, s, h1, h2, fun k hk => ⟨(h3 k hk).1, fun hf => (h3 k hk).2 (hF k hf)⟩, fun k hk => h4 k (hF k hk), h5, h6⟩
theorem KJ.le {B : Nat} {cs : List Ins} {m m' : Nat} {h : Her Pr} {J : List Nat} {w0 w : World} {H : Nat} {F : Nat → Prop} (g : KJ B cs m h J w0 H F w) (hm : m ≤ m') : KJ B cs m' h J w0 H F w := by
  obtain ⟨i, s, h1, h2⟩ := g
  exact ⟨i, s, by omega, h2⟩
theorem KJ.back {B : Nat} {cs : List Ins} {m : Nat} {h : Her Pr} {J : List Nat} {w0 w : World} {H : Nat} {F : Nat → Prop} (g : KJ B cs m h J w0 H F w) : Below B w0 w := by
  obtain ⟨i, s, h1, h2, h3, h4, h5, h6⟩ := g
  exact h5
theorem KJ.lt {B : Nat} {cs : List Ins} {m : Nat} {h : Her Pr} {J : List Nat} {w0 w : World} {H : Nat} {F : Nat → Prop} (g : KJ B cs m h J w0 H F w) {k : Nat} (hk : F k) : k < w.heap.size := by
  obtain ⟨i, s, h1, h2, h3, h4, h5, h6⟩ := g
  exact h4 k hk
theorem KJ.B {B : Nat} {cs : List Ins} {m : Nat} {h : Her Pr} {J : List Nat} {w0 w : World} {H : Nat} {F : Nat → Prop} (g : KJ B cs m h J w0 H F w) : B ≤ w.heap.size := by
  obtain ⟨i, s, h1, h2, h3, h4, h5, h6⟩ := g
  exact h6
/-- What lies in F is written, or something new is made: that lies beside the herald too. -/
theorem KJ.fr {B : Nat} {cs : List Ins} {m : Nat} {h : Her Pr} {J : List Nat} {w0 w w' : World} {H : Nat} {F S : Nat → Prop} (g : KJ B cs m h J w0 H F w) (hf : Fr S w w') (hS : ∀ k, S k → k < w.heap.size → F k ∧ B ≤ k) : KJ B cs m h J w0 H (fun k => F k ∨ (w.heap.size ≤ k ∧ k < w'.heap.size)) w' := by
  obtain ⟨i, s, h1, h2, h3, h4, h5, h6⟩ := g
  have hz := hf.size
  refine ⟨i, s, h1, h2.keep fun k hk => hf.block k (h2.lt hk) fun hs => (h3 k hk).2 (hS k hs (h2.lt hk)).1, fun k hk => ⟨(h3 k hk).1, ?_⟩, ?_, ?_, by omega⟩
  · rintro (hF | ⟨hF, _⟩)
    · exact (h3 k hk).2 hF
    · have := h2.lt hk
      omega
  · rintro k (hF | ⟨_, hF⟩)
    · have := h4 k hF
      omega
    · exact hF
  · exact h5.trans ⟨hf.os, hf.tape, hf.output, hf.size, fun k hk => hf.block k (by omega) fun hs => by have := (hS k hs (by omega)).2; omega⟩
theorem KJ.more {B : Nat} {cs : List Ins} {m : Nat} {h : Her Pr} {J : List Nat} {w0 w w' : World} {H : Nat} {F : Nat → Prop} (g : KJ B cs m h J w0 H F w) (hb : Below w.heap.size w w') : KJ B cs m h J w0 H (fun k => F k ∨ (w.heap.size ≤ k ∧ k < w'.heap.size)) w' :=
  g.fr (Fr.of_below hb) fun _ hk hk2 => by omega
theorem KJ.below {B : Nat} {cs : List Ins} {m : Nat} {h : Her Pr} {J : List Nat} {w0 w w' : World} {H : Nat} {F : Nat → Prop} (g : KJ B cs m h J w0 H F w) (hb : Below w.heap.size w w') : KJ B cs m h J w0 H F w' := (g.more hb).less fun _ hk => .inl hk
theorem KJ.same {B : Nat} {cs : List Ins} {m : Nat} {h : Her Pr} {J : List Nat} {w0 w w' : World} {H : Nat} {F : Nat → Prop} (g : KJ B cs m h J w0 H F w) (hs : SameH w w') : KJ B cs m h J w0 H F w' :=
  g.below ⟨hs.os, hs.tape, hs.output, by rw [hs.heap]; exact Nat.le_refl _, fun k _ => by rw [hs.heap]⟩
theorem KJ.next {B : Nat} {cs : List Ins} {m i : Nat} {h' : Her Pr} {J' : List Nat} {w0 w w' : World} {H : Nat} {F : Nat → Prop} {s : HS} (h1 : i ≤ m) (h3 : ∀ k, s.own H k → B ≤ k ∧ ¬ F k) (h4 : ∀ k, F k → k < w.heap.size) (h5 : Below B w0 w) (h6 : B ≤ w.heap.size) (n : GJNext cs i h' J' w H s w') : KJ B cs (m + 1) h' J' w0 H F w' ∧ ∀ k, F k → w'.heap[k]? = w.heap[k]? := by
  obtain ⟨s', g', o', f'⟩ := n
  have hz := f'.size
  refine ⟨⟨i + 1, s', by omega, g', fun k hk => ?_, fun k hk => by have := h4 k hk; omega, ?_, by omega⟩, fun k hk => f'.block k (h4 k hk) fun ho => (h3 k ho).2 hk⟩
  · rcases o' k hk with h7 | h7
    · exact h3 k h7
    · exact ⟨by omega, fun hF => by have := h4 k hF; omega⟩
  · exact h5.trans ⟨f'.os, f'.tape, f'.output, f'.size, fun k hk => f'.block k (by omega) fun ho => by have := (h3 k ho).1; omega⟩
theorem kj_Trigger {B : Nat} {cs : List Ins} {m : Nat} {h : Her Pr} {J : List Nat} {w0 : World} {H : Nat} {F : Nat → Prop} (dev : Int) (w : World) (g : KJ B cs m h J w0 H F w) (hm : m ≤ 2000000) :
    Calls Try.prog 12 #[.pointer (some ⟨H, 0, none⟩), .int .i64 dev] w fun e w' => e = .returned (.tuple #[.int .i64 (trigH (machE cs) h dev).1, .int .i64 (trigH (machE cs) h dev).2.1]) ∧ KJ B cs (m + 1) (trigH (machE cs) h dev).2.2 (noteJ (trigH (machE cs) h dev).2.1 J 84 dev 0) w0 H F w' ∧ ∀ k, F k → w'.heap[k]? = w.heap[k]? := by
  obtain ⟨i, s, h1, h2, h3, h4, h5, h6⟩ := g
  exact (gj_Trigger dev w h2 (by omega)).mono fun e w' hh => ⟨hh.1, KJ.next h1 h3 h4 h5 h6 hh.2⟩
theorem kj_Tick {B : Nat} {cs : List Ins} {m : Nat} {h : Her Pr} {J : List Nat} {w0 : World} {H : Nat} {F : Nat → Prop} (n : Int) (w : World) (g : KJ B cs m h J w0 H F w) (hm : m ≤ 2000000) :
    Calls Try.prog 23 #[.pointer (some ⟨H, 0, none⟩), .int .i64 n] w fun e w' => e = .returned (.int .i64 (tickH (machE cs) h n).1) ∧ KJ B cs (m + 1) (tickH (machE cs) h n).2 (noteJ (tickH (machE cs) h n).1 J 75 n 0) w0 H F w' ∧ ∀ k, F k → w'.heap[k]? = w.heap[k]? := by
  obtain ⟨i, s, h1, h2, h3, h4, h5, h6⟩ := g
  exact (gj_Tick n w h2 (by omega)).mono fun e w' hh => ⟨hh.1, KJ.next h1 h3 h4 h5 h6 hh.2⟩
theorem kj_Ack {B : Nat} {cs : List Ins} {m : Nat} {h : Her Pr} {J : List Nat} {w0 : World} {H : Nat} {F : Nat → Prop} (id num : Int) (w : World) (g : KJ B cs m h J w0 H F w) (hm : m ≤ 2000000) :
    Calls Try.prog 24 #[.pointer (some ⟨H, 0, none⟩), .int .i64 id, .int .i64 num] w fun e w' => e = .returned (.int .i64 (ackH (machE cs) h id num).1) ∧ KJ B cs (m + 1) (ackH (machE cs) h id num).2 (noteJ (ackH (machE cs) h id num).1 J 65 id num) w0 H F w' ∧ ∀ k, F k → w'.heap[k]? = w.heap[k]? := by
  obtain ⟨i, s, h1, h2, h3, h4, h5, h6⟩ := g
  exact (gj_Ack id num w h2 (by omega)).mono fun e w' hh => ⟨hh.1, KJ.next h1 h3 h4 h5 h6 hh.2⟩
theorem kj_Cancel {B : Nat} {cs : List Ins} {m : Nat} {h : Her Pr} {J : List Nat} {w0 : World} {H : Nat} {F : Nat → Prop} (id : Int) (w : World) (g : KJ B cs m h J w0 H F w) (hm : m ≤ 2000000) :
    Calls Try.prog 25 #[.pointer (some ⟨H, 0, none⟩), .int .i64 id] w fun e w' => e = .returned (.int .i64 (cancelH (machE cs) h id).1) ∧ KJ B cs (m + 1) (cancelH (machE cs) h id).2 (noteJ (cancelH (machE cs) h id).1 J 67 id 0) w0 H F w' ∧ ∀ k, F k → w'.heap[k]? = w.heap[k]? := by
  obtain ⟨i, s, h1, h2, h3, h4, h5, h6⟩ := g
  exact (gj_Cancel id w h2 (by omega)).mono fun e w' hh => ⟨hh.1, KJ.next h1 h3 h4 h5 h6 hh.2⟩
theorem kj_Drain {B : Nat} {cs : List Ins} {m : Nat} {h : Her Pr} {J : List Nat} {w0 : World} {H : Nat} {F : Nat → Prop} (dev : Int) (w : World) (g : KJ B cs m h J w0 H F w) (hm : m ≤ 2000000) :
    Calls Try.prog 26 #[.pointer (some ⟨H, 0, none⟩), .int .i64 dev] w fun e w' => e = .returned (.tuple #[msgV (drainH h dev).1, .int .i64 (drainH h dev).2.1]) ∧ KJ B cs (m + 1) (drainH h dev).2.2 (noteJ (drainH h dev).2.1 J 68 dev 0) w0 H F w' ∧ ∀ k, F k → w'.heap[k]? = w.heap[k]? := by
  obtain ⟨i, s, h1, h2, h3, h4, h5, h6⟩ := g
  exact (gj_Drain dev w h2 (by omega)).mono fun e w' hh => ⟨hh.1, KJ.next h1 h3 h4 h5 h6 hh.2⟩
theorem KJ.len {B : Nat} {cs : List Ins} {m : Nat} {h : Her Pr} {J : List Nat} {w0 w : World} {H : Nat} {F : Nat → Prop} (g : KJ B cs m h J w0 H F w) : J.length ≤ 19 * m := by
  obtain ⟨i, s, h1, h2, _⟩ := g
  have := h2.len
  omega
end Go.Proofs.Ytmmmnghiegajmab
