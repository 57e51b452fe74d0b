/- The document's own herald: a run ends. The document's own herald: one instruction of a run: end, send, wait, ask, jump. The document's own herald: one instruction of a run: ask, end. -/
import Derived.Test.YtmmmnghiegajmaaEngD
namespace Go.Proofs.Ytmmmnghiegajmaa
open Go.RowKit Go.Proofs.Herald

theorem Try.infoProcP : (Try.prog.info? 177).map (fun i => (i.zero, i.size, i.bytes)) = some (some (.pointer none), 1, 8) := by kernel_rfl

def ptrs (L : List (Nat × Int)) : List Value := L.map fun x => Value.pointer (some ⟨x.1, 0, none⟩)

/-- The runs' list, and the number of each. -/
structure ProcsAt (w : World) (pv : Value) (L : List (Nat × Int)) : Prop where
  own : w.ownsRow 0 177 1 pv L.length (ptrs L)
  ids : ∀ x ∈ L, ∃ cs, w.heap[x.1]? = some (.cells cs 176 (0, 0)) ∧ cs[0]? = some (.int .i64 x.2)

/-- The list of runs is laid anew. -/
theorem SimCore.setPv {w : World} {S Q P R : Nat} {cv : Md} {pv : Value} {rec : ByteArray} {now last : Int} {qv : Nat → Value} {qs : Nat → List Msg} {p : Pr} (h : SimCore w S Q P R cv pv rec now last qv qs p) (v : Value) :
    SimCore (w.setCell ⟨S, 5, none⟩ v) S Q P R cv v rec now last qv qs p := by
  refine ⟨?_, ?_, fun d hd => own_keep (h.oB d hd) fun b hb => ?_, h.dis, ?_, ?_, h.rl⟩
  · rw [heap_setCell_self _ h.sB]; rfl
  · rw [Below.heap_setCell _ _ _ _ (ne_of_type h.qB h.sB (by decide))]; exact h.qB
  · obtain ⟨c, hc⟩ := own_block (h.oB d hd) hb
    exact Below.heap_setCell _ _ _ _ (ne_of_type hc h.sB (by decide))
  · rw [Below.heap_setCell _ _ _ _ (ne_of_type h.pB h.sB (by decide))]; exact h.pB
  · rw [Below.heap_setCell _ _ _ _ (ne_of_type h.rB h.sB (by decide))]; exact h.rB

set_option maxRecDepth 20000 in
set_option maxHeartbeats 4000000 in
theorem s_ended (S Q P R : Nat) (cv : Md) (pv : Value) (rec : ByteArray) (now last : Int) (qv : Nat → Value) (qs : Nat → List Msg) (p : Pr) (L : List (Nat × Int)) (w : World) (h : SimCore w S Q P R cv pv rec now last qv qs p) (hP : ProcsAt w pv L) (hl : L.length ≤ 1000) :
    Calls Try.prog 129 #[.pointer (some ⟨S, 0, none⟩), .pointer (some ⟨P, 0, none⟩)] w fun e w' => e = .returned (.tuple #[]) ∧
      ∃ v, SimCore w' S Q P R cv v rec now last qv qs p ∧ w'.ownsRow 0 177 1 v (L.filter (fun x => x.2 != p.id)).length (ptrs (L.filter (fun x => x.2 != p.id))) ∧ (∀ b, v.ownBlock = some b → w.heap.size ≤ b) ∧ Fr (fun k => k = S) w w' := by
  obtain ⟨a, cap, hv⟩ := ownsRow_slice hP.own
  subst hv
  have c5 : w.cell? ⟨S, 5, none⟩ = some (.slice a L.length cap) := (cell_of_heap h.sB).trans rfl
  have p0 : w.cell? ⟨P, 0, none⟩ = some (.int .i64 p.id) := (cell_of_heap h.pB).trans rfl
  have HO : Hid (w.ownsRow 0 177 1 (.slice a L.length cap) L.length (ptrs L)) := hP.own
  have HI : Hid (∀ x ∈ L, x.1 < w.heap.size ∧ w.cell? ⟨x.1, 0, none⟩ = some (.int .i64 x.2)) := fun x hx => by
    obtain ⟨cs, h1, h2⟩ := hP.ids x hx
    exact ⟨heap_lt h1, (cell_of_heap h1).trans h2⟩
  have HH : Hid (SimCore w S Q P R cv (.slice a L.length cap) rec now last qv qs p) := h
  have HLT : Hid (S < w.heap.size ∧ P < w.heap.size) := ⟨heap_lt h.sB, heap_lt h.pB⟩
  clear h hP
  obtain ⟨f, hf⟩ : ∃ f : Nat × Int → Bool, f = fun x => x.2 != p.id := ⟨_, rfl⟩
  rw [← hf]
  have HF : Hid (f = fun x => x.2 != p.id) := hf
  clear hf
  go_enter Try.func129, Try.ntmps129
  go_wp2_with fail
  go_loopw [4, 5] (fun v i wr => ∃ k : Nat, k ≤ L.length ∧ i = .int .i64 k ∧ Hid (wr.ownsRow w.heap.size 177 1 v ((L.take k).filter f).length (ptrs ((L.take k).filter f))) ∧ Hid (Below w.heap.size w wr)) (fun _ i _ => L.length - (intOf i).toNat)
  case atStart => exact ⟨0, Nat.zero_le _, rfl, World.ownsRow_nil _ _ _ _, Below.refl _ _⟩
  case round =>
    obtain ⟨k, hk, rfl, HV, HB⟩ := hrel
    rw [← HB.out.cell (p := ⟨S, 5, none⟩) HLT.out.1] at c5
    rw [← HB.out.cell (p := ⟨P, 0, none⟩) HLT.out.2] at p0
    obtain ⟨F, hF⟩ : ∃ F, F = (L.take k).filter f := ⟨_, rfl⟩
    rw [← hF] at HV
    have hFl : F.length ≤ 1000 := by rw [hF]; have := List.length_filter_le f (L.take k); simp at this; omega
    by_cases hlt : k < L.length
    · have HKEEP : Hid (f L[k] = true → (L.take (k + 1)).filter f = F ++ [L[k]]) := fun h => by
        rw [List.take_succ_eq_append_getElem hlt, List.filter_append, ← hF]; simp [h]
      have HDROP : Hid (f L[k] = false → (L.take (k + 1)).filter f = F) := fun h => by
        rw [List.take_succ_eq_append_getElem hlt, List.filter_append, ← hF]; simp [h]
      obtain ⟨g, cap', hv, _, hgl⟩ := HO.out.form (by omega)
      simp at hv
      obtain ⟨rfl, rfl⟩ := hv
      have e0 : w.cell? ⟨g, k, none⟩ = some (.pointer (some ⟨L[k].1, 0, none⟩)) := own_cell HO.out rfl (by unfold ptrs; simp [hlt])
      rw [← HB.out.cell (p := ⟨g, k, none⟩) hgl] at e0
      have hi := HI.out L[k] (List.getElem_mem hlt)
      have e1 := hi.2
      rw [← HB.out.cell (p := ⟨L[k].1, 0, none⟩) hi.1] at e1
      clear hF hgl hi
      have HFX : Hid (f L[k] = (L[k].2 != p.id)) := by show _ = _; rw [HF.out]
      generalize L[k] = x at *
      obtain ⟨x1, x2⟩ := x
      dsimp only at e0 e1
      by_cases hr : x2 = p.id
      · have b1 : (x2 != p.id) = false := by simpa using hr
        have HE : Hid ((L.take (k + 1)).filter f = F) := HDROP.out (HFX.out.trans b1)
        clear hr HKEEP HDROP
        go_wp2_with fail
        go_region
        all_goals
          go_wp2_with fail
          go_roundw
          case rel => exact ⟨k + 1, by omega, by go_num, by rw [HE.out]; exact HV.out, HB.out.drew⟩
          case measure => simp [intOf]; omega
      · have b1 : (x2 != p.id) = true := by simpa using hr
        have HE : Hid ((L.take (k + 1)).filter f = F ++ [(x1, x2)]) := HKEEP.out (HFX.out.trans b1)
        clear hr HKEEP HDROP
        go_wp2_with fail
        go_region
        all_goals
          go_wp2_with (at_builtin; refine wpList_append_keep _ rfl (.tmp 32) (.tmp 40) 118 rfl 177 _ 1 8 Try.underlying118 Try.infoProcP rfl (by decide) (by decide) u4 F.length 1 (ptrs F) wr.heap.size [.pointer (some ⟨x1, 0, none⟩)] (by rfl) (by exact (own0 HV.out).alloc _) (by exact heap_alloc_new _ _) (by rfl) rfl (by simp [Value.oneCell']) (by decide) (by omega) ?_)
          intro v2 w2 hown2 ha2
          have hab := appended_below (w0 := w) (B := w.heap.size) (HB.out.alloc HB.out.size _).drew (by have := HB.out.size; simp; omega) (HV.out.alloc _) hown2 ha2
          replace hown2 := hab.2
          have HV2 : Hid (w2.ownsRow w.heap.size 177 1 v2 ((L.take (k + 1)).filter f).length (ptrs ((L.take (k + 1)).filter f))) := by
            rw [HE.out, List.length_append]; unfold ptrs; rw [List.map_append]; exact hown2
          have HB2 : Hid (Below w.heap.size w w2) := hab.1
          clear hown2 ha2 hab
          go_wp2_with fail
          go_roundw
          case rel => exact ⟨k + 1, by omega, by go_num, HV2, HB2⟩
          case measure => simp [intOf]; omega
    · have HE : Hid (F = L.filter f) := by show _ = _; rw [hF, List.take_of_length_le (by omega)]
      have z : wr.frozen? ⟨S, 5, none⟩ = false := free_of_heap ((HH.out.below HB.out).sB)
      clear hF
      obtain ⟨av, cv2, hvv⟩ := ownsRow_slice HV.out
      subst hvv
      go_wp2_with fail
      go_end0
      refine ⟨rfl, _, (HH.out.below HB.out).setPv _, ?_, fun b hb => (ownsRow_lies HV.out hb).1, ?_⟩
      · rw [← HE.out]
        exact own_keep (own0 HV.out) fun b hb => by
          obtain ⟨c, hc⟩ := own_block (own0 HV.out) hb
          exact Below.heap_setCell _ _ _ _ (ne_of_type hc (HH.out.below HB.out).sB (by decide))
      · exact ((Fr.of_below HB.out).mono (T := fun k => k = S) fun j hj hs => by omega).setCell ⟨S, 5, none⟩ (Or.inl rfl) _

end Go.Proofs.Ytmmmnghiegajmaa

namespace Go.Proofs.Ytmmmnghiegajmaa
open Go.RowKit Go.Proofs.Herald

/-- What a run may write: itself, its registers, the queues, the list of runs. -/
def StepT (S Q P R : Nat) (v : Value) (k : Nat) : Prop := k = P ∨ k = Q ∨ k = R ∨ k = S ∨ v.ownBlock = some k

/-- Behind an instruction: the answer; the queue, the run, and if it has ended the list of the others. -/
def StepOut (S Q P R : Nat) (cv : Md) (pv : Value) (rec : ByteArray) (now last : Int) (qv : Nat → Value) (qs : Nat → List Msg) (d : Nat) (L : List (Nat × Int)) (w : World) (q : List Msg) (p' : Pr) (done : Bool) (w' : World) : Prop :=
  ∃ v pv', SimCore w' S Q P R cv pv' rec now last (upd qv d v) (upd qs d q) p' ∧ (∀ b, v.ownBlock = some b → (qv d).ownBlock = some b ∨ w.heap.size ≤ b) ∧ (done = false → pv' = pv) ∧
    (done = true → w'.ownsRow 0 177 1 pv' (L.filter (fun x => x.2 != p'.id)).length (ptrs (L.filter (fun x => x.2 != p'.id))) ∧ ∀ b, pv'.ownBlock = some b → w.heap.size ≤ b) ∧ Fr (StepT S Q P R (qv d)) w w'

theorem StepOut.plain {S Q P R : Nat} {cv : Md} {pv : Value} {rec : ByteArray} {now last : Int} {qv : Nat → Value} {qs : Nat → List Msg} {d : Nat} {L : List (Nat × Int)} {w w' : World} {p' : Pr} (h : SimCore w' S Q P R cv pv rec now last qv qs p') (hf : Fr (StepT S Q P R (qv d)) w w') :
    StepOut S Q P R cv pv rec now last qv qs d L w (qs d) p' false w' :=
  ⟨qv d, pv, by rw [upd_self, upd_self]; exact h, fun _ hb => .inl hb, fun _ => rfl, fun hh => (by cases hh), hf⟩

theorem StepOut.send {S Q P R : Nat} {cv : Md} {pv : Value} {rec : ByteArray} {now last : Int} {qv : Nat → Value} {qs : Nat → List Msg} {d : Nat} {L : List (Nat × Int)} {w W w' w2 : World} {q : List Msg} {p' : Pr} {v : Value} (hb : Below w.heap.size w W) (h2 : ∀ b, v.ownBlock = some b → (qv d).ownBlock = some b ∨ W.heap.size ≤ b) (h3 : Fr (fun k => k = P ∨ k = Q ∨ (qv d).ownBlock = some k) W w')
    (h : SimCore w2 S Q P R cv pv rec now last (upd qv d v) (upd qs d q) p') (hf : Fr (fun k => k = P) w' w2) : StepOut S Q P R cv pv rec now last qv qs d L w q p' false w2 := by
  refine ⟨v, pv, h, fun b hb' => ?_, fun _ => rfl, fun hh => (by cases hh), ?_⟩
  · rcases h2 b hb' with h | h
    · exact .inl h
    · exact .inr (Nat.le_trans hb.size h)
  · refine (((Fr.of_below hb).mono fun k hk hs => ?_).trans (h3.mono fun k hk hs => ?_)).trans (hf.mono fun k hk hs => .inl hs)
    · omega
    · rcases hs with hs | hs | hs
      · exact .inl hs
      · exact .inr (.inl hs)
      · exact .inr (.inr (.inr (.inr hs)))

set_option maxRecDepth 20000 in
set_option maxHeartbeats 4000000 in
theorem s_step8 (S Q P R b off n cap : Nat) (pv : Value) (rec : ByteArray) (now last : Int) (qv : Nat → Value) (qs : Nat → List Msg) (p : Pr) (d pc : Nat) (L : List (Nat × Int)) (xa xb xc : Int) (w : World) (h : SimCore w S Q P R (cmd (.slice (some ⟨b, off, none⟩) n cap)) pv rec now last qv qs p)
    (hpc : pc < n) (c0 : w.cell? ⟨b, off + pc * 4, none⟩ = some (.int .i64 8)) (c1 : w.cell? ⟨b, off + pc * 4 + 1, none⟩ = some (.int .i64 xa)) (c2 : w.cell? ⟨b, off + pc * 4 + 2, none⟩ = some (.int .i64 xb)) (c3 : w.cell? ⟨b, off + pc * 4 + 3, none⟩ = some (.int .i64 xc)) :
    Calls Try.prog 153 #[.pointer (some ⟨S, 0, none⟩), .pointer (some ⟨P, 0, none⟩), .int .i64 (pc : Nat)] w fun e w' => e = .returned (.int .i64 xc) ∧ StepOut S Q P R (cmd (.slice (some ⟨b, off, none⟩) n cap)) pv rec now last qv qs d L w (qs d) p false w' := by
  have s2 : w.cell? ⟨S, 2, none⟩ = some (.slice (some ⟨b, off, none⟩) n cap) := (cell_of_heap h.sB).trans rfl
  have HH : Hid (SimCore w S Q P R (cmd (.slice (some ⟨b, off, none⟩) n cap)) pv rec now last qv qs p) := h
  clear h
  go_enter Try.func153, Try.ntmps153
  go_wp2_with fail
  go_ret
  exact ⟨rfl, .plain (HH.out.below ((Below.refl _ _).alloc (Nat.le_refl _) _)) ((Fr.refl _ _).alloc _)⟩

set_option maxRecDepth 20000 in
set_option maxHeartbeats 4000000 in
theorem s_step1 (S Q P R b off n cap : Nat) (pv : Value) (rec : ByteArray) (now last : Int) (qv : Nat → Value) (qs : Nat → List Msg) (p : Pr) (d pc : Nat) (L : List (Nat × Int)) (xa xb xc : Int) (w : World) (h : SimCore w S Q P R (cmd (.slice (some ⟨b, off, none⟩) n cap)) pv rec now last qv qs p)
    (hpc : pc < n) (hn : n ≤ 1000) (c0 : w.cell? ⟨b, off + pc * 4, none⟩ = some (.int .i64 1)) (c1 : w.cell? ⟨b, off + pc * 4 + 1, none⟩ = some (.int .i64 xa)) (c2 : w.cell? ⟨b, off + pc * 4 + 2, none⟩ = some (.int .i64 xb)) (c3 : w.cell? ⟨b, off + pc * 4 + 3, none⟩ = some (.int .i64 xc))
    (hd : d < 3) (hdev : p.dev = (d : Nat)) (hl : (qs d).length ≤ 4) (hs0 : 0 ≤ p.sent) (hs1 : p.sent ≤ 1000000000000000000) :
    Calls Try.prog 153 #[.pointer (some ⟨S, 0, none⟩), .pointer (some ⟨P, 0, none⟩), .int .i64 (pc : Nat)] w fun e w' => e = .returned (.int .i64 (pc + 1)) ∧ StepOut S Q P R (cmd (.slice (some ⟨b, off, none⟩) n cap)) pv rec now last qv qs d L w (sendP (qs d) p xa).1 (sendP (qs d) p xa).2.1 false w' := by
  have s2 : w.cell? ⟨S, 2, none⟩ = some (.slice (some ⟨b, off, none⟩) n cap) := (cell_of_heap h.sB).trans rfl
  have HS : Hid (∀ W : World, Below w.heap.size w W → Calls Try.prog 150 #[.pointer (some ⟨S, 0, none⟩), .pointer (some ⟨P, 0, none⟩), .int .i64 xa] W _) := fun W hW => s_send S Q P R _ pv rec now last qv qs p xa d W (h.below hW) hd hdev hl hs0 hs1
  clear h hdev hl hs0 hs1
  go_enter Try.func153, Try.ntmps153
  go_wp2_with fail
  refine (HS.out _ ((Below.refl _ _).alloc (Nat.le_refl _) _)).mono ?_
  rintro e w' ⟨rfl, v, HX⟩
  have HX' : Hid (_ ∧ _ ∧ _) := HX
  clear HX HS c0 c1 c2 c3 s2
  go_wp2_with fail
  go_ret
  exact ⟨by go_num, .send ((Below.refl _ _).alloc (Nat.le_refl _) _) HX'.out.2.1 HX'.out.2.2 HX'.out.1 (Fr.refl _ _)⟩

set_option maxRecDepth 20000 in
set_option maxHeartbeats 4000000 in
theorem s_step2 (S Q P R b off n cap : Nat) (pv : Value) (rec : ByteArray) (now last : Int) (qv : Nat → Value) (qs : Nat → List Msg) (p : Pr) (d pc : Nat) (L : List (Nat × Int)) (xa xb xc : Int) (w : World) (h : SimCore w S Q P R (cmd (.slice (some ⟨b, off, none⟩) n cap)) pv rec now last qv qs p)
    (hpc : pc < n) (hn : n ≤ 1000) (c0 : w.cell? ⟨b, off + pc * 4, none⟩ = some (.int .i64 2)) (c1 : w.cell? ⟨b, off + pc * 4 + 1, none⟩ = some (.int .i64 xa)) (c2 : w.cell? ⟨b, off + pc * 4 + 2, none⟩ = some (.int .i64 xb)) (c3 : w.cell? ⟨b, off + pc * 4 + 3, none⟩ = some (.int .i64 xc))
    (ht0 : 0 ≤ now) (ht1 : now ≤ 1000000000) (hx0 : 0 ≤ xa) (hx1 : xa ≤ 1000000) :
    Calls Try.prog 153 #[.pointer (some ⟨S, 0, none⟩), .pointer (some ⟨P, 0, none⟩), .int .i64 (pc : Nat)] w fun e w' => e = .returned (.int .i64 (-1)) ∧ StepOut S Q P R (cmd (.slice (some ⟨b, off, none⟩) n cap)) pv rec now last qv qs d L w (qs d) { stopP p now xa 0 with els := pc + 1 } false w' := by
  have s2 : w.cell? ⟨S, 2, none⟩ = some (.slice (some ⟨b, off, none⟩) n cap) := (cell_of_heap h.sB).trans rfl
  have HS : Hid (∀ W : World, Below w.heap.size w W → Calls Try.prog 151 #[.pointer (some ⟨S, 0, none⟩), .pointer (some ⟨P, 0, none⟩), .int .i64 xa, .int .i64 0] W _) := fun W hW => s_stop S Q P R _ pv rec now last qv qs p xa 0 W (h.below hW) (by omega) (by omega)
  clear h ht0 ht1 hx0 hx1
  go_enter Try.func153, Try.ntmps153
  go_wp2_with fail
  refine (HS.out _ ((Below.refl _ _).alloc (Nat.le_refl _) _)).mono ?_
  rintro e w' ⟨rfl, hX, hF⟩
  have p9 : w'.cell? ⟨P, 9, none⟩ = some (.int .i64 p.els) := (cell_of_heap hX.pB).trans rfl
  have z9 : w'.frozen? ⟨P, 9, none⟩ = false := free_of_heap hX.pB
  have HX : Hid (_ ∧ _) := ⟨hX, hF⟩
  clear hX hF HS c0 c1 c2 c3 s2
  go_wp2_with fail
  go_ret
  refine ⟨rfl, .plain (HX.out.1.setP (p' := { stopP p now xa 0 with els := pc + 1 }) 9 _ rfl rfl) ?_⟩
  exact ((((Fr.refl _ _).alloc _).trans (HX.out.2.mono fun k hk hs => .inl hs)).setCell ⟨P, 9, none⟩ (Or.inl (Or.inl rfl)) _)

end Go.Proofs.Ytmmmnghiegajmaa

namespace Go.Proofs.Ytmmmnghiegajmaa
open Go.RowKit Go.Proofs.Herald

/-- The instruction's own copy stands behind a call that wrote the run and the queue. -/
theorem SimCore.mark {w : World} {S Q P R : Nat} {cv : Md} {pv : Value} {rec : ByteArray} {now last : Int} {qv : Nat → Value} {qs : Nat → List Msg} {p : Pr} (h : SimCore w S Q P R cv pv rec now last qv qs p) {d : Nat} (hd : d < 3) {o : Obj} {w' : World} (hf : Fr (fun k => k = P ∨ k = Q ∨ (qv d).ownBlock = some k) (w.alloc o) w') : w'.heap[w.heap.size]? = some o := by
  rw [hf.block _ (by simp) ?_]
  · exact heap_alloc_new _ _
  · have h1 := heap_lt h.pB
    have h2 := heap_lt h.qB
    rintro (hk | hk | hk)
    · omega
    · omega
    · obtain ⟨c, hc⟩ := own_block (h.oB d hd) hk
      have := heap_lt hc
      omega

set_option maxRecDepth 20000 in
set_option maxHeartbeats 4000000 in
theorem s_step3 (S Q P R b off n cap : Nat) (pv : Value) (rec : ByteArray) (now last : Int) (qv : Nat → Value) (qs : Nat → List Msg) (p : Pr) (d pc : Nat) (L : List (Nat × Int)) (xa xb xc : Int) (w : World) (h : SimCore w S Q P R (cmd (.slice (some ⟨b, off, none⟩) n cap)) pv rec now last qv qs p)
    (hpc : pc < n) (hn : n ≤ 1000) (c0 : w.cell? ⟨b, off + pc * 4, none⟩ = some (.int .i64 3)) (c1 : w.cell? ⟨b, off + pc * 4 + 1, none⟩ = some (.int .i64 xa)) (c2 : w.cell? ⟨b, off + pc * 4 + 2, none⟩ = some (.int .i64 xb)) (c3 : w.cell? ⟨b, off + pc * 4 + 3, none⟩ = some (.int .i64 xc))
    (hd : d < 3) (hdev : p.dev = (d : Nat)) (hl : (qs d).length ≤ 4) (hs0 : 0 ≤ p.sent) (hs1 : p.sent ≤ 1000000000000000000) (ht0 : 0 ≤ now) (ht1 : now ≤ 1000000000) (hx0 : 0 ≤ xb) (hx1 : xb ≤ 1000000) :
    Calls Try.prog 153 #[.pointer (some ⟨S, 0, none⟩), .pointer (some ⟨P, 0, none⟩), .int .i64 (pc : Nat)] w fun e w' =>
      ((sendP (qs d) p xa).2.2 = 0 → e = .returned (.int .i64 xc) ∧ StepOut S Q P R (cmd (.slice (some ⟨b, off, none⟩) n cap)) pv rec now last qv qs d L w (sendP (qs d) p xa).1 (sendP (qs d) p xa).2.1 false w') ∧
      ((sendP (qs d) p xa).2.2 ≠ 0 → e = .returned (.int .i64 (-1)) ∧ StepOut S Q P R (cmd (.slice (some ⟨b, off, none⟩) n cap)) pv rec now last qv qs d L w (sendP (qs d) p xa).1 { stopP (sendP (qs d) p xa).2.1 now xb (sendP (qs d) p xa).2.2 with tow := pc + 1, els := xc } false w') := by
  have s2 : w.cell? ⟨S, 2, none⟩ = some (.slice (some ⟨b, off, none⟩) n cap) := (cell_of_heap h.sB).trans rfl
  have HS := s_send S Q P R (cmd (.slice (some ⟨b, off, none⟩) n cap)) pv rec now last qv qs p xa d (w.alloc (.cells #[.int .i64 3, .int .i64 xa, .int .i64 xb, .int .i64 xc] 128)) (h.below ((Below.refl _ _).alloc (Nat.le_refl _) _)) hd hdev hl hs0 hs1
  have HH : Hid (SimCore w S Q P R (cmd (.slice (some ⟨b, off, none⟩) n cap)) pv rec now last qv qs p) := h
  obtain ⟨r, hr⟩ : ∃ r, r = sendP (qs d) p xa := ⟨_, rfl⟩
  rw [← hr] at HS ⊢
  clear h hdev hl hs0 hs1 hr
  obtain ⟨q', p', m⟩ := r
  dsimp only at HS ⊢
  have HS' : Hid (Calls Try.prog 150 #[.pointer (some ⟨S, 0, none⟩), .pointer (some ⟨P, 0, none⟩), .int .i64 xa] _ _) := HS
  clear HS
  go_enter Try.func153, Try.ntmps153
  go_wp2_with fail
  refine HS'.out.mono ?_
  rintro e w1 ⟨rfl, v, hX, hX2, hX3⟩
  obtain ⟨m0, m1, m2, m3⟩ := mark4 (HH.out.mark hd hX3)
  have HX : Hid (_ ∧ _ ∧ _ ∧ _) := ⟨hX, hX2, hX3, HH.out.mark hd hX3⟩
  have hPM : P ≠ w.heap.size := by have := heap_lt HH.out.pB; omega
  clear hX hX2 hX3 HS' c0 c1 c2 c3 s2
  by_cases h0 : m = 0
  · have b1 : (m == 0) = true := by simpa using h0
    have HM : Hid (m = 0) := h0
    clear h0
    go_wp2_with fail
    go_ret
    exact ⟨fun _ => ⟨rfl, .send ((Below.refl _ _).alloc (Nat.le_refl _) _) HX.out.2.1 HX.out.2.2.1 HX.out.1 (Fr.refl _ _)⟩, fun hh => absurd HM.out hh⟩
  · have b1 : (m == 0) = false := by simpa using h0
    have HM : Hid (m ≠ 0) := h0
    have HS : Hid (Calls Try.prog 151 #[.pointer (some ⟨S, 0, none⟩), .pointer (some ⟨P, 0, none⟩), .int .i64 xb, .int .i64 m] w1 _) := s_stop S Q P R _ pv rec now last _ _ p' xb m w1 HX.out.1 (by omega) (by omega)
    clear h0
    go_wp2_with fail
    refine HS.out.mono ?_
    rintro e w2 ⟨rfl, hY, hF⟩
    have hM2 := (hF.block w.heap.size (heap_lt HX.out.2.2.2) (fun hh => hPM hh.symm)).trans HX.out.2.2.2
    clear m0 m1 m2 m3
    obtain ⟨m0, m1, m2, m3⟩ := mark4 hM2
    have p8 : w2.cell? ⟨P, 8, none⟩ = some (.int .i64 p'.tow) := (cell_of_heap hY.pB).trans rfl
    have z8 : w2.frozen? ⟨P, 8, none⟩ = false := free_of_heap hY.pB
    have p9 : w2.cell? ⟨P, 9, none⟩ = some (.int .i64 p'.els) := (cell_of_heap hY.pB).trans rfl
    have z9 : w2.frozen? ⟨P, 9, none⟩ = false := free_of_heap hY.pB
    have HY : Hid (_ ∧ _) := ⟨hY, hF⟩
    clear hY hF HS hM2
    go_wp2_with fail
    go_ret
    refine ⟨fun hh => absurd hh HM.out, fun _ => ⟨rfl, .send ((Below.refl _ _).alloc (Nat.le_refl _) _) HX.out.2.1 HX.out.2.2.1 ((HY.out.1.setP (p' := { stopP p' now xb m with tow := pc + 1 }) 8 _ rfl rfl).setP (p' := { stopP p' now xb m with tow := pc + 1, els := xc }) 9 _ rfl rfl) ?_⟩⟩
    exact (HY.out.2.setCell ⟨P, 8, none⟩ (Or.inl rfl) _).setCell ⟨P, 9, none⟩ (Or.inl rfl) _

set_option maxRecDepth 20000 in
set_option maxHeartbeats 4000000 in
theorem s_step0 (S Q P R b off n cap : Nat) (pv : Value) (rec : ByteArray) (now last : Int) (qv : Nat → Value) (qs : Nat → List Msg) (p : Pr) (d pc : Nat) (L : List (Nat × Int)) (xa xb xc : Int) (w : World) (h : SimCore w S Q P R (cmd (.slice (some ⟨b, off, none⟩) n cap)) pv rec now last qv qs p)
    (hpc : pc < n) (c0 : w.cell? ⟨b, off + pc * 4, none⟩ = some (.int .i64 0)) (c1 : w.cell? ⟨b, off + pc * 4 + 1, none⟩ = some (.int .i64 xa)) (c2 : w.cell? ⟨b, off + pc * 4 + 2, none⟩ = some (.int .i64 xb)) (c3 : w.cell? ⟨b, off + pc * 4 + 3, none⟩ = some (.int .i64 xc))
    (hP : ProcsAt w pv L) (hl : L.length ≤ 1000) :
    Calls Try.prog 153 #[.pointer (some ⟨S, 0, none⟩), .pointer (some ⟨P, 0, none⟩), .int .i64 (pc : Nat)] w fun e w' => e = .returned (.int .i64 (-1)) ∧ StepOut S Q P R (cmd (.slice (some ⟨b, off, none⟩) n cap)) pv rec now last qv qs d L w (qs d) p true w' := by
  have s2 : w.cell? ⟨S, 2, none⟩ = some (.slice (some ⟨b, off, none⟩) n cap) := (cell_of_heap h.sB).trans rfl
  have HS : Hid (∀ W : World, Below w.heap.size w W → Calls Try.prog 129 #[.pointer (some ⟨S, 0, none⟩), .pointer (some ⟨P, 0, none⟩)] W _) := fun W hW => s_ended S Q P R _ pv rec now last qv qs p L W (h.below hW) ⟨own_keep hP.own fun b hb => by obtain ⟨c, hc⟩ := own_block hP.own hb; exact hW.block b (heap_lt hc), fun x hx => by obtain ⟨cs, h1, h2⟩ := hP.ids x hx; exact ⟨cs, (hW.block _ (heap_lt h1)).trans h1, h2⟩⟩ hl
  clear h hP
  go_enter Try.func153, Try.ntmps153
  go_wp2_with fail
  refine (HS.out _ ((Below.refl _ _).alloc (Nat.le_refl _) _)).mono ?_
  rintro e w1 ⟨rfl, v, hX, hX2, hX3, hX4⟩
  have HX : Hid (_ ∧ _ ∧ _ ∧ _) := ⟨hX, hX2, hX3, hX4⟩
  clear hX hX2 hX3 hX4 HS c0 c1 c2 c3 s2
  go_wp2_with fail
  go_ret
  refine ⟨rfl, qv d, v, by rw [upd_self, upd_self]; exact HX.out.1, fun _ hb => .inl hb, fun hh => (by cases hh), fun _ => ⟨HX.out.2.1, fun b hb => ?_⟩, ?_⟩
  · have := HX.out.2.2.1 b hb; simp at this; omega
  · exact ((Fr.refl _ _).alloc _).trans (HX.out.2.2.2.mono fun k hk hs => .inr (.inr (.inr (.inl hs))))

end Go.Proofs.Ytmmmnghiegajmaa
