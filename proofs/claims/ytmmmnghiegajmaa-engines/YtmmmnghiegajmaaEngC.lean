/- The document's own herald: messages are taken out of a queue. -/
import Derived.Test.YtmmmnghiegajmaaEngB
namespace Go.Proofs.Ytmmmnghiegajmaa
open Go.RowKit Go.Proofs.Herald

theorem msgsCells_snoc (q : List Msg) (m : Msg) : msgsCells (q ++ [m]) = msgsCells q ++ [.int .i64 m.dev, .int .i64 m.run, .int .i64 m.num, .int .i64 m.key] := by
  unfold msgsCells; rw [List.map_append, codeCells_append]; rfl

/-- A queue is laid anew. -/
theorem SimCore.setQ {w : World} {S Q P R : Nat} {cv : Md} {pv : Value} {rec : ByteArray} {now last : Int} {qv : Nat → Value} {qs : Nat → List Msg} {p : Pr} (h : SimCore w S Q P R cv pv rec now last qv qs p) (d : Nat) (hd : d < 3) (v : Value) (q : List Msg) (ho : w.ownsRow 0 83 4 v q.length (msgsCells q))
    (hnew : ∀ b e, v.ownBlock = some b → e < 3 → e ≠ d → (qv e).ownBlock ≠ some b) :
    SimCore (w.setCell ⟨Q, d, none⟩ v) S Q P R cv pv rec now last (upd qv d v) (upd qs d q) p := by
  have keep : ∀ {v' : Value} {n : Nat} {xs : List Value}, w.ownsRow 0 83 4 v' n xs → (w.setCell ⟨Q, d, none⟩ v).ownsRow 0 83 4 v' n xs := fun {v' n xs} hv => own_keep hv fun b hb => by
    obtain ⟨c, hc⟩ := own_block hv hb
    exact Below.heap_setCell _ _ _ _ (ne_of_type hc h.qB (by decide))
  refine ⟨?_, ?_, fun e he => ?_, fun e f b he hf h1 h2 => ?_, ?_, ?_, h.rl⟩
  · rw [Below.heap_setCell _ _ _ _ (ne_of_type h.sB h.qB (by decide))]; exact h.sB
  · rw [heap_setCell_self _ h.qB]
    match d, hd with
    | 0, _ => rfl
    | 1, _ => rfl
    | 2, _ => rfl
  · by_cases hed : e = d
    · subst hed; rw [upd_same, upd_same]; exact keep ho
    · rw [upd_other qv v hed, upd_other qs q hed]; exact keep (h.oB e he)
  · by_cases hed : e = d
    · by_cases hfd : f = d
      · omega
      · subst hed
        rw [upd_same] at h1
        rw [upd_other qv v hfd] at h2
        exact absurd h2 (hnew b f h1 hf hfd)
    · by_cases hfd : f = d
      · subst hfd
        rw [upd_same] at h2
        rw [upd_other qv v hed] at h1
        exact absurd h1 (hnew b e h2 he hed)
      · rw [upd_other qv v hed] at h1
        rw [upd_other qv v hfd] at h2
        exact h.dis e f b he hf h1 h2
  · rw [Below.heap_setCell _ _ _ _ (ne_of_type h.pB h.qB (by decide))]; exact h.pB
  · rw [Below.heap_setCell _ _ _ _ (ne_of_type h.rB h.qB (by decide))]; exact h.rB

theorem own0 {w : World} {B : Nat} {e : TypeId} {size : Nat} {v : Value} {n : Nat} {xs : List Value} (h : w.ownsRow B e size v n xs) : w.ownsRow 0 e size v n xs := by
  refine ⟨h.1, ?_⟩
  rcases h.2 with h2 | ⟨g, cap, cur, hv, _, r⟩
  · exact .inl h2
  · exact .inr ⟨g, cap, cur, hv, Nat.zero_le _, r⟩

theorem own_base {w : World} {B : Nat} {e : TypeId} {size : Nat} {v : Value} {n : Nat} {xs : List Value} (h : w.ownsRow 0 e size v n xs) (hB : ∀ b, v.ownBlock = some b → B ≤ b) : w.ownsRow B e size v n xs := by
  refine ⟨h.1, ?_⟩
  rcases h.2 with h2 | ⟨g, cap, cur, rfl, _, r⟩
  · exact .inl h2
  · exact .inr ⟨g, cap, cur, rfl, hB g rfl, r⟩

/-- An append onto what the call itself made. -/
theorem appended_below {w0 W w' : World} {B : Nat} {e : TypeId} {size n m : Nat} {v v' : Value} {xs ys : List Value} (hb : Below B w0 W) (hB : B ≤ W.heap.size) (hv : W.ownsRow B e size v n xs) (ho : w'.ownsRow 0 e size v' (n + m) ys) (ha : Appended W w' v n m v') :
    Below B w0 w' ∧ w'.ownsRow B e size v' (n + m) ys := by
  rcases ha with ⟨g, cap, h1, h2, hg⟩ | ⟨hnew, hg⟩
  · have hgB : B ≤ g := (ownsRow_lies hv (k := g) (by rw [h1]; rfl)).1
    refine ⟨hb.grown hg hB fun k hk => by cases hk; exact hgB, own_base ho fun b hb' => ?_⟩
    rw [h2] at hb'
    cases hb'
    exact hgB
  · exact ⟨hb.grown hg hB fun k hk => (by cases hk), own_base ho fun b hb' => Nat.le_trans hB (hnew b hb')⟩

theorem keepsM_run {id num : Int} {m : Msg} (h : ¬ m.run = id) : keepsM id num m = true := by unfold keepsM; simp [h]
theorem keepsM_all {id num : Int} {m : Msg} (h : m.run = id) (h0 : num = 0) : keepsM id num m = false := by unfold keepsM; simp [h, h0]
theorem keepsM_one {id num : Int} {m : Msg} (h : m.run = id) (h1 : m.num = num) : keepsM id num m = false := by unfold keepsM; simp [h, h1]
theorem keepsM_other {id num : Int} {m : Msg} (h0 : ¬ num = 0) (h1 : ¬ m.num = num) : keepsM id num m = true := by unfold keepsM; simp [h0, h1]

set_option maxRecDepth 20000 in
set_option maxHeartbeats 4000000 in
theorem s_take (S Q P R : Nat) (cv : Md) (pv : Value) (rec : ByteArray) (now last : Int) (qv : Nat → Value) (qs : Nat → List Msg) (p : Pr) (num : Int) (d : Nat) (w : World) (h : SimCore w S Q P R cv pv rec now last qv qs p) (hd : d < 3) (hdev : p.dev = (d : Nat)) (hl : (qs d).length ≤ 4) :
    Calls Try.prog 128 #[.pointer (some ⟨S, 0, none⟩), .pointer (some ⟨P, 0, none⟩), .int .i64 num] w fun e w' => e = .returned (.tuple #[]) ∧
      ∃ v, SimCore w' S Q P R cv pv rec now last (upd qv d v) (upd qs d (takeQ (qs d) p.id num)) p ∧ (∀ b, v.ownBlock = some b → w.heap.size ≤ b) ∧ Fr (fun k => k = Q) w w' := by
  obtain ⟨a, cap, hv⟩ := ownsRow_slice (h.oB d hd)
  have c6 : w.cell? ⟨S, 6, none⟩ = some (.slice (some ⟨Q, 0, none⟩) 3 3) := (cell_of_heap h.sB).trans rfl
  have cq : w.cell? ⟨Q, d, none⟩ = some (.slice a (qs d).length cap) := by rw [cell_of_heap h.qB, three qv d hd, hv]
  have p0 : w.cell? ⟨P, 0, none⟩ = some (.int .i64 p.id) := (cell_of_heap h.pB).trans rfl
  have p1 : w.cell? ⟨P, 1, none⟩ = some (.int .i64 (d : Nat)) := by rw [← hdev]; exact (cell_of_heap h.pB).trans rfl
  have HO : Hid (w.ownsRow 0 83 4 (.slice a (qs d).length cap) (qs d).length (msgsCells (qs d))) := by rw [← hv]; exact h.oB d hd
  have HH : Hid (SimCore w S Q P R cv pv rec now last qv qs p) := h
  have HLT : Hid (S < w.heap.size ∧ Q < w.heap.size ∧ P < w.heap.size) := ⟨heap_lt h.sB, heap_lt h.qB, heap_lt h.pB⟩
  clear h hv hdev
  obtain ⟨q, hq⟩ : ∃ q, q = qs d := ⟨_, rfl⟩
  rw [← hq] at cq HO hl ⊢
  have HQ : Hid (q = qs d) := hq
  clear hq
  go_enter Try.func128, Try.ntmps128
  go_wp2_with fail
  go_loopw [7, 8] (fun v i wr => ∃ k : Nat, k ≤ q.length ∧ i = .int .i64 k ∧ Hid (wr.ownsRow w.heap.size 83 4 v ((q.take k).filter (keepsM p.id num)).length (msgsCells ((q.take k).filter (keepsM p.id num)))) ∧ Hid (Below w.heap.size w wr)) (fun _ i _ => q.length - (intOf i).toNat)
  case atStart => exact ⟨0, Nat.zero_le _, rfl, World.ownsRow_nil _ _ _ _, Below.refl _ _⟩
  case round =>
    obtain ⟨k, hk, rfl, HV, HB⟩ := hrel
    rw [← HB.out.cell (p := ⟨S, 6, none⟩) HLT.out.1] at c6
    rw [← HB.out.cell (p := ⟨Q, d, none⟩) HLT.out.2.1] at cq
    rw [← HB.out.cell (p := ⟨P, 0, none⟩) HLT.out.2.2] at p0
    rw [← HB.out.cell (p := ⟨P, 1, none⟩) HLT.out.2.2] at p1
    obtain ⟨F, hF⟩ : ∃ F, F = (q.take k).filter (keepsM p.id num) := ⟨_, rfl⟩
    rw [← hF] at HV
    have hFl : F.length ≤ 4 := by rw [hF]; have := List.length_filter_le (keepsM p.id num) (q.take k); simp at this; omega
    by_cases hlt : k < q.length
    · have HKEEP : Hid (keepsM p.id num q[k] = true → (q.take (k + 1)).filter (keepsM p.id num) = F ++ [q[k]]) := fun h => by
        rw [List.take_succ_eq_append_getElem hlt, List.filter_append, ← hF]; simp [h]
      have HDROP : Hid (keepsM p.id num q[k] = false → (q.take (k + 1)).filter (keepsM p.id num) = F) := fun h => by
        rw [List.take_succ_eq_append_getElem hlt, List.filter_append, ← hF]; simp [h]
      obtain ⟨g, cap', hv, _, hgl⟩ := HO.out.form (by omega)
      simp at hv
      obtain ⟨rfl, rfl⟩ := hv
      obtain ⟨e0, e1, e2, e3⟩ := msg_get HO.out hlt
      rw [← HB.out.cell (p := ⟨g, k * 4, none⟩) hgl] at e0
      rw [← HB.out.cell (p := ⟨g, k * 4 + 1, none⟩) hgl] at e1
      rw [← HB.out.cell (p := ⟨g, k * 4 + 2, none⟩) hgl] at e2
      rw [← HB.out.cell (p := ⟨g, k * 4 + 3, none⟩) hgl] at e3
      have hPl : P < wr.heap.size := Nat.lt_of_lt_of_le HLT.out.2.2 HB.out.size
      clear hF hgl
      generalize q[k] = m at *
      by_cases hr : m.run = p.id
      · have b1 : (m.run != p.id) = false := by simpa using hr
        by_cases h0 : num = 0
        · have b2 : (num != 0) = false := by simpa using h0
          have HE : Hid ((q.take (k + 1)).filter (keepsM p.id num) = F) := HDROP.out (keepsM_all hr h0)
          clear hr h0 HKEEP HDROP
          go_wp2_with fail
          go_region
          all_goals
            go_wp2_with fail
            go_roundw
            case rel => exact ⟨k + 1, by omega, by go_num, by rw [HE.out]; exact HV.out.alloc _, (HB.out.alloc HB.out.size _).drew⟩
            case measure => simp [intOf]; omega
        · have b2 : (num != 0) = true := by simpa using h0
          by_cases h1 : m.num = num
          · have b3 : (m.num != num) = false := by simpa using h1
            have HE : Hid ((q.take (k + 1)).filter (keepsM p.id num) = F) := HDROP.out (keepsM_one hr h1)
            clear hr h0 h1 HKEEP HDROP
            go_wp2_with fail
            go_region
            all_goals
              go_wp2_with fail
              go_roundw
              case rel => exact ⟨k + 1, by omega, by go_num, by rw [HE.out]; exact HV.out.alloc _, (HB.out.alloc HB.out.size _).drew⟩
              case measure => simp [intOf]; omega
          · have b3 : (m.num != num) = true := by simpa using h1
            have HE : Hid ((q.take (k + 1)).filter (keepsM p.id num) = F ++ [m]) := HKEEP.out (keepsM_other h0 h1)
            clear hr h0 h1 HKEEP HDROP
            go_wp2_with fail
            go_region
            all_goals
              go_wp2_with (at_builtin; refine wpList_append_keep _ rfl (.tmp 55) (.tmp 57) 66 rfl 83 _ 4 32 Try.underlying66 Try.infoMsg rfl (by decide) (by decide) u7 F.length 1 (msgsCells F) (wr.heap.size + 1) [.int .i64 m.dev, .int .i64 m.run, .int .i64 m.num, .int .i64 m.key] (by rfl) (by exact ((own0 HV.out).alloc _).alloc _) (by exact heap_alloc2 _ _ _) (by rfl) rfl (by simp [Value.oneCell']) (by decide) (by omega) ?_)
              intro v2 w2 hown2 ha2
              have hab := appended_below (w0 := w) (B := w.heap.size) ((HB.out.alloc HB.out.size _).alloc (by have := HB.out.size; simp; omega) _).drew (by have := HB.out.size; simp; omega) ((HV.out.alloc _).alloc _) hown2 ha2
              replace hown2 := hab.2
              have HV2 : Hid (w2.ownsRow w.heap.size 83 4 v2 ((q.take (k + 1)).filter (keepsM p.id num)).length (msgsCells ((q.take (k + 1)).filter (keepsM p.id num)))) := by
                rw [HE.out, msgsCells_snoc, List.length_append]; exact hown2
              have HB2 : Hid (Below w.heap.size w w2) := hab.1
              clear hown2 ha2 hab
              go_wp2_with fail
              go_roundw
              case rel => exact ⟨k + 1, by omega, by go_num, HV2, HB2⟩
              case measure => simp [intOf]; omega
      · have b1 : (m.run != p.id) = true := by simpa using hr
        have HE : Hid ((q.take (k + 1)).filter (keepsM p.id num) = F ++ [m]) := HKEEP.out (keepsM_run hr)
        clear hr HKEEP HDROP
        go_wp2_with fail
        go_region
        all_goals
          go_wp2_with (at_builtin; refine wpList_append_keep _ rfl (.tmp 55) (.tmp 57) 66 rfl 83 _ 4 32 Try.underlying66 Try.infoMsg rfl (by decide) (by decide) u7 F.length 1 (msgsCells F) (wr.heap.size + 1) [.int .i64 m.dev, .int .i64 m.run, .int .i64 m.num, .int .i64 m.key] (by rfl) (by exact ((own0 HV.out).alloc _).alloc _) (by exact heap_alloc2 _ _ _) (by rfl) rfl (by simp [Value.oneCell']) (by decide) (by omega) ?_)
          intro v2 w2 hown2 ha2
          have hab := appended_below (w0 := w) (B := w.heap.size) ((HB.out.alloc HB.out.size _).alloc (by have := HB.out.size; simp; omega) _).drew (by have := HB.out.size; simp; omega) ((HV.out.alloc _).alloc _) hown2 ha2
          replace hown2 := hab.2
          have HV2 : Hid (w2.ownsRow w.heap.size 83 4 v2 ((q.take (k + 1)).filter (keepsM p.id num)).length (msgsCells ((q.take (k + 1)).filter (keepsM p.id num)))) := by
            rw [HE.out, msgsCells_snoc, List.length_append]; exact hown2
          have HB2 : Hid (Below w.heap.size w w2) := hab.1
          clear hown2 ha2 hab
          go_wp2_with fail
          go_roundw
          case rel => exact ⟨k + 1, by omega, by go_num, HV2, HB2⟩
          case measure => simp [intOf]; omega
    · have HE : Hid (F = takeQ q p.id num) := by show _ = _; rw [hF, List.take_of_length_le (by omega)]; rfl
      have z : wr.frozen? ⟨Q, d, none⟩ = false := free_of_heap ((HH.out.below HB.out).qB)
      clear hF
      obtain ⟨av, cv2, hvv⟩ := ownsRow_slice HV.out
      subst hvv
      go_wp2_with fail
      go_end0
      refine ⟨rfl, _, ?_, fun b hb => (ownsRow_lies HV.out hb).1, ?_⟩
      · rw [← HE.out]
        refine (HH.out.below HB.out).setQ d hd _ F (own0 HV.out) (fun b e hb he hne hh => ?_)
        have h1 := (ownsRow_lies HV.out hb).1
        obtain ⟨c, hc⟩ := own_block (HH.out.oB e he) hh
        have := heap_lt hc
        omega
      · exact ((Fr.of_below HB.out).mono (T := fun k => k = Q) fun j hj hs => by omega).setCell ⟨Q, d, none⟩ (Or.inl rfl) _

end Go.Proofs.Ytmmmnghiegajmaa
