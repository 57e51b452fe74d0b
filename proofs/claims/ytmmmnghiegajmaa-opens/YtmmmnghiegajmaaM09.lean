import Derived.Test.YtmmmnghiegajmaaM08
import Derived.Deep.DeepCutAuto
/- The document's own herald: messages are taken out of a queue. -/
namespace Go.Proofs.Ytmmmnghiegajmaa
open Go.RowKit Go.Proofs.Herald
theorem msgsCells_snoc (q : List Msg) (m : Msg) : msgsCells (q ++ [m]) = msgsCells q ++ [.int .i64 m.dev, .int .i64 m.run, .int .i64 m.num, .int .i64 m.key] := by
  unfold msgsCells; rw [List.map_append, codeCells_append]; rfl
/-- A queue is laid anew. -/
theorem SimCore.setQ {w : World} {S Q P R : Nat} {cv : Md} {pv : Value} {rec : ByteArray} {now last : Int} {qv : Nat → Value} {qs : Nat → List Msg} {p : Pr} (h : SimCore w S Q P R cv pv rec now last qv qs p) (d : Nat) (hd : d < 3) (v : Value) (q : List Msg) (ho : w.ownsRow 0 83 4 v q.length (msgsCells q))
    (hnew : ∀ b e, v.ownBlock = some b → e < 3 → e ≠ d → (qv e).ownBlock ≠ some b) :
    SimCore (w.setCell ⟨Q, d, none⟩ v) S Q P R cv pv rec now last (upd qv d v) (upd qs d q) p := by
  have keep : ∀ {v' : Value} {n : Nat} {xs : List Value}, w.ownsRow 0 83 4 v' n xs → (w.setCell ⟨Q, d, none⟩ v).ownsRow 0 83 4 v' n xs := fun {v' n xs} hv => own_keep hv fun b hb => by
    obtain ⟨c, hc⟩ := own_block hv hb
    exact Below.heap_setCell _ _ _ _ (ne_of_type hc h.qB (by decide))
  refine ⟨?_, ?_, fun e he => ?_, fun e f b he hf h1 h2 => ?_, ?_, ?_, h.rl⟩
  · rw [Below.heap_setCell _ _ _ _ (ne_of_type h.sB h.qB (by decide))]; exact h.sB
  · rw [heap_setCell_self _ h.qB]
    match d, hd with
    | 0, _ => rfl
    | 1, _ => rfl
    | 2, _ => rfl
  · by_cases hed : e = d
    · subst hed; rw [upd_same, upd_same]; exact keep ho
    · rw [upd_other qv v hed, upd_other qs q hed]; exact keep (h.oB e he)
  · by_cases hed : e = d
    · by_cases hfd : f = d
      · omega
      · subst hed
        rw [upd_same] at h1
        rw [upd_other qv v hfd] at h2
        exact absurd h2 (hnew b f h1 hf hfd)
    · by_cases hfd : f = d
      · subst hfd
        rw [upd_same] at h2
        rw [upd_other qv v hed] at h1
        exact absurd h1 (hnew b e h2 he hed)
      · rw [upd_other qv v hed] at h1
        rw [upd_other qv v hfd] at h2
        exact h.dis e f b he hf h1 h2
  · rw [Below.heap_setCell _ _ _ _ (ne_of_type h.pB h.qB (by decide))]; exact h.pB
  · rw [Below.heap_setCell _ _ _ _ (ne_of_type h.rB h.qB (by decide))]; exact h.rB
theorem own0 {w : World} {B : Nat} {e : TypeId} {size : Nat} {v : Value} {n : Nat} {xs : List Value} (h : w.ownsRow B e size v n xs) : w.ownsRow 0 e size v n xs := by
  refine ⟨h.1, ?_⟩
  rcases h.2 with h2 | ⟨g, cap, cur, hv, _, r⟩
  · exact .inl h2
  · exact .inr ⟨g, cap, cur, hv, Nat.zero_le _, r⟩
theorem own_base {w : World} {B : Nat} {e : TypeId} {size : Nat} {v : Value} {n : Nat} {xs : List Value} (h : w.ownsRow 0 e size v n xs) (hB : ∀ b, v.ownBlock = some b → B ≤ b) : w.ownsRow B e size v n xs := by
  refine ⟨h.1, ?_⟩
  rcases h.2 with h2 | ⟨g, cap, cur, rfl, _, r⟩
  · exact .inl h2
  · exact .inr ⟨g, cap, cur, rfl, hB g rfl, r⟩
/-- An append onto what the call itself made. -/
theorem appended_below {w0 W w' : World} {B : Nat} {e : TypeId} {size n m : Nat} {v v' : Value} {xs ys : List Value} (hb : Below B w0 W) (hB : B ≤ W.heap.size) (hv : W.ownsRow B e size v n xs) (ho : w'.ownsRow 0 e size v' (n + m) ys) (ha : Appended W w' v n m v') :
    Below B w0 w' ∧ w'.ownsRow B e size v' (n + m) ys := by
  rcases ha with ⟨g, cap, h1, h2, hg⟩ | ⟨hnew, hg⟩
  · have hgB : B ≤ g := (ownsRow_lies hv (k := g) (by rw [h1]; rfl)).1
    refine ⟨hb.grown hg hB fun k hk => by cases hk; exact hgB, own_base ho fun b hb' => ?_⟩
    rw [h2] at hb'
    cases hb'
    exact hgB
  · exact ⟨hb.grown hg hB fun k hk => (by cases hk), own_base ho fun b hb' => Nat.le_trans hB (hnew b hb')⟩
theorem keepsM_run {id num : Int} {m : Msg} (h : ¬ m.run = id) : keepsM id num m = true := by unfold keepsM; simp [h]
theorem keepsM_all {id num : Int} {m : Msg} (h : m.run = id) (h0 : num = 0) : keepsM id num m = false := by unfold keepsM; simp [h, h0]
theorem keepsM_one {id num : Int} {m : Msg} (h : m.run = id) (h1 : m.num = num) : keepsM id num m = false := by unfold keepsM; simp [h, h1]
theorem keepsM_other {id num : Int} {m : Msg} (h0 : ¬ num = 0) (h1 : ¬ m.num = num) : keepsM id num m = true := by unfold keepsM; simp [h0, h1]
set_option maxRecDepth 20000 in
set_option maxHeartbeats 4000000 in
theorem s_take (S Q P R : Nat) (cv : Md) (pv : Value) (rec : ByteArray) (now last : Int) (qv : Nat → Value) (qs : Nat → List Msg) (p : Pr) (num : Int) (d : Nat) (w : World) (h : SimCore w S Q P R cv pv rec now last qv qs p) (hd : d < 3) (hdev : p.dev = (d : Nat)) (hl : (qs d).length ≤ 4) :
    Calls Try.prog 128 #[.pointer (some ⟨S, 0, none⟩), .pointer (some ⟨P, 0, none⟩), .int .i64 num] w fun e w' => e = .returned (.tuple #[]) ∧
      ∃ v, SimCore w' S Q P R cv pv rec now last (upd qv d v) (upd qs d (takeQ (qs d) p.id num)) p ∧ (∀ b, v.ownBlock = some b → w.heap.size ≤ b) ∧ Fr (fun k => k = Q) w w' := by
  obtain ⟨a, cap, hv⟩ := ownsRow_slice (h.oB d hd)
  have c6 : w.cell? ⟨S, 6, none⟩ = some (.slice (some ⟨Q, 0, none⟩) 3 3) := (cell_of_heap h.sB).trans rfl
  have cq : w.cell? ⟨Q, d, none⟩ = some (.slice a (qs d).length cap) := by rw [cell_of_heap h.qB, three qv d hd, hv]
  have p0 : w.cell? ⟨P, 0, none⟩ = some (.int .i64 p.id) := (cell_of_heap h.pB).trans rfl
  have p1 : w.cell? ⟨P, 1, none⟩ = some (.int .i64 (d : Nat)) := by rw [← hdev]; exact (cell_of_heap h.pB).trans rfl
  have HO : Hid (w.ownsRow 0 83 4 (.slice a (qs d).length cap) (qs d).length (msgsCells (qs d))) := by rw [← hv]; exact h.oB d hd
  have HH : Hid (SimCore w S Q P R cv pv rec now last qv qs p) := h
  have HLT : Hid (S < w.heap.size ∧ Q < w.heap.size ∧ P < w.heap.size) := ⟨heap_lt h.sB, heap_lt h.qB, heap_lt h.pB⟩
  clear h hv hdev
  obtain ⟨q, hq⟩ : ∃ q, q = qs d := ⟨_, rfl⟩
  rw [← hq] at cq HO hl ⊢
  have HQ : Hid (q = qs d) := hq
  clear hq
  go_enter Try.func128, Try.ntmps128
  go_wp2_with fail
  go_loopw [7, 8] (fun v i wr => ∃ k : Nat, k ≤ q.length ∧ i = .int .i64 k ∧ Hid (wr.ownsRow w.heap.size 83 4 v ((q.take k).filter (keepsM p.id num)).length (msgsCells ((q.take k).filter (keepsM p.id num)))) ∧ Hid (Below w.heap.size w wr)) (fun _ i _ => q.length - (intOf i).toNat)
  case atStart => exact ⟨0, Nat.zero_le _, rfl, World.ownsRow_nil _ _ _ _, Below.refl _ _⟩
  case round =>
    obtain ⟨k, hk, rfl, HV, HB⟩ := hrel
    rw [← HB.out.cell (p := ⟨S, 6, none⟩) HLT.out.1] at c6
    rw [← HB.out.cell (p := ⟨Q, d, none⟩) HLT.out.2.1] at cq
    rw [← HB.out.cell (p := ⟨P, 0, none⟩) HLT.out.2.2] at p0
    rw [← HB.out.cell (p := ⟨P, 1, none⟩) HLT.out.2.2] at p1
    obtain ⟨F, hF⟩ : ∃ F, F = (q.take k).filter (keepsM p.id num) := ⟨_, rfl⟩
    rw [← hF] at HV
    have hFl : F.length ≤ 4 := by rw [hF]; have := List.length_filter_le (keepsM p.id num) (q.take k); simp at this; omega
    by_cases hlt : k < q.length
    · have HKEEP : Hid (keepsM p.id num q[k] = true → (q.take (k + 1)).filter (keepsM p.id num) = F ++ [q[k]]) := fun h => by
        rw [List.take_succ_eq_append_getElem hlt, List.filter_append, ← hF]; simp [h]
      have HDROP : Hid (keepsM p.id num q[k] = false → (q.take (k + 1)).filter (keepsM p.id num) = F) := fun h => by
        rw [List.take_succ_eq_append_getElem hlt, List.filter_append, ← hF]; simp [h]
      obtain ⟨g, cap', hv, _, hgl⟩ := HO.out.form (by omega)
      simp at hv
      obtain ⟨rfl, rfl⟩ := hv
      obtain ⟨e0, e1, e2, e3⟩ := msg_get HO.out hlt
      rw [← HB.out.cell (p := ⟨g, k * 4, none⟩) hgl] at e0
      rw [← HB.out.cell (p := ⟨g, k * 4 + 1, none⟩) hgl] at e1
      rw [← HB.out.cell (p := ⟨g, k * 4 + 2, none⟩) hgl] at e2
      rw [← HB.out.cell (p := ⟨g, k * 4 + 3, none⟩) hgl] at e3
      have hPl : P < wr.heap.size := Nat.lt_of_lt_of_le HLT.out.2.2 HB.out.size
      clear hF hgl
      generalize q[k] = m at *
      by_cases hr : m.run = p.id
      · have b1 : (m.run != p.id) = false := by simpa using hr
        by_cases h0 : num = 0
        · have b2 : (num != 0) = false := by simpa using h0
          have HE : Hid ((q.take (k + 1)).filter (keepsM p.id num) = F) := HDROP.out (keepsM_all hr h0)
          clear hr h0 HKEEP HDROP
          go_wp2_with fail
          go_region
          all_goals
            go_wp2_with fail
            go_roundw
            case rel => exact ⟨k + 1, by omega, by go_num, by rw [HE.out]; exact HV.out.alloc _, (HB.out.alloc HB.out.size _).drew⟩
            case measure => simp [intOf]; omega
        · have b2 : (num != 0) = true := by simpa using h0
          by_cases h1 : m.num = num
          · have b3 : (m.num != num) = false := by simpa using h1
            have HE : Hid ((q.take (k + 1)).filter (keepsM p.id num) = F) := HDROP.out (keepsM_one hr h1)
            clear hr h0 h1 HKEEP HDROP
            go_wp2_with fail
            go_region
            all_goals
              go_wp2_with fail
              go_roundw
              case rel => exact ⟨k + 1, by omega, by go_num, by rw [HE.out]; exact HV.out.alloc _, (HB.out.alloc HB.out.size _).drew⟩
              case measure => simp [intOf]; omega
          · have b3 : (m.num != num) = true := by simpa using h1
            have HE : Hid ((q.take (k + 1)).filter (keepsM p.id num) = F ++ [m]) := HKEEP.out (keepsM_other h0 h1)
            clear hr h0 h1 HKEEP HDROP
            go_wp2_with fail
            go_region
            all_goals
              go_wp2_with (at_builtin; refine wpList_append_keep _ rfl (.tmp 55) (.tmp 57) 66 rfl 83 _ 4 32 Try.underlying66 Try.infoMsg rfl (by decide) (by decide) u7 F.length 1 (msgsCells F) (wr.heap.size + 1) [.int .i64 m.dev, .int .i64 m.run, .int .i64 m.num, .int .i64 m.key] (by rfl) (by exact ((own0 HV.out).alloc _).alloc _) (by exact heap_alloc2 _ _ _) (by rfl) rfl (by simp [Value.oneCell']) (by decide) (by omega) ?_)
              intro v2 w2 hown2 ha2
              have hab := appended_below (w0 := w) (B := w.heap.size) ((HB.out.alloc HB.out.size _).alloc (by have := HB.out.size; simp; omega) _).drew (by have := HB.out.size; simp; omega) ((HV.out.alloc _).alloc _) hown2 ha2
              replace hown2 := hab.2
              have HV2 : Hid (w2.ownsRow w.heap.size 83 4 v2 ((q.take (k + 1)).filter (keepsM p.id num)).length (msgsCells ((q.take (k + 1)).filter (keepsM p.id num)))) := by
                rw [HE.out, msgsCells_snoc, List.length_append]; exact hown2
              have HB2 : Hid (Below w.heap.size w w2) := hab.1
              clear hown2 ha2 hab
              go_wp2_with fail
              go_roundw
              case rel => exact ⟨k + 1, by omega, by go_num, HV2, HB2⟩
              case measure => simp [intOf]; omega
      · have b1 : (m.run != p.id) = true := by simpa using hr
        have HE : Hid ((q.take (k + 1)).filter (keepsM p.id num) = F ++ [m]) := HKEEP.out (keepsM_run hr)
        clear hr HKEEP HDROP
        go_wp2_with fail
        go_region
        all_goals
          go_wp2_with (at_builtin; refine wpList_append_keep _ rfl (.tmp 55) (.tmp 57) 66 rfl 83 _ 4 32 Try.underlying66 Try.infoMsg rfl (by decide) (by decide) u7 F.length 1 (msgsCells F) (wr.heap.size + 1) [.int .i64 m.dev, .int .i64 m.run, .int .i64 m.num, .int .i64 m.key] (by rfl) (by exact ((own0 HV.out).alloc _).alloc _) (by exact heap_alloc2 _ _ _) (by rfl) rfl (by simp [Value.oneCell']) (by decide) (by omega) ?_)
          intro v2 w2 hown2 ha2
          have hab := appended_below (w0 := w) (B := w.heap.size) ((HB.out.alloc HB.out.size _).alloc (by have := HB.out.size; simp; omega) _).drew (by have := HB.out.size; simp; omega) ((HV.out.alloc _).alloc _) hown2 ha2
          replace hown2 := hab.2
          have HV2 : Hid (w2.ownsRow w.heap.size 83 4 v2 ((q.take (k + 1)).filter (keepsM p.id num)).length (msgsCells ((q.take (k + 1)).filter (keepsM p.id num)))) := by
            rw [HE.out, msgsCells_snoc, List.length_append]; exact hown2
          have HB2 : Hid (Below w.heap.size w w2) := hab.1
          clear hown2 ha2 hab
          go_wp2_with fail
          go_roundw
          case rel => exact ⟨k + 1, by omega, by go_num, HV2, HB2⟩
          case measure => simp [intOf]; omega
    · have HE : Hid (F = takeQ q p.id num) := by show _ = _; rw [hF, List.take_of_length_le (by omega)]; rfl
      have z : wr.frozen? ⟨Q, d, none⟩ = false := free_of_heap ((HH.out.below HB.out).qB)
      clear hF
      obtain ⟨av, cv2, hvv⟩ := ownsRow_slice HV.out
      subst hvv
      go_wp2_with fail
      go_end0
      refine ⟨rfl, _, ?_, fun b hb => (ownsRow_lies HV.out hb).1, ?_⟩
      · rw [← HE.out]
        refine (HH.out.below HB.out).setQ d hd _ F (own0 HV.out) (fun b e hb he hne hh => ?_)
        have h1 := (ownsRow_lies HV.out hb).1
        obtain ⟨c, hc⟩ := own_block (HH.out.oB e he) hh
        have := heap_lt hc
        omega
      · exact ((Fr.of_below HB.out).mono (T := fun k => k = Q) fun j hj hs => by omega).setCell ⟨Q, d, none⟩ (Or.inl rfl) _
end Go.Proofs.Ytmmmnghiegajmaa
/- The document's own herald: a run sends a key. -/
namespace Go.Proofs.Ytmmmnghiegajmaa
open Go.RowKit Go.Proofs.Herald
theorem upd_self {α : Type} (f : Nat → α) (d : Nat) : upd f d (f d) = f := by
  funext k
  by_cases h : k = d
  · subst h; exact upd_same f k _
  · exact upd_other f _ h
theorem msgsCells_split (q : List Msg) (k : Nat) (h : k < q.length) : msgsCells q = msgsCells (q.take k) ++ .int .i64 q[k].dev :: .int .i64 q[k].run :: .int .i64 q[k].num :: .int .i64 q[k].key :: msgsCells (q.drop (k + 1)) := by
  unfold msgsCells
  have h2 : k < (q.map Msg.ins).length := by simpa using h
  rw [codeCells_split (q.map Msg.ins) k h2, List.getElem_map, ← List.map_take, ← List.map_drop]
  rfl
theorem msgsCells_set (q : List Msg) (k : Nat) (h : k < q.length) (m : Msg) : msgsCells (q.set k m) = msgsCells (q.take k) ++ [.int .i64 m.dev, .int .i64 m.run, .int .i64 m.num, .int .i64 m.key] ++ msgsCells (q.drop (k + 1)) := by
  have e : q.set k m = q.take k ++ m :: q.drop (k + 1) := List.set_eq_take_append_cons_drop.trans (if_pos h)
  rw [e]
  unfold msgsCells
  rw [List.map_append, codeCells_append, List.append_assoc]
  rfl
/-- A message is written over another. -/
theorem SimCore.put4 {w : World} {S Q P R : Nat} {cv : Md} {pv : Value} {rec : ByteArray} {now last : Int} {qv : Nat → Value} {qs : Nat → List Msg} {p : Pr} (h : SimCore w S Q P R cv pv rec now last qv qs p) (d : Nat) (hd : d < 3) {g cap : Nat} (hv : qv d = .slice (some ⟨g, 0, none⟩) (qs d).length cap) (k : Nat) (hk : k < (qs d).length) (m : Msg) :
    SimCore ((((w.setCell ⟨g, k * 4, none⟩ (.int .i64 m.dev)).setCell ⟨g, k * 4 + 1, none⟩ (.int .i64 m.run)).setCell ⟨g, k * 4 + 2, none⟩ (.int .i64 m.num)).setCell ⟨g, k * 4 + 3, none⟩ (.int .i64 m.key)) S Q P R cv pv rec now last qv (upd qs d ((qs d).set k m)) p := by
  have hod := h.oB d hd
  rw [hv] at hod
  obtain ⟨_, cur, hc⟩ := ownsRow_lies hod (k := g) rfl
  have same : ∀ {b : Nat} {o : Obj}, w.heap[b]? = some o → b ≠ g → ((((w.setCell ⟨g, k * 4, none⟩ (.int .i64 m.dev)).setCell ⟨g, k * 4 + 1, none⟩ (.int .i64 m.run)).setCell ⟨g, k * 4 + 2, none⟩ (.int .i64 m.num)).setCell ⟨g, k * 4 + 3, none⟩ (.int .i64 m.key)).heap[b]? = some o := fun {b o} hb hne => by
    rw [Below.heap_setCell _ _ _ _ hne, Below.heap_setCell _ _ _ _ hne, Below.heap_setCell _ _ _ _ hne, Below.heap_setCell _ _ _ _ hne]; exact hb
  refine ⟨same h.sB (ne_of_type h.sB hc (by decide)), same h.qB (ne_of_type h.qB hc (by decide)), fun e he => ?_, h.dis, same h.pB (ne_of_type h.pB hc (by decide)), same h.rB (ne_of_type h.rB hc (by decide)), h.rl⟩
  by_cases hed : e = d
  · subst hed
    rw [upd_same, hv, List.length_set, msgsCells_set _ k hk m]
    rw [msgsCells_split _ k hk] at hod
    exact own_set4 hod (by rw [msgsCells_length]; simp; omega) _ _ _ _
  · rw [upd_other qs _ hed]
    exact own_keep (h.oB e he) fun b hb => by
      obtain ⟨c, hcb⟩ := own_block (h.oB e he) hb
      rw [same hcb (fun hh => hed (h.dis e d b he hd hb (by rw [hv, hh]; rfl))), hcb]
/-- A message is put behind the others. -/
theorem SimCore.pushQ {w W w1 : World} {S Q P R : Nat} {cv : Md} {pv : Value} {rec : ByteArray} {now last : Int} {qv : Nat → Value} {qs : Nat → List Msg} {p : Pr} (h : SimCore w S Q P R cv pv rec now last qv qs p) (d : Nat) (hd : d < 3) (h0 : OneMore w W) {g cap : Nat} (m : Msg)
    (hown : w1.ownsRow 0 83 4 (.slice (some ⟨g, 0, none⟩) ((qs d).length + 1) cap) ((qs d).length + 1) (msgsCells (qs d) ++ [.int .i64 m.dev, .int .i64 m.run, .int .i64 m.num, .int .i64 m.key])) (hgrow : W.grownBy w1 (qv d).ownBlock) (hat : (qv d).ownBlock = some g ∨ g = W.heap.size) :
    SimCore (w1.setCell ⟨Q, d, none⟩ (.slice (some ⟨g, 0, none⟩) ((qs d).length + 1) cap)) S Q P R cv pv rec now last (upd qv d (.slice (some ⟨g, 0, none⟩) ((qs d).length + 1) cap)) (upd qs d (qs d ++ [m])) p ∧
      Fr (fun k => k = Q ∨ (qv d).ownBlock = some k) w (w1.setCell ⟨Q, d, none⟩ (.slice (some ⟨g, 0, none⟩) ((qs d).length + 1) cap)) := by
  have same : ∀ {b : Nat} {o : Obj}, w.heap[b]? = some o → (qv d).ownBlock ≠ some b → w1.heap[b]? = some o := fun {b o} hb hne => grown_block h0 hgrow hb hne
  have nt : ∀ {b : Nat} {c : Array Value} {e : TypeId}, w.heap[b]? = some (.cells c e (0, 0)) → e ≠ 83 → (qv d).ownBlock ≠ some b := fun {b c e} hb he hh => by
    obtain ⟨c2, hc2⟩ := own_block (h.oB d hd) hh
    exact ne_of_type hb hc2 he rfl
  have q1 := same h.qB (nt h.qB (by decide))
  have hgQ : g ≠ Q := by obtain ⟨c, hc⟩ := own_block hown (k := g) rfl; exact ne_of_type hc q1 (by decide)
  refine ⟨⟨?_, ?_, fun e he => ?_, fun e f b he hf h1 h2 => ?_, ?_, ?_, h.rl⟩, ?_⟩
  · rw [Below.heap_setCell _ _ _ _ (ne_of_type h.sB h.qB (by decide))]; exact same h.sB (nt h.sB (by decide))
  · rw [heap_setCell_self _ q1]
    match d, hd with
    | 0, _ => rfl
    | 1, _ => rfl
    | 2, _ => rfl
  · by_cases hed : e = d
    · subst hed
      rw [upd_same, upd_same, List.length_append, msgsCells_snoc]
      exact own_keep hown fun b hb => by
        simp [Value.ownBlock] at hb
        subst hb
        exact Below.heap_setCell _ _ _ _ hgQ
    · rw [upd_other qv _ hed, upd_other qs _ hed]
      exact own_keep (h.oB e he) fun b hb => by
        obtain ⟨c, hc⟩ := own_block (h.oB e he) hb
        rw [Below.heap_setCell _ _ _ _ (ne_of_type hc h.qB (by decide)), same hc (fun hh => hed (h.dis e d b he hd hb hh)), hc]
  · have gx : ∀ e, e < 3 → e ≠ d → (qv e).ownBlock ≠ some g := fun e he hed hh => by
      rcases hat with h3 | h3
      · exact hed (h.dis e d g he hd hh h3)
      · obtain ⟨c, hc⟩ := own_block (h.oB e he) hh
        have := heap_lt hc
        have := h0.size
        omega
    by_cases hed : e = d
    · by_cases hfd : f = d
      · omega
      · subst hed
        rw [upd_same] at h1
        rw [upd_other qv _ hfd] at h2
        simp [Value.ownBlock] at h1
        subst h1
        exact absurd h2 (gx f hf hfd)
    · by_cases hfd : f = d
      · subst hfd
        rw [upd_same] at h2
        rw [upd_other qv _ hed] at h1
        simp [Value.ownBlock] at h2
        subst h2
        exact absurd h1 (gx e he hed)
      · rw [upd_other qv _ hed] at h1
        rw [upd_other qv _ hfd] at h2
        exact h.dis e f b he hf h1 h2
  · rw [Below.heap_setCell _ _ _ _ (ne_of_type h.pB h.qB (by decide))]; exact same h.pB (nt h.pB (by decide))
  · rw [Below.heap_setCell _ _ _ _ (ne_of_type h.rB h.qB (by decide))]; exact same h.rB (nt h.rB (by decide))
  · exact (Fr.of_push (S := fun k => k = Q ∨ (qv d).ownBlock = some k) h0 hgrow fun k hk => Or.inr hk).setCell ⟨Q, d, none⟩ (Or.inl (Or.inl rfl)) _
set_option maxRecDepth 20000 in
set_option maxHeartbeats 8000000 in
theorem s_send (S Q P R : Nat) (cv : Md) (pv : Value) (rec : ByteArray) (now last : Int) (qv : Nat → Value) (qs : Nat → List Msg) (p : Pr) (key : Int) (d : Nat) (w : World) (h : SimCore w S Q P R cv pv rec now last qv qs p) (hd : d < 3) (hdev : p.dev = (d : Nat)) (hl : (qs d).length ≤ 4) (hs0 : 0 ≤ p.sent) (hs1 : p.sent ≤ 1000000000000000000) :
    Calls Try.prog 150 #[.pointer (some ⟨S, 0, none⟩), .pointer (some ⟨P, 0, none⟩), .int .i64 key] w fun e w' => e = .returned (.int .i64 (sendP (qs d) p key).2.2) ∧
      ∃ v, SimCore w' S Q P R cv pv rec now last (upd qv d v) (upd qs d (sendP (qs d) p key).1) (sendP (qs d) p key).2.1 ∧ (∀ b, v.ownBlock = some b → (qv d).ownBlock = some b ∨ w.heap.size ≤ b) ∧ Fr (fun k => k = P ∨ k = Q ∨ (qv d).ownBlock = some k) w w' := by
  obtain ⟨a, cap, hv⟩ := ownsRow_slice (h.oB d hd)
  have c6 : w.cell? ⟨S, 6, none⟩ = some (.slice (some ⟨Q, 0, none⟩) 3 3) := (cell_of_heap h.sB).trans rfl
  have cq : w.cell? ⟨Q, d, none⟩ = some (.slice a (qs d).length cap) := by rw [cell_of_heap h.qB, three qv d hd, hv]
  have p0 : w.cell? ⟨P, 0, none⟩ = some (.int .i64 p.id) := (cell_of_heap h.pB).trans rfl
  have p1 : w.cell? ⟨P, 1, none⟩ = some (.int .i64 (d : Nat)) := by rw [← hdev]; exact (cell_of_heap h.pB).trans rfl
  have p2 : w.cell? ⟨P, 2, none⟩ = some (.int .i64 p.sent) := (cell_of_heap h.pB).trans rfl
  have HH : Hid (SimCore w S Q P R cv pv rec now last qv qs p) := h
  have HV : Hid (qv d = .slice a (qs d).length cap) := hv
  have HDEV : Hid (p.dev = (d : Nat)) := hdev
  have HLT : Hid (S < w.heap.size ∧ Q < w.heap.size ∧ P < w.heap.size) := ⟨heap_lt h.sB, heap_lt h.qB, heap_lt h.pB⟩
  have hPl := heap_lt h.pB
  clear h hv hdev
  obtain ⟨q, hq⟩ : ∃ q, q = qs d := ⟨_, rfl⟩
  rw [← hq] at cq HV hl ⊢
  have HQ : Hid (q = qs d) := hq
  clear hq
  go_enter Try.func150, Try.ntmps150
  go_upto_region 2 with fail
  go_cut [8] (fun r wx => r = .pointer (some ⟨w.heap.size, 0, none⟩) ∧ Hid (wx.heap[w.heap.size]? = some (.cells #[.int .i64 (d : Nat), .int .i64 p.id, .int .i64 (p.sent + 1), .int .i64 key] 83 (0, 0)) ∧ Below w.heap.size w wx))
  case first =>
    go_region
    all_goals
      go_wp2_with fail
      go_meet
      case rel => exact ⟨rfl, heap_alloc_new _ _, ((Below.refl _ _).alloc (Nat.le_refl _) _).drew⟩
  case rest =>
    obtain ⟨rfl, HX⟩ := hcut
    clear c6 cq p0 p1 p2 hPl
    go_wp2_with fail
    go_loopw [9] (fun i wr => ∃ k : Nat, k ≤ q.length ∧ i = .int .i64 k ∧ Hid (∀ x ∈ q.take k, ¬ matchM ⟨p.dev, p.id, p.sent + 1, key⟩ x) ∧ Hid (wr.heap[w.heap.size]? = some (.cells #[.int .i64 (d : Nat), .int .i64 p.id, .int .i64 (p.sent + 1), .int .i64 key] 83 (0, 0)) ∧ Below w.heap.size w wr)) (fun i _ => q.length - (intOf i).toNat)
    case atStart => exact ⟨0, Nat.zero_le _, rfl, fun x hx => absurd hx (by simp), HX⟩
    case round =>
      obtain ⟨k, hk, rfl, HT, HR⟩ := hrel
      have HC : Hid (SimCore wr S Q P R cv pv rec now last qv qs p) := HH.out.below HR.out.2
      have c6 : wr.cell? ⟨S, 6, none⟩ = some (.slice (some ⟨Q, 0, none⟩) 3 3) := (cell_of_heap HC.out.sB).trans rfl
      have cq : wr.cell? ⟨Q, d, none⟩ = some (.slice a q.length cap) := by rw [cell_of_heap HC.out.qB, three qv d hd, HV.out]
      have p2 : wr.cell? ⟨P, 2, none⟩ = some (.int .i64 p.sent) := (cell_of_heap HC.out.pB).trans rfl
      have z2 : wr.frozen? ⟨P, 2, none⟩ = false := free_of_heap HC.out.pB
      obtain ⟨m0, m1, m2, m3⟩ := mark4 HR.out.1
      have hPl : P < wr.heap.size := heap_lt HC.out.pB
      have hMl : w.heap.size < wr.heap.size := heap_lt HR.out.1
      have hQl : Q < wr.heap.size := heap_lt HC.out.qB
      have hSl : S < wr.heap.size := heap_lt HC.out.sB
      by_cases hlt : k < q.length
      · have HO : Hid (wr.ownsRow 0 83 4 (.slice a q.length cap) q.length (msgsCells q)) := by rw [← HV.out, HQ.out]; exact HC.out.oB d hd
        obtain ⟨g, cap', hv, _, hgl⟩ := HO.out.form (by omega)
        simp at hv
        obtain ⟨rfl, rfl⟩ := hv
        obtain ⟨e0, e1, e2, e3⟩ := msg_get HO.out hlt
        obtain ⟨_, curg, hcg⟩ := ownsRow_lies HO.out (k := g) rfl
        have y0 : wr.frozen? ⟨g, k * 4, none⟩ = false := free_of_heap hcg
        have y1 : wr.frozen? ⟨g, k * 4 + 1, none⟩ = false := free_of_heap hcg
        have y2 : wr.frozen? ⟨g, k * 4 + 2, none⟩ = false := free_of_heap hcg
        have y3 : wr.frozen? ⟨g, k * 4 + 3, none⟩ = false := free_of_heap hcg
        have hPg : P ≠ g := ne_of_type HC.out.pB hcg (by decide)
        have hMg : w.heap.size ≠ g := fun e => by
          obtain ⟨_, cg0, hcg0⟩ := ownsRow_lies (HH.out.oB d hd) (k := g) (by rw [HV.out]; rfl)
          have := heap_lt hcg0
          omega
        have hPM : P ≠ w.heap.size := by have := HLT.out.2.2; omega
        by_cases hm : q[k].run = p.id ∧ q[k].key = key
        · have b1 : (q[k].run == p.id) = true := by simpa using hm.1
          have b2 : (q[k].key == key) = true := by simpa using hm.2
          have HSE : Hid (sendP q p key = (q.set k ⟨p.dev, p.id, p.sent + 1, key⟩, { p with sent := p.sent + 1 }, p.sent + 1)) := sendP_at hlt HT.out hm
          have HPUT : Hid (SimCore (((((wr.setCell ⟨g, k * 4, none⟩ (.int .i64 (d : Nat))).setCell ⟨g, k * 4 + 1, none⟩ (.int .i64 p.id)).setCell ⟨g, k * 4 + 2, none⟩ (.int .i64 (p.sent + 1))).setCell ⟨g, k * 4 + 3, none⟩ (.int .i64 key)).setCell ⟨P, 2, none⟩ (.int .i64 (p.sent + 1))) S Q P R cv pv rec now last (upd qv d (qv d)) (upd qs d (q.set k ⟨p.dev, p.id, p.sent + 1, key⟩)) { p with sent := p.sent + 1 }) := by
            have h1 := HC.out.put4 d hd (g := g) (cap := cap) (by rw [HV.out, HQ.out]) k (by rw [← HQ.out]; exact hlt) ⟨p.dev, p.id, p.sent + 1, key⟩
            rw [← HQ.out] at h1
            have e : Value.int .i64 (d : Nat) = Value.int .i64 p.dev := by rw [HDEV.out]
            rw [upd_self, e]
            exact h1.setP (p' := { p with sent := p.sent + 1 }) 2 _ rfl rfl
          have HFR : Hid (Fr (fun j => j = P ∨ j = Q ∨ (qv d).ownBlock = some j) w (((((wr.setCell ⟨g, k * 4, none⟩ (.int .i64 (d : Nat))).setCell ⟨g, k * 4 + 1, none⟩ (.int .i64 p.id)).setCell ⟨g, k * 4 + 2, none⟩ (.int .i64 (p.sent + 1))).setCell ⟨g, k * 4 + 3, none⟩ (.int .i64 key)).setCell ⟨P, 2, none⟩ (.int .i64 (p.sent + 1)))) := by
            have f0 : Fr (fun j => j = P ∨ j = Q ∨ (qv d).ownBlock = some j) w wr := (Fr.of_below HR.out.2).mono fun j hj hs => by omega
            have hgS : g = P ∨ g = Q ∨ (qv d).ownBlock = some g := Or.inr (Or.inr (by rw [HV.out]; rfl))
            exact ((((f0.setCell ⟨g, k * 4, none⟩ (Or.inl hgS) _).setCell ⟨g, k * 4 + 1, none⟩ (Or.inl hgS) _).setCell ⟨g, k * 4 + 2, none⟩ (Or.inl hgS) _).setCell ⟨g, k * 4 + 3, none⟩ (Or.inl hgS) _).setCell ⟨P, 2, none⟩ (Or.inl (Or.inl rfl)) _
          clear hm hcg
          generalize q[k] = x at *
          go_wp2_with fail
          go_region
          all_goals
            go_wp2_with fail
            go_ret
            rw [HSE.out]
            exact ⟨rfl, qv d, HPUT.out.below ((Below.refl _ _).alloc (Nat.le_refl _) _).drew, fun b hb => Or.inl hb, (HFR.out.alloc _).drew⟩
        · have HT2 : Hid (∀ x ∈ q.take (k + 1), ¬ matchM ⟨p.dev, p.id, p.sent + 1, key⟩ x) := by
            intro x hx
            rw [List.take_succ_eq_append_getElem hlt, List.mem_append, List.mem_singleton] at hx
            rcases hx with hx | rfl
            · exact HT.out x hx
            · exact hm
          have HRA : Hid (∀ o, (wr.alloc o).heap[w.heap.size]? = some (.cells #[.int .i64 (d : Nat), .int .i64 p.id, .int .i64 (p.sent + 1), .int .i64 key] 83 (0, 0)) ∧ Below w.heap.size w (wr.alloc o)) := fun o => ⟨by rw [Below.heap_alloc _ _ _ hMl]; exact HR.out.1, HR.out.2.alloc HR.out.2.size _⟩
          clear hcg
          by_cases hr : q[k].run = p.id
          · have b1 : (q[k].run == p.id) = true := by simpa using hr
            have b2 : (q[k].key == key) = false := by simpa using (fun h => hm ⟨hr, h⟩)
            clear hm hr
            generalize q[k] = x at *
            go_wp2_with fail
            go_roundw
            case rel => exact ⟨k + 1, by omega, by go_num, HT2, HRA.out _⟩
            case measure => simp [intOf]; omega
          · have b1 : (q[k].run == p.id) = false := by simpa using hr
            clear hm hr
            generalize q[k] = x at *
            go_wp2_with fail
            go_roundw
            case rel => exact ⟨k + 1, by omega, by go_num, HT2, HRA.out _⟩
            case measure => simp [intOf]; omega
      · have HALL : Hid (∀ x ∈ q, ¬ matchM ⟨p.dev, p.id, p.sent + 1, key⟩ x) := by
          have h := HT.out
          rw [List.take_of_length_le (by omega)] at h
          exact h
        by_cases hfull : 4 ≤ q.length
        · have HSE : Hid (sendP q p key = (q, p, 0)) := sendP_full HALL.out hfull
          go_wp2_with fail
          go_ret
          rw [HSE.out]
          refine ⟨rfl, qv d, ?_, fun b hb => Or.inl hb, (Fr.of_below HR.out.2).mono fun j hj hs => by omega⟩
          rw [HQ.out, upd_self, upd_self]; exact HC.out
        · have HSE : Hid (sendP q p key = (q ++ [⟨p.dev, p.id, p.sent + 1, key⟩], { p with sent := p.sent + 1 }, p.sent + 1)) := sendP_new HALL.out hfull
          have hPM : P ≠ w.heap.size := by have := HLT.out.2.2; omega
          have hQP : Q ≠ P := ne_of_type HC.out.qB HC.out.pB (by decide)
          have hQM : Q ≠ w.heap.size := by have := HLT.out.2.1; omega
          have hdi : (d : Int) < 3 := by omega
          go_upto_region 13 with fail
          have zq : wr.frozen? ⟨Q, d, none⟩ = false := free_of_heap HC.out.qB
          have HNT : Hid (∀ {b : Nat} {c : Array Value} {e : TypeId}, wr.heap[b]? = some (.cells c e (0, 0)) → e ≠ 83 → (Value.slice a q.length cap).ownBlock ≠ some b) := fun {b c e} hb he hh => by
            obtain ⟨c2, hc2⟩ := own_block (HC.out.oB d hd) (k := b) (by rw [HV.out]; exact hh)
            exact ne_of_type hb hc2 he rfl
          have HMN : Hid ((Value.slice a q.length cap).ownBlock ≠ some w.heap.size) := fun hh => by
            obtain ⟨c2, hc2⟩ := own_block (HH.out.oB d hd) (k := w.heap.size) (by rw [HV.out]; exact hh)
            have := heap_lt hc2
            omega
          go_cut [0] (fun r wx => r = .pointer (some ⟨S, 0, none⟩) ∧ Hid (∃ v, SimCore wx S Q P R cv pv rec now last (upd qv d v) (upd qs d (q ++ [⟨p.dev, p.id, p.sent + 1, key⟩])) p ∧ (∀ b, v.ownBlock = some b → (qv d).ownBlock = some b ∨ w.heap.size ≤ b) ∧ Fr (fun j => j = P ∨ j = Q ∨ (qv d).ownBlock = some j) w wx ∧ wx.heap[w.heap.size]? = some (.cells #[.int .i64 (d : Nat), .int .i64 p.id, .int .i64 (p.sent + 1), .int .i64 key] 83 (0, 0))))
          case first =>
            go_region_law (refine step_push2 _ rfl (.tmp 104) (.tmp 106) 66 rfl 83 _ 4 32 Try.underlying66 Try.infoMsg rfl (by decide) (by decide) (.slice a q.length cap) q.length (msgsCells q) wr.heap.size [.int .i64 (d : Nat), .int .i64 p.id, .int .i64 (p.sent + 1), .int .i64 key] (by rfl) (by exact ((by rw [← HV.out, HQ.out]; exact HC.out.oB d hd : wr.ownsRow 0 83 4 (.slice a q.length cap) q.length (msgsCells q))).alloc _) (by exact heap_alloc_new _ _) (by rfl) rfl (by simp [Value.oneCell']) (by omega) ?_; intro g1 cap1 w1 hown1 hgrow hat hlt1; have hq1 : w1.cell? ⟨Q, d, none⟩ = some (.slice a q.length cap) := (World.cell?_of_block (a := ⟨Q, d, none⟩) ((grown_block (OneMore.alloc _ _).drew hgrow HC.out.qB (HNT.out HC.out.qB (by decide))).trans HC.out.qB.symm)).trans cq; have hs1 : w1.cell? ⟨S, 6, none⟩ = some (.slice (some ⟨Q, 0, none⟩) 3 3) := (cell_of_heap (grown_block (OneMore.alloc _ _).drew hgrow HC.out.sB (HNT.out HC.out.sB (by decide)))).trans rfl; have hf1 : w1.frozen? ⟨Q, d, none⟩ = false := free_of_heap (grown_block (OneMore.alloc _ _).drew hgrow HC.out.qB (HNT.out HC.out.qB (by decide))))
            all_goals
              go_wp2_with fail
              go_meet
              case rel =>
                have hpu := HC.out.pushQ d hd (OneMore.alloc _ _).drew ⟨p.dev, p.id, p.sent + 1, key⟩ (g := g1) (cap := cap1) (by rw [← HQ.out, HDEV.out]; exact hown1) (by rw [HV.out]; exact hgrow) (by rw [HV.out]; exact hat)
                rw [← HQ.out] at hpu
                have hM1 := grown_block (OneMore.alloc _ _).drew hgrow HR.out.1 HMN.out
                have f0 : Fr (fun j => j = P ∨ j = Q ∨ (qv d).ownBlock = some j) w wr := (Fr.of_below HR.out.2).mono fun j hj hs => by omega
                refine ⟨rfl, .slice (some ⟨g1, 0, none⟩) (q.length + 1) cap1, hpu.1, fun b hb => ?_, f0.trans (hpu.2.mono fun j _ hj => Or.inr hj), ?_⟩
                · simp [Value.ownBlock] at hb
                  subst hb
                  rcases hat with h | h
                  · exact Or.inl (by rw [HV.out]; exact h)
                  · exact Or.inr (by rw [h]; simp; omega)
                · show (w1.setCell _ _).heap[w.heap.size]? = _
                  rw [Below.heap_setCell _ _ _ _ (fun e => hQM e.symm)]; exact hM1
          case rest =>
            obtain ⟨rfl, HX2⟩ := hcut
            obtain ⟨v, hv1, hv2, hv3, hv4⟩ := HX2.out
            have w2 : wc.cell? ⟨P, 2, none⟩ = some (.int .i64 p.sent) := (cell_of_heap hv1.pB).trans rfl
            have x2 : wc.frozen? ⟨P, 2, none⟩ = false := free_of_heap hv1.pB
            obtain ⟨n0, n1, n2, n3⟩ := mark4 hv4
            have HV1 : Hid (_ ∧ _ ∧ _) := ⟨hv1, hv2, hv3⟩
            clear hv1 hv2 hv3 hv4 HX2 c6 cq p2 z2 zq m0 m1 m2 m3 hMl hQl hSl hPl
            go_wp2_with fail
            go_ret
            rw [HSE.out]
            exact ⟨rfl, v, HV1.out.1.setP (p' := { p with sent := p.sent + 1 }) 2 _ rfl rfl, HV1.out.2.1, HV1.out.2.2.setCell ⟨P, 2, none⟩ (Or.inl (Or.inl rfl)) _⟩
end Go.Proofs.Ytmmmnghiegajmaa
