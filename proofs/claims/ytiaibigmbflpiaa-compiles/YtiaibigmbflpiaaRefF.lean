/- The acceptor's method read: one word more. -/
import Derived.Test.YtiaibigmbflpiaaRefE
namespace Go.Proofs.Ytiaibigmbflpiaa
open Go.RowKit Go.Proofs.Herald

/-- What must come next is struck: the list is cut by one. -/
theorem FormAt.popWant {t : ByteArray} {w : World} {F : Nat} {S : Nat → Prop} {ev nv sv : Value} {st : FSt} {g cap : Nat} {m : Int} {r : List Int} (hf : FormAt t w F S (.slice (some ⟨g, 0, none⟩) (r.length + 1) cap) ev nv sv st) (he : st.want = m :: r) :
    FormAt t (w.setCell ⟨F, 0, none⟩ (.slice (some ⟨g, 0, none⟩) r.length cap)) F S (.slice (some ⟨g, 0, none⟩) r.length cap) ev nv sv { st with want := r } := by
  have other : ∀ k, k ≠ F → (w.setCell ⟨F, 0, none⟩ (.slice (some ⟨g, 0, none⟩) r.length cap)).heap[k]? = w.heap[k]? := fun k hk => Below.heap_setCell _ _ _ _ hk
  have own : ∀ {e : TypeId} {sz : Nat} {v : Value} {n : Nat} {xs : List Value}, e ≠ 154 → w.ownsRow 0 e sz v n xs → (w.setCell ⟨F, 0, none⟩ (.slice (some ⟨g, 0, none⟩) r.length cap)).ownsRow 0 e sz v n xs := fun he ho =>
    own_keep ho (fun k hk => by obtain ⟨c, hc⟩ := own_block ho hk; exact other k (ne_of_type hc hf.blk he))
  have hel := own (by decide) hf.want
  refine ⟨by rw [heap_setCell_self _ hf.blk]; rfl, hf.inF, ?_, own (by decide) hf.elses, own (by decide) hf.nums, own (by decide) hf.sorts, hf.wS, hf.eS, hf.nS, hf.sS, hf.apart⟩
  refine ⟨by simp [intCells], .inr ?_⟩
  rcases hel.2 with ⟨h1, _⟩ | ⟨g', cap', cur, hv, hb, hg, hn, hm, hs, ht⟩
  · cases h1
  · simp at hv
    obtain ⟨rfl, h2, rfl⟩ := hv
    rw [he] at hn ht
    refine ⟨g, cap, cur, rfl, hb, hg, by show r.length ≤ _; simp at hn; omega, hm, hs, ?_⟩
    simp only [Nat.mul_one] at ht ⊢
    have : cur.toList.take r.length = (cur.toList.take (m :: r).length).take r.length := by rw [List.take_take]; congr 1; simp
    rw [this, ht]
    simp [intCells]

/-- What the first steps of read look at: the record's first field, and its last number. -/
theorem FormAt.top {t : ByteArray} {w : World} {F : Nat} {S : Nat → Prop} {wv ev nv sv : Value} {st : FSt} {m : Int} {r : List Int} (hf : FormAt t w F S wv ev nv sv st) (he : st.want = m :: r) :
    ∃ g cap, wv = .slice (some ⟨g, 0, none⟩) (r.length + 1) cap ∧ w.cell? ⟨g, r.length, none⟩ = some (.int .i64 m) ∧ r.length + 1 ≤ cap ∧ g < w.heap.size := by
  obtain ⟨g, cap, hv, _, hlt⟩ := hf.want.form (by rw [he]; simp)
  have hv' : wv = .slice (some ⟨g, 0, none⟩) (r.length + 1) cap := by rw [hv, he]; rfl
  refine ⟨g, cap, hv', own_cell hf.want hv (by rw [he]; simp [intCells]), ?_, hlt⟩
  rw [hv'] at hf
  exact (own_cap hf.want).1

set_option maxHeartbeats 1000000 in
theorem read_first (t s : ByteArray) (F : Nat) (at0 : Int) (S : Nat → Prop) (wv ev nv sv : Value) (st : FSt) (w : World) (hf : FormAt t w F S wv ev nv sv st) (hS : ∀ k, w.heap.size ≤ k → S k) (hlen : st.elses.length ≤ 1000)
    (m : Int) (r : List Int) (he : st.want = m :: r) (hr : r.length ≤ 10) (hm : m = 0 ∨ m = 1) :
    Calls Try.prog 72 #[.pointer (some ⟨F, 0, none⟩), .agg #[.string s, .int .i64 at0]] w fun e w' => e = .returned (.bool (firstF s.data.toList m st).2) ∧
      ((firstF s.data.toList m st).2 = true → ∃ wv' ev', FormAt t w' F S wv' ev' nv sv (firstF s.data.toList m st).1) ∧ Fr S w w' := by
  obtain ⟨g, cap, rfl, hg, hcp, hgl⟩ := hf.top he
  have hc1 : w.cell? ⟨F, 0, none⟩ = some (.slice (some ⟨g, 0, none⟩) (r.length + 1) cap) := (cell_of_heap hf.blk).trans rfl
  have hFl := heap_lt hf.blk
  clear he
  rcases hm with rfl | rfl
  all_goals
    go_enter Try.func72, Try.ntmps72
    go_wp2
    go_region
    go_wp2_with fail
    refine (first_any t s F at0 _ S (.slice (some ⟨g, 0, none⟩) (r.length + 1) cap) ev nv sv st _ ?_ ?_ hlen).mono ?_
    · exact (hf.alloc _).drew
    · intro k hk; exact hS k (by simp at hk; omega)
    rintro e w1 ⟨rfl, h1, hF1⟩
    go_wp2
    go_ret
    exact ⟨rfl, h1, (((Fr.refl S w).alloc _).drew).trans hF1⟩

set_option maxHeartbeats 1000000 in
theorem read_brace (t s : ByteArray) (F : Nat) (at0 : Int) (S : Nat → Prop) (wv ev nv sv : Value) (st : FSt) (w : World) (hf : FormAt t w F S wv ev nv sv st) (hS : ∀ k, w.heap.size ≤ k → S k) (hlen : st.elses.length ≤ 1000)
    (r : List Int) (he : st.want = 6 :: r) (hr : r.length ≤ 10) :
    Calls Try.prog 72 #[.pointer (some ⟨F, 0, none⟩), .agg #[.string s, .int .i64 at0]] w fun e w' => e = .returned (.bool (s.data.toList == kOpen)) ∧
      (∃ wv' ev', FormAt t w' F S wv' ev' nv sv { st with elses := st.next :: st.elses, want := [0] }) ∧ Fr S w w' := by
  obtain ⟨g, cap, rfl, hg, hcp, hgl⟩ := hf.top he
  have hc1 : w.cell? ⟨F, 0, none⟩ = some (.slice (some ⟨g, 0, none⟩) (r.length + 1) cap) := (cell_of_heap hf.blk).trans rfl
  have hFl := heap_lt hf.blk
  have hc2 : w.cell? ⟨F, 1, none⟩ = some ev := (cell_of_heap hf.blk).trans rfl
  have hc3 : w.cell? ⟨F, 2, none⟩ = some (.bool st.next) := (cell_of_heap hf.blk).trans rfl
  have HV : Hid (ev.ownBlock ≠ some F) := fun e => by obtain ⟨cur, hc⟩ := own_block hf.elses e; exact ne_of_type hc hf.blk (by decide) rfl
  have HF : Hid (FormAt t (w.alloc (.cells #[.string s, .int .i64 at0] 157)) F (fun k => S k ∧ k ≠ w.heap.size) (.slice (some ⟨g, 0, none⟩) (r.length + 1) cap) ev nv sv st) := (hf.guard _ (Nat.le_refl _)).alloc _
  have hsz : (w.alloc (.cells #[.string s, .int .i64 at0] 157)).heap.size = w.heap.size + 1 := by simp
  have HB : Hid ((w.alloc (.cells #[.string s, .int .i64 at0] 157)).heap[w.heap.size]? = some (.cells #[.string s, .int .i64 at0] 157 (0, 0))) := heap_alloc_new _ _
  have hel : (w.alloc (.cells #[.string s, .int .i64 at0] 157)).ownsRow 0 4 1 ev st.elses.length (boolCells st.elses.reverse) := hf.elses.alloc _
  have hbox : ev.ownBlock ≠ some w.heap.size := fun e => by obtain ⟨cur, hc⟩ := own_block hf.elses e; have := heap_lt hc; omega
  have HE : Hid ((s.toList == [123]) = (s.data.toList == kOpen)) := by rw [ByteArray.toList_eq]; rfl
  clear he hf
  go_enter Try.func72, Try.ntmps72
  go_wp2
  go_region
  go_wp2
  go_region_law (refine step_push _ rfl (.tmp 32) (.tmp 37) 152 rfl 4 _ 1 1 Try.underlying152 Try.infoBool rfl (by decide) (by decide) ev _ _ (w.heap.size + 1) [.bool st.next] (by rfl) (by exact hel.alloc _) (by exact heap_alloc2 _ _ _) (by rfl) rfl (by simp [Value.oneCell']) (by omega) ?_; intro g1 cap1 w1 hown1 hgrow hat hlt; have hc1 : w1.cell? ⟨F, 1, none⟩ = some ev := (cell_of_heap (grown_block (OneMore.alloc _ _).drew.drew hgrow HF.out.blk HV.out)).trans rfl; have hf1 : w1.frozen? ⟨F, 1, none⟩ = false := free_of_heap (grown_block (OneMore.alloc _ _).drew.drew hgrow HF.out.blk HV.out))
  all_goals
    obtain ⟨p1, p2⟩ := HF.out.push_elses st.next rfl (OneMore.alloc _ _).drew.drew hown1 hgrow hat (fun k hk => ⟨hS k (by omega), by omega⟩)
    have hB1 := grown_block (OneMore.alloc _ _).drew.drew hgrow HB.out hbox
    have hs1 := grown_size (OneMore.alloc _ _).drew.drew hgrow
    have hB2 : (w1.setCell ⟨F, 1, none⟩ (.slice (some ⟨g1, 0, none⟩) (st.elses.length + 1) cap1)).heap[w.heap.size]? = some (.cells #[.string s, .int .i64 at0] 157 (0, 0)) := by
      rw [Below.heap_setCell _ _ _ _ (by have := HF.out.inF.2; exact fun e => this e.symm)]; exact hB1
    have HP : Hid (_ ∧ _ ∧ _) := And.intro p1 (And.intro p2 hB2)
    clear p1 p2 hB1 hB2 hc1 hf1 hel
    go_wp2_with fail
    refine (wants_at t F w1.heap.size 1 1 (fun k => S k ∧ k ≠ w.heap.size) (.slice (some ⟨g, 0, none⟩) (r.length + 1) cap) (.slice (some ⟨g1, 0, none⟩) (st.elses.length + 1) cap1) nv sv { st with elses := st.next :: st.elses } [0] _ ?_ ?_ ?_ rfl (by decide)).mono ?_
    · exact HP.out.1.alloc _
    · intro k hk; simp [World.setCell] at hk; exact ⟨hS k (by omega), by omega⟩
    · exact heap_alloc_at _ _ _ (size_setCell _ _ _)
    rintro e w2 ⟨rfl, wv2, hf2, hF2⟩
    have hB3 : w2.heap[w.heap.size]? = some (.cells #[.string s, .int .i64 at0] 157 (0, 0)) := by
      rw [hF2.block w.heap.size (by simp [World.setCell]; omega) (by simp)]
      rw [Below.heap_alloc _ _ _ (by simp [World.setCell]; omega)]
      exact HP.out.2.2
    have hb3 : w2.cell? ⟨w.heap.size, 0, none⟩ = some (.string s) := (cell_of_heap hB3).trans rfl
    have HP2 : Hid (_ ∧ _) := And.intro hf2 hF2
    clear hf2 hF2 hB3
    go_wp2
    go_ret
    refine ⟨by rw [← HE.out]; rfl, ⟨_, _, HP2.out.1.mono (fun k hk => hk.1)⟩, ?_⟩
    have q1 := HP.out.2.1.mono (T := S) (fun k _ hk => hk.1)
    have q2 := HP2.out.2.mono (T := S) (fun k _ hk => hk.1)
    exact ((Fr.refl S w).alloc _).trans (q1.trans (((Fr.refl S _).alloc _).trans q2))

set_option maxHeartbeats 1000000 in
theorem read_key (t s : ByteArray) (F : Nat) (at0 : Int) (S : Nat → Prop) (wv ev nv sv : Value) (st : FSt) (w : World) (hf : FormAt t w F S wv ev nv sv st) (_hS : ∀ k, w.heap.size ≤ k → S k)
    (r : List Int) (he : st.want = 2 :: r) (hr : r.length ≤ 10) :
    Calls Try.prog 72 #[.pointer (some ⟨F, 0, none⟩), .agg #[.string s, .int .i64 at0]] w fun e w' => e = .returned (.bool (decide (0 ≤ keyL s.data.toList))) ∧
      (∃ wv' ev', FormAt t w' F S wv' ev' nv sv { st with want := r }) ∧ Fr S w w' := by
  obtain ⟨g, cap, rfl, hg, hcp, hgl⟩ := hf.top he
  have hc1 : w.cell? ⟨F, 0, none⟩ = some (.slice (some ⟨g, 0, none⟩) (r.length + 1) cap) := (cell_of_heap hf.blk).trans rfl
  have hFl := heap_lt hf.blk
  have hz : w.frozen? ⟨F, 0, none⟩ = false := free_of_heap hf.blk
  have HP : Hid (FormAt t ((w.setCell ⟨F, 0, none⟩ (.slice (some ⟨g, 0, none⟩) r.length cap)).alloc (.cells #[.string s, .int .i64 at0] 157)) F S (.slice (some ⟨g, 0, none⟩) r.length cap) ev nv sv { st with want := r }) := (hf.popWant he).alloc _
  have HI : Hid (S F) := hf.inF
  have hne : w.heap.size ≠ F := by omega
  clear he hf
  go_enter Try.func72, Try.ntmps72
  go_wp2
  go_region
  go_wp2
  go_region
  go_wp2_with (go_at_call 75; refine (key_any _ _).mono ?_; rintro e w' ⟨rfl, rfl⟩)
  go_ret
  exact ⟨rfl, ⟨_, _, HP.out.keep (fun _ _ => rfl)⟩, ((((Fr.refl S w).setCell ⟨F, 0, none⟩ (.inl HI.out) _).alloc _).drew).drew⟩

set_option maxHeartbeats 1000000 in
theorem read_num (t s : ByteArray) (F : Nat) (at0 : Int) (S : Nat → Prop) (wv ev nv sv : Value) (st : FSt) (w : World) (hf : FormAt t w F S wv ev nv sv st) (hS : ∀ k, w.heap.size ≤ k → S k)
    (m : Int) (r : List Int) (he : st.want = m :: r) (hr : r.length ≤ 10) (hm0 : (m == 0) = false) (hm1 : (m == 1) = false) (hm6 : (m == 6) = false) (hm2 : (m == 2) = false) (p : Nat × Nat) (hs : s = t.extract p.1 p.2) (hat0 : at0 = p.1) (hsz : s.size ≤ 400) (hl1 : st.nums.length ≤ 1000) (hl2 : st.sorts.length ≤ 1000) :
    Calls Try.prog 72 #[.pointer (some ⟨F, 0, none⟩), .agg #[.string s, .int .i64 at0]] w fun e w' => e = .returned (.bool (decide (0 ≤ numL s.data.toList))) ∧
      (∃ wv' ev' nv' sv', FormAt t w' F S wv' ev' nv' sv' { st with want := r, nums := st.nums ++ [p], sorts := st.sorts ++ [m] }) ∧ Fr S w w' := by
  obtain ⟨g, cap, rfl, hg, hcp, hgl⟩ := hf.top he
  have hc1 : w.cell? ⟨F, 0, none⟩ = some (.slice (some ⟨g, 0, none⟩) (r.length + 1) cap) := (cell_of_heap hf.blk).trans rfl
  have hFl := heap_lt hf.blk
  have hz : w.frozen? ⟨F, 0, none⟩ = false := free_of_heap hf.blk
  have HP : Hid (FormAt t ((w.setCell ⟨F, 0, none⟩ (.slice (some ⟨g, 0, none⟩) r.length cap)).alloc (.cells #[.string s, .int .i64 at0] 157)) F (fun k => S k ∧ k ≠ w.heap.size) (.slice (some ⟨g, 0, none⟩) r.length cap) ev nv sv { st with want := r }) := ((hf.guard _ (Nat.le_refl _)).popWant he).alloc _
  have HI : Hid (S F) := hf.inF
  have hne : w.heap.size ≠ F := by omega
  have hc4 : w.cell? ⟨F, 3, none⟩ = some nv := (cell_of_heap hf.blk).trans rfl
  have hc5 : w.cell? ⟨F, 4, none⟩ = some sv := (cell_of_heap hf.blk).trans rfl
  have HB : Hid (((w.setCell ⟨F, 0, none⟩ (.slice (some ⟨g, 0, none⟩) r.length cap)).alloc (.cells #[.string s, .int .i64 at0] 157)).heap[w.heap.size]? = some (.cells #[.string s, .int .i64 at0] 157 (0, 0))) := by
    exact heap_alloc_at _ _ _ (size_setCell _ _ _)
  have hn1 : nv.ownBlock ≠ some w.heap.size := fun e => by obtain ⟨cur, hc⟩ := own_block hf.nums e; have := heap_lt hc; omega
  have hn2 : sv.ownBlock ≠ some w.heap.size := fun e => by obtain ⟨cur, hc⟩ := own_block hf.sorts e; have := heap_lt hc; omega
  have HV : Hid (nv.ownBlock ≠ some F) := fun e => by obtain ⟨cur, hc⟩ := own_block hf.nums e; exact ne_of_type hc hf.blk (by decide) rfl
  have HV2 : Hid (sv.ownBlock ≠ some F) := fun e => by obtain ⟨cur, hc⟩ := own_block hf.sorts e; exact ne_of_type hc hf.blk (by decide) rfl
  have hw1s : ((w.setCell ⟨F, 0, none⟩ (.slice (some ⟨g, 0, none⟩) r.length cap)).alloc (.cells #[.string s, .int .i64 at0] 157)).heap.size = w.heap.size + 1 := by simp
  have hnu : ((w.setCell ⟨F, 0, none⟩ (.slice (some ⟨g, 0, none⟩) r.length cap)).alloc (.cells #[.string s, .int .i64 at0] 157)).ownsRow 0 157 2 nv st.nums.length (wordsCells t st.nums) := HP.out.nums
  have HS0 : Hid (s = t.extract p.1 p.2 ∧ at0 = p.1) := And.intro hs hat0
  clear he hf hs hat0
  go_enter Try.func72, Try.ntmps72
  go_wp2
  go_region
  go_wp2
  go_region
  go_wp2
  go_region_law (refine step_push _ rfl (.tmp 85) (.tmp 87) 105 rfl 157 _ 2 24 Try.underlying105 Try.infoWord rfl (by decide) (by decide) nv _ _ (w.heap.size + 1) [.string s, .int .i64 at0] (by rfl) (by exact hnu.alloc _) (by exact heap_alloc_at _ _ _ hw1s) (by rfl) rfl (one_word _ _) (by omega) ?_; intro g1 cap1 w1 hown1 hgrow hat hlt; have hc1 : w1.cell? ⟨F, 3, none⟩ = some nv := (cell_of_heap (grown_block (OneMore.alloc _ _).drew.drew.drew hgrow HP.out.blk HV.out)).trans rfl; have hf1 : w1.frozen? ⟨F, 3, none⟩ = false := free_of_heap (grown_block (OneMore.alloc _ _).drew.drew.drew hgrow HP.out.blk HV.out))
  all_goals
    obtain ⟨p1, p2⟩ := HP.out.push_nums p rfl (OneMore.alloc _ _).drew.drew.drew (by rw [← HS0.out.1, ← HS0.out.2]; exact hown1) hgrow hat (fun k hk => ⟨hS k (by omega), by omega⟩)
    have hB1 := grown_block (OneMore.alloc _ _).drew.drew.drew hgrow HB.out hn1
    have hs1 := grown_size (OneMore.alloc _ _).drew.drew.drew hgrow
    have hB2 : (w1.setCell ⟨F, 3, none⟩ (.slice (some ⟨g1, 0, none⟩) (st.nums.length + 1) cap1)).heap[w.heap.size]? = some (.cells #[.string s, .int .i64 at0] 157 (0, 0)) := by
      rw [Below.heap_setCell _ _ _ _ hne]; exact hB1
    have hc6 : w1.cell? ⟨F, 4, none⟩ = some sv := (cell_of_heap (grown_block (OneMore.alloc _ _).drew.drew.drew hgrow HP.out.blk HV.out)).trans rfl
    have hsu := p1.sorts
    have HQ : Hid (_ ∧ _ ∧ _) := And.intro p1 (And.intro p2 hB2)
    have hsz2 : (w1.setCell ⟨F, 3, none⟩ (.slice (some ⟨g1, 0, none⟩) (st.nums.length + 1) cap1)).heap.size = w1.heap.size := size_setCell _ _ _
    clear p1 p2 hB1 hB2 hown1 hgrow hat hc5
    go_wp2_with (at_builtin; refine wpList_push_at _ rfl (.tmp 95) (.tmp 97) 50 rfl 3 _ 1 8 Try.underlying50 Try.infoInt rfl (by decide) (by decide) sv _ _ w1.heap.size [.int .i64 m] (by rfl) (by exact hsu.alloc _) (by exact heap_alloc_at _ _ _ hsz2) (by rfl) rfl (by simp [Value.oneCell']) (by simpa using Nat.le_trans hl2 (by omega)) ?_)
    intro g2 cap2 w2 hown2 hgrow2 hat2 hlt2
    obtain ⟨q1, q2⟩ := HQ.out.1.push_sorts m rfl (OneMore.alloc _ _) hown2 hgrow2 (by simpa using hat2) (fun k hk => ⟨hS k (by omega), by omega⟩)
    have hB3 := grown_block (OneMore.alloc _ _) hgrow2 HQ.out.2.2 hn2
    have hF2 := grown_block (OneMore.alloc _ _) hgrow2 HQ.out.1.blk HV2.out
    have hc7 : w2.cell? ⟨F, 4, none⟩ = some sv := (cell_of_heap hF2).trans rfl
    have hf7 : w2.frozen? ⟨F, 4, none⟩ = false := free_of_heap hF2
    have hb7 : w2.cell? ⟨w.heap.size, 0, none⟩ = some (.string s) := (cell_of_heap hB3).trans rfl
    have HR : Hid (_ ∧ _) := And.intro q1 q2
    clear q1 q2 hB3 hF2 hown2 hgrow2 hat2
    go_wp2_with (go_at_call 73; refine (num_any _ _ (by unfold maxLen; omega)).mono ?_; rintro e w' ⟨rfl, rfl⟩)
    go_ret
    refine ⟨rfl, ⟨_, _, _, _, HR.out.1.mono (fun k hk => hk.1)⟩, ?_⟩
    have r1 := HQ.out.2.1.mono (T := S) (fun k _ hk => hk.1)
    have r2 := HR.out.2.mono (T := S) (fun k _ hk => hk.1)
    exact (((Fr.refl S w).setCell ⟨F, 0, none⟩ (.inl HI.out) _).alloc _).trans (r1.trans r2)

/-- The whole of it: one word more. -/
theorem read_any (t : ByteArray) (F : Nat) (p : Nat × Nat) (S : Nat → Prop) (wv ev nv sv : Value) (st : FSt) (w : World) (hf : FormAt t w F S wv ev nv sv st) (hS : ∀ k, w.heap.size ≤ k → S k) (hlen : st.elses.length ≤ 1000)
    (hw : st.want ≠ []) (hr : st.want.length ≤ 10) (hsz : (t.extract p.1 p.2).size ≤ 400) (hl1 : st.nums.length ≤ 1000) (hl2 : st.sorts.length ≤ 1000) :
    Calls Try.prog 72 #[.pointer (some ⟨F, 0, none⟩), .agg #[.string (t.extract p.1 p.2), .int .i64 p.1]] w fun e w' => e = .returned (.bool (readF (bytesOf t p) p st).2) ∧
      ((readF (bytesOf t p) p st).2 = true → ∃ wv' ev' nv' sv', FormAt t w' F S wv' ev' nv' sv' (readF (bytesOf t p) p st).1) ∧ Fr S w w' := by
  cases he : st.want with
  | nil => exact absurd he hw
  | cons m r =>
    have hr' : r.length ≤ 10 := by rw [he] at hr; simp at hr; omega
    have e0 : readF (bytesOf t p) p st = if m = 0 ∨ m = 1 then firstF (bytesOf t p) m st
      else if m = 6 then ({ st with elses := st.next :: st.elses, want := [0] }, bytesOf t p == kOpen)
      else if m = 2 then ({ st with want := r }, decide (0 ≤ keyL (bytesOf t p)))
      else ({ st with want := r, nums := st.nums ++ [p], sorts := st.sorts ++ [m] }, decide (0 ≤ numL (bytesOf t p))) := by
      unfold readF; rw [he]
    rw [e0]
    by_cases h01 : m = 0 ∨ m = 1
    · rw [if_pos h01]
      refine (read_first t _ F p.1 S wv ev nv sv st w hf hS hlen m r he hr' h01).mono fun e w' h => ⟨h.1, fun h' => ?_, h.2.2⟩
      obtain ⟨a, b, hab⟩ := h.2.1 h'
      exact ⟨a, b, nv, sv, hab⟩
    · rw [if_neg h01]
      by_cases h6 : m = 6
      · rw [if_pos h6]
        subst h6
        refine (read_brace t _ F p.1 S wv ev nv sv st w hf hS hlen r he hr').mono fun e w' h => ⟨h.1, fun _ => ?_, h.2.2⟩
        obtain ⟨a, b, hab⟩ := h.2.1
        exact ⟨a, b, nv, sv, hab⟩
      · rw [if_neg h6]
        by_cases h2 : m = 2
        · rw [if_pos h2]
          subst h2
          refine (read_key t _ F p.1 S wv ev nv sv st w hf hS r he hr').mono fun e w' h => ⟨h.1, fun _ => ?_, h.2.2⟩
          obtain ⟨a, b, hab⟩ := h.2.1
          exact ⟨a, b, nv, sv, hab⟩
        · rw [if_neg h2]
          refine (read_num t _ F p.1 S wv ev nv sv st w hf hS m r he hr' (by simp; omega) (by simp; omega) (by simp; omega) (by simp; omega) p rfl rfl hsz hl1 hl2).mono fun e w' h => ⟨h.1, fun _ => h.2.1, h.2.2⟩

end Go.Proofs.Ytiaibigmbflpiaa
