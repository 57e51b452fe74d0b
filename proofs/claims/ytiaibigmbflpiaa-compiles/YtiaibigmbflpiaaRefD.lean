/- The acceptor's record in memory, and its method wants. -/
import Derived.Test.YtiaibigmbflpiaaRefC
import Derived.Test.YtiaibigmbflpiaaPureD
import Derived.Deep.RegionLaw
import Derived.Deep.RegionHeld3
import Derived.BigRegion
import Derived.BigQuiet
import Derived.Deep.QuietTactic
namespace Go.Proofs.Ytiaibigmbflpiaa
open Go.RowKit Go.Proofs.Herald

def boolCells (l : List Bool) : List Value := l.map Value.bool
def intCells (l : List Int) : List Value := l.map (Value.int .i64)

/-- A value's own block, if it has one, is in S. -/
def InS (S : Nat → Prop) (v : Value) : Prop := ∀ k, v.ownBlock = some k → S k

structure FormAt (t : ByteArray) (w : World) (F : Nat) (S : Nat → Prop) (wv ev nv sv : Value) (st : FSt) : Prop where
  blk : w.heap[F]? = some (.cells #[wv, ev, .bool st.next, nv, sv] 154 (0, 0))
  inF : S F
  want : w.ownsRow 0 3 1 wv st.want.length (intCells st.want.reverse)
  elses : w.ownsRow 0 4 1 ev st.elses.length (boolCells st.elses.reverse)
  nums : w.ownsRow 0 157 2 nv st.nums.length (wordsCells t st.nums)
  sorts : w.ownsRow 0 3 1 sv st.sorts.length (intCells st.sorts)
  wS : InS S wv
  eS : InS S ev
  nS : InS S nv
  sS : InS S sv
  apart : ∀ k, wv.ownBlock = some k → sv.ownBlock ≠ some k

theorem Try.infoInt : (Try.prog.info? 3).map (fun i => (i.zero, i.size, i.bytes)) = some (some (.int .i64 0), 1, 8) := by kernel_rfl
theorem Try.infoBool : (Try.prog.info? 4).map (fun i => (i.zero, i.size, i.bytes)) = some (some (.bool false), 1, 1) := by kernel_rfl

theorem FormAt.push_want {t : ByteArray} {wr W w1 : World} {F : Nat} {S : Nat → Prop} {wv ev nv sv : Value} {st : FSt} {g cap n : Nat} (x : Int) (hf : FormAt t wr F S wv ev nv sv st) (hn : n = st.want.length) (h0 : OneMore wr W)
    (hown1 : w1.ownsRow 0 3 1 (.slice (some ⟨g, 0, none⟩) (n + 1) cap) (n + 1) (intCells st.want.reverse ++ [.int .i64 x]))
    (hgrow : W.grownBy w1 wv.ownBlock) (hat : wv.ownBlock = some g ∨ g = W.heap.size) (hS : ∀ k, wr.heap.size ≤ k → S k) :
    FormAt t (w1.setCell ⟨F, 0, none⟩ (.slice (some ⟨g, 0, none⟩) (n + 1) cap)) F S (.slice (some ⟨g, 0, none⟩) (n + 1) cap) ev nv sv { st with want := x :: st.want } ∧
      Fr S wr (w1.setCell ⟨F, 0, none⟩ (.slice (some ⟨g, 0, none⟩) (n + 1) cap)) := by
  have hs := h0.size
  have hvF : wv.ownBlock ≠ some F := fun e => by
    obtain ⟨cur, hc⟩ := own_block hf.want e
    exact ne_of_type hc hf.blk (by decide) rfl
  have hF1 := grown_block h0 hgrow hf.blk hvF
  have other : ∀ k, k ≠ F → (w1.setCell ⟨F, 0, none⟩ (.slice (some ⟨g, 0, none⟩) (n + 1) cap)).heap[k]? = w1.heap[k]? := fun k hk => Below.heap_setCell _ _ _ _ hk
  have keep : ∀ (u : Value) (e : TypeId), (∃ sz m xs, wr.ownsRow 0 e sz u m xs) → e ≠ 154 → (∀ k, u.ownBlock = some k → wv.ownBlock ≠ some k) →
      ∀ k, u.ownBlock = some k → (w1.setCell ⟨F, 0, none⟩ (.slice (some ⟨g, 0, none⟩) (n + 1) cap)).heap[k]? = wr.heap[k]? := by
    rintro u e ⟨sz, m, xs, hu⟩ he hne k hk
    obtain ⟨cur, hc⟩ := own_block hu hk
    rw [other k (ne_of_type hc hf.blk he)]
    exact grown_same h0 hgrow (heap_lt hc) (hne k hk)
  have hgF : g ≠ F := by
    obtain ⟨cur, hc⟩ := own_block hown1 (k := g) rfl
    exact ne_of_type hc hF1 (by decide)
  subst hn
  refine ⟨⟨?_, hf.inF, ?_, ?_, ?_, ?_, ?_, hf.eS, hf.nS, hf.sS, ?_⟩, ?_⟩
  · rw [heap_setCell_self _ hF1]; rfl
  · have := own_keep hown1 (w' := w1.setCell ⟨F, 0, none⟩ (.slice (some ⟨g, 0, none⟩) (st.want.length + 1) cap)) (fun k hk => by simp [Value.ownBlock] at hk; subst hk; exact other g hgF)
    simpa [intCells] using this
  · exact own_keep hf.elses (keep ev 4 ⟨_, _, _, hf.elses⟩ (by decide) (fun k hk e => by
      obtain ⟨c1, h1⟩ := own_block hf.elses hk; obtain ⟨c2, h2⟩ := own_block hf.want e; exact ne_of_type h1 h2 (by decide) rfl))
  · exact own_keep hf.nums (keep nv 157 ⟨_, _, _, hf.nums⟩ (by decide) (fun k hk e => by
      obtain ⟨c1, h1⟩ := own_block hf.nums hk; obtain ⟨c2, h2⟩ := own_block hf.want e; exact ne_of_type h1 h2 (by decide) rfl))
  · exact own_keep hf.sorts (keep sv 3 ⟨_, _, _, hf.sorts⟩ (by decide) (fun k hk e => hf.apart k e hk))
  · intro k hk
    simp [Value.ownBlock] at hk
    subst hk
    rcases hat with h | h
    · exact hf.wS g h
    · exact hS g (by omega)
  · intro k hk e
    simp [Value.ownBlock] at hk
    subst hk
    rcases hat with h | h
    · exact hf.apart g h e
    · obtain ⟨c1, h1⟩ := own_block hf.sorts e
      have := heap_lt h1
      omega
  · exact (Fr.of_push h0 hgrow hf.wS).setCell _ (.inl hf.inF) _

theorem FormAt.push_elses {t : ByteArray} {wr W w1 : World} {F : Nat} {S : Nat → Prop} {wv ev nv sv : Value} {st : FSt} {g cap n : Nat} (x : Bool) (hf : FormAt t wr F S wv ev nv sv st) (hn : n = st.elses.length) (h0 : OneMore wr W)
    (hown1 : w1.ownsRow 0 4 1 (.slice (some ⟨g, 0, none⟩) (n + 1) cap) (n + 1) (boolCells st.elses.reverse ++ [.bool x]))
    (hgrow : W.grownBy w1 ev.ownBlock) (hat : ev.ownBlock = some g ∨ g = W.heap.size) (hS : ∀ k, wr.heap.size ≤ k → S k) :
    FormAt t (w1.setCell ⟨F, 1, none⟩ (.slice (some ⟨g, 0, none⟩) (n + 1) cap)) F S wv (.slice (some ⟨g, 0, none⟩) (n + 1) cap) nv sv { st with elses := x :: st.elses } ∧
      Fr S wr (w1.setCell ⟨F, 1, none⟩ (.slice (some ⟨g, 0, none⟩) (n + 1) cap)) := by
  have hs := h0.size
  have hvF : ev.ownBlock ≠ some F := fun e => by
    obtain ⟨cur, hc⟩ := own_block hf.elses e
    exact ne_of_type hc hf.blk (by decide) rfl
  have hF1 := grown_block h0 hgrow hf.blk hvF
  have other : ∀ k, k ≠ F → (w1.setCell ⟨F, 1, none⟩ (.slice (some ⟨g, 0, none⟩) (n + 1) cap)).heap[k]? = w1.heap[k]? := fun k hk => Below.heap_setCell _ _ _ _ hk
  have keep : ∀ (u : Value) (e : TypeId), (∃ sz m xs, wr.ownsRow 0 e sz u m xs) → e ≠ 154 → (∀ k, u.ownBlock = some k → ev.ownBlock ≠ some k) →
      ∀ k, u.ownBlock = some k → (w1.setCell ⟨F, 1, none⟩ (.slice (some ⟨g, 0, none⟩) (n + 1) cap)).heap[k]? = wr.heap[k]? := by
    rintro u e ⟨sz, m, xs, hu⟩ he hne k hk
    obtain ⟨cur, hc⟩ := own_block hu hk
    rw [other k (ne_of_type hc hf.blk he)]
    exact grown_same h0 hgrow (heap_lt hc) (hne k hk)
  have hgF : g ≠ F := by
    obtain ⟨cur, hc⟩ := own_block hown1 (k := g) rfl
    exact ne_of_type hc hF1 (by decide)
  subst hn
  refine ⟨⟨?_, hf.inF, ?_, ?_, ?_, ?_, hf.wS, ?_, hf.nS, hf.sS, hf.apart⟩, ?_⟩
  · rw [heap_setCell_self _ hF1]; rfl
  · exact own_keep hf.want (keep wv 3 ⟨_, _, _, hf.want⟩ (by decide) (fun k hk e => by
      obtain ⟨c1, h1⟩ := own_block hf.want hk; obtain ⟨c2, h2⟩ := own_block hf.elses e; exact ne_of_type h1 h2 (by decide) rfl))
  · have := own_keep hown1 (w' := w1.setCell ⟨F, 1, none⟩ (.slice (some ⟨g, 0, none⟩) (st.elses.length + 1) cap)) (fun k hk => by simp [Value.ownBlock] at hk; subst hk; exact other g hgF)
    simpa [boolCells] using this
  · exact own_keep hf.nums (keep nv 157 ⟨_, _, _, hf.nums⟩ (by decide) (fun k hk e => by
      obtain ⟨c1, h1⟩ := own_block hf.nums hk; obtain ⟨c2, h2⟩ := own_block hf.elses e; exact ne_of_type h1 h2 (by decide) rfl))
  · exact own_keep hf.sorts (keep sv 3 ⟨_, _, _, hf.sorts⟩ (by decide) (fun k hk e => by
      obtain ⟨c1, h1⟩ := own_block hf.sorts hk; obtain ⟨c2, h2⟩ := own_block hf.elses e; exact ne_of_type h1 h2 (by decide) rfl))
  · intro k hk
    simp [Value.ownBlock] at hk
    subst hk
    rcases hat with h | h
    · exact hf.eS g h
    · exact hS g (by omega)
  · exact (Fr.of_push h0 hgrow hf.eS).setCell _ (.inl hf.inF) _

theorem FormAt.push_nums {t : ByteArray} {wr W w1 : World} {F : Nat} {S : Nat → Prop} {wv ev nv sv : Value} {st : FSt} {g cap n : Nat} (x : Nat × Nat) (hf : FormAt t wr F S wv ev nv sv st) (hn : n = st.nums.length) (h0 : OneMore wr W)
    (hown1 : w1.ownsRow 0 157 2 (.slice (some ⟨g, 0, none⟩) (n + 1) cap) (n + 1) (wordsCells t st.nums ++ [.string (t.extract x.1 x.2), .int .i64 x.1]))
    (hgrow : W.grownBy w1 nv.ownBlock) (hat : nv.ownBlock = some g ∨ g = W.heap.size) (hS : ∀ k, wr.heap.size ≤ k → S k) :
    FormAt t (w1.setCell ⟨F, 3, none⟩ (.slice (some ⟨g, 0, none⟩) (n + 1) cap)) F S wv ev (.slice (some ⟨g, 0, none⟩) (n + 1) cap) sv { st with nums := st.nums ++ [x] } ∧
      Fr S wr (w1.setCell ⟨F, 3, none⟩ (.slice (some ⟨g, 0, none⟩) (n + 1) cap)) := by
  have hs := h0.size
  have hvF : nv.ownBlock ≠ some F := fun e => by
    obtain ⟨cur, hc⟩ := own_block hf.nums e
    exact ne_of_type hc hf.blk (by decide) rfl
  have hF1 := grown_block h0 hgrow hf.blk hvF
  have other : ∀ k, k ≠ F → (w1.setCell ⟨F, 3, none⟩ (.slice (some ⟨g, 0, none⟩) (n + 1) cap)).heap[k]? = w1.heap[k]? := fun k hk => Below.heap_setCell _ _ _ _ hk
  have keep : ∀ (u : Value) (e : TypeId), (∃ sz m xs, wr.ownsRow 0 e sz u m xs) → e ≠ 154 → (∀ k, u.ownBlock = some k → nv.ownBlock ≠ some k) →
      ∀ k, u.ownBlock = some k → (w1.setCell ⟨F, 3, none⟩ (.slice (some ⟨g, 0, none⟩) (n + 1) cap)).heap[k]? = wr.heap[k]? := by
    rintro u e ⟨sz, m, xs, hu⟩ he hne k hk
    obtain ⟨cur, hc⟩ := own_block hu hk
    rw [other k (ne_of_type hc hf.blk he)]
    exact grown_same h0 hgrow (heap_lt hc) (hne k hk)
  have hgF : g ≠ F := by
    obtain ⟨cur, hc⟩ := own_block hown1 (k := g) rfl
    exact ne_of_type hc hF1 (by decide)
  subst hn
  refine ⟨⟨?_, hf.inF, ?_, ?_, ?_, ?_, hf.wS, hf.eS, ?_, hf.sS, hf.apart⟩, ?_⟩
  · rw [heap_setCell_self _ hF1]; rfl
  · exact own_keep hf.want (keep wv 3 ⟨_, _, _, hf.want⟩ (by decide) (fun k hk e => by
      obtain ⟨c1, h1⟩ := own_block hf.want hk; obtain ⟨c2, h2⟩ := own_block hf.nums e; exact ne_of_type h1 h2 (by decide) rfl))
  · exact own_keep hf.elses (keep ev 4 ⟨_, _, _, hf.elses⟩ (by decide) (fun k hk e => by
      obtain ⟨c1, h1⟩ := own_block hf.elses hk; obtain ⟨c2, h2⟩ := own_block hf.nums e; exact ne_of_type h1 h2 (by decide) rfl))
  · have := own_keep hown1 (w' := w1.setCell ⟨F, 3, none⟩ (.slice (some ⟨g, 0, none⟩) (st.nums.length + 1) cap)) (fun k hk => by simp [Value.ownBlock] at hk; subst hk; exact other g hgF)
    simpa [wordsCells_snoc] using this
  · exact own_keep hf.sorts (keep sv 3 ⟨_, _, _, hf.sorts⟩ (by decide) (fun k hk e => by
      obtain ⟨c1, h1⟩ := own_block hf.sorts hk; obtain ⟨c2, h2⟩ := own_block hf.nums e; exact ne_of_type h1 h2 (by decide) rfl))
  · intro k hk
    simp [Value.ownBlock] at hk
    subst hk
    rcases hat with h | h
    · exact hf.nS g h
    · exact hS g (by omega)
  · exact (Fr.of_push h0 hgrow hf.nS).setCell _ (.inl hf.inF) _

theorem FormAt.push_sorts {t : ByteArray} {wr W w1 : World} {F : Nat} {S : Nat → Prop} {wv ev nv sv : Value} {st : FSt} {g cap n : Nat} (x : Int) (hf : FormAt t wr F S wv ev nv sv st) (hn : n = st.sorts.length) (h0 : OneMore wr W)
    (hown1 : w1.ownsRow 0 3 1 (.slice (some ⟨g, 0, none⟩) (n + 1) cap) (n + 1) (intCells st.sorts ++ [.int .i64 x]))
    (hgrow : W.grownBy w1 sv.ownBlock) (hat : sv.ownBlock = some g ∨ g = W.heap.size) (hS : ∀ k, wr.heap.size ≤ k → S k) :
    FormAt t (w1.setCell ⟨F, 4, none⟩ (.slice (some ⟨g, 0, none⟩) (n + 1) cap)) F S wv ev nv (.slice (some ⟨g, 0, none⟩) (n + 1) cap) { st with sorts := st.sorts ++ [x] } ∧
      Fr S wr (w1.setCell ⟨F, 4, none⟩ (.slice (some ⟨g, 0, none⟩) (n + 1) cap)) := by
  have hs := h0.size
  have hvF : sv.ownBlock ≠ some F := fun e => by
    obtain ⟨cur, hc⟩ := own_block hf.sorts e
    exact ne_of_type hc hf.blk (by decide) rfl
  have hF1 := grown_block h0 hgrow hf.blk hvF
  have other : ∀ k, k ≠ F → (w1.setCell ⟨F, 4, none⟩ (.slice (some ⟨g, 0, none⟩) (n + 1) cap)).heap[k]? = w1.heap[k]? := fun k hk => Below.heap_setCell _ _ _ _ hk
  have keep : ∀ (u : Value) (e : TypeId), (∃ sz m xs, wr.ownsRow 0 e sz u m xs) → e ≠ 154 → (∀ k, u.ownBlock = some k → sv.ownBlock ≠ some k) →
      ∀ k, u.ownBlock = some k → (w1.setCell ⟨F, 4, none⟩ (.slice (some ⟨g, 0, none⟩) (n + 1) cap)).heap[k]? = wr.heap[k]? := by
    rintro u e ⟨sz, m, xs, hu⟩ he hne k hk
    obtain ⟨cur, hc⟩ := own_block hu hk
    rw [other k (ne_of_type hc hf.blk he)]
    exact grown_same h0 hgrow (heap_lt hc) (hne k hk)
  have hgF : g ≠ F := by
    obtain ⟨cur, hc⟩ := own_block hown1 (k := g) rfl
    exact ne_of_type hc hF1 (by decide)
  subst hn
  refine ⟨⟨?_, hf.inF, ?_, ?_, ?_, ?_, hf.wS, hf.eS, hf.nS, ?_, ?_⟩, ?_⟩
  · rw [heap_setCell_self _ hF1]; rfl
  · exact own_keep hf.want (keep wv 3 ⟨_, _, _, hf.want⟩ (by decide) (fun k hk e => hf.apart k hk e))
  · exact own_keep hf.elses (keep ev 4 ⟨_, _, _, hf.elses⟩ (by decide) (fun k hk e => by
      obtain ⟨c1, h1⟩ := own_block hf.elses hk; obtain ⟨c2, h2⟩ := own_block hf.sorts e; exact ne_of_type h1 h2 (by decide) rfl))
  · exact own_keep hf.nums (keep nv 157 ⟨_, _, _, hf.nums⟩ (by decide) (fun k hk e => by
      obtain ⟨c1, h1⟩ := own_block hf.nums hk; obtain ⟨c2, h2⟩ := own_block hf.sorts e; exact ne_of_type h1 h2 (by decide) rfl))
  · have := own_keep hown1 (w' := w1.setCell ⟨F, 4, none⟩ (.slice (some ⟨g, 0, none⟩) (st.sorts.length + 1) cap)) (fun k hk => by simp [Value.ownBlock] at hk; subst hk; exact other g hgF)
    simpa [intCells] using this
  · intro k hk
    simp [Value.ownBlock] at hk
    subst hk
    rcases hat with h | h
    · exact hf.sS g h
    · exact hS g (by omega)
  · intro k e hk
    simp [Value.ownBlock] at hk
    subst hk
    rcases hat with h | h
    · exact hf.apart g e h
    · obtain ⟨c1, h1⟩ := own_block hf.want e
      have := heap_lt h1
      omega
  · exact (Fr.of_push h0 hgrow hf.sS).setCell _ (.inl hf.inF) _

set_option maxHeartbeats 1000000 in
theorem wants_any (t : ByteArray) (F A cap0 : Nat) (S : Nat → Prop) (wv ev nv sv : Value) (st : FSt) (ls : List Int) (w : World) (hf : FormAt t w F S wv ev nv sv st) (hS : ∀ k, w.heap.size ≤ k → S k)
    (hA : w.heap[A]? = some (.cells (intCells ls).toArray 3 (0, 0))) (hlen : ls.length ≤ 10) :
    Calls Try.prog 111 #[.pointer (some ⟨F, 0, none⟩), .slice (some ⟨A, 0, none⟩) ls.length cap0] w fun e w' => e = .returned (.tuple #[]) ∧
      ∃ wv', FormAt t w' F S wv' ev nv sv { st with want := ls } ∧ Fr S w w' := by
  have hFc : w.cell? ⟨F, 0, none⟩ = some wv := by rw [cell_of_heap hf.blk]; rfl
  have hFf : w.frozen? ⟨F, 0, none⟩ = false := free_of_heap hf.blk
  go_enter Try.func111, Try.ntmps111
  go_wp2
  go_loopw [4] (fun i wr => ∃ (k : Nat) (v : Value), k ≤ ls.length ∧ i = .int .i64 ((k : Int) - 1) ∧ FormAt t wr F S v ev nv sv { st with want := ls.drop k } ∧ Fr S w wr ∧
      wr.heap[A]? = some (.cells (intCells ls).toArray 3 (0, 0)) ∧ (∀ g, v.ownBlock = some g → w.heap.size ≤ g))
    (fun i _ => (intOf i + 1).toNat)
  case atStart =>
    have other : ∀ k, k ≠ F → (w.setCell ⟨F, 0, none⟩ (.slice none 0 0)).heap[k]? = w.heap[k]? := fun k hk => Below.heap_setCell _ _ _ _ hk
    refine ⟨ls.length, .slice none 0 0, Nat.le_refl _, by go_num, ⟨?_, hf.inF, ?_, ?_, ?_, ?_, ?_, hf.eS, hf.nS, hf.sS, ?_⟩, (Fr.refl S w).setCell _ (.inl hf.inF) _, ?_, ?_⟩
    · rw [heap_setCell_self _ hf.blk]; rfl
    · simpa [intCells] using World.ownsRow_nil _ 0 3 1
    · exact own_keep hf.elses (fun k hk => by obtain ⟨c1, h1⟩ := own_block hf.elses hk; exact other k (ne_of_type h1 hf.blk (by decide)))
    · exact own_keep hf.nums (fun k hk => by obtain ⟨c1, h1⟩ := own_block hf.nums hk; exact other k (ne_of_type h1 hf.blk (by decide)))
    · exact own_keep hf.sorts (fun k hk => by obtain ⟨c1, h1⟩ := own_block hf.sorts hk; exact other k (ne_of_type h1 hf.blk (by decide)))
    · intro k hk; simp [Value.ownBlock] at hk
    · intro k hk; simp [Value.ownBlock] at hk
    · rw [other A (ne_of_type hA hf.blk (by decide))]; exact hA
    · intro k hk; simp [Value.ownBlock] at hk
  case round =>
    obtain ⟨k, v, hk, rfl, hfr, hF, hAr, hvn⟩ := hrel
    clear hFc hFf
    have hFc : wr.cell? ⟨F, 0, none⟩ = some v := by rw [cell_of_heap hfr.blk]; rfl
    have hFf : wr.frozen? ⟨F, 0, none⟩ = false := free_of_heap hfr.blk
    have hFl := heap_lt hfr.blk
    by_cases h0 : 0 < k
    · obtain ⟨j, rfl⟩ : ∃ j, k = j + 1 := ⟨k - 1, by omega⟩
      have hAc : wr.cell? ⟨A, j, none⟩ = some (.int .i64 ls[j]) := by rw [cell_of_heap hAr]; simp [intCells]
      have hjl : j < ls.length := by omega
      have e1 : ((j + 1 : Nat) : Int) - 1 = (j : Int) := by omega
      rw [e1]
      have hown := hfr.want
      simp only at hown
      have HF : Hid (FormAt t wr F S v ev nv sv { st with want := ls.drop (j + 1) }) := hfr
      have HA : Hid (wr.heap[A]? = some (.cells (intCells ls).toArray 3 (0, 0))) := hAr
      have HV : Hid (v.ownBlock ≠ some F) := fun e => by obtain ⟨cur, hc⟩ := own_block hfr.want e; exact ne_of_type hc hfr.blk (by decide) rfl
      clear hf hfr hAr
      go_wp2
      go_region_law (refine step_push _ rfl (.tmp 19) (.tmp 24) 50 rfl 3 _ 1 8 Try.underlying50 Try.infoInt rfl (by decide) (by decide) v _ _ wr.heap.size [.int .i64 ls[j]] (by rfl) (by exact hown.alloc _) (by exact heap_alloc_new _ _) (by rfl) rfl (by simp [Value.oneCell']) (by simp; omega) ?_; intro g cap w1 hown1 hgrow hat hlt; have hc1 : w1.cell? ⟨F, 0, none⟩ = some v := (cell_of_heap (grown_block (OneMore.alloc _ _).drew hgrow HF.out.blk HV.out)).trans rfl; have hf1 : w1.frozen? ⟨F, 0, none⟩ = false := free_of_heap (grown_block (OneMore.alloc _ _).drew hgrow HF.out.blk HV.out))
      all_goals
        go_wp2
        go_roundw
        case rel =>
          have hsz : (wr.alloc (.cells #[.int .i64 ls[j]] 3)).drew.heap.size = wr.heap.size + 1 := by show (wr.alloc _).heap.size = _; simp
          have hws := hF.size
          obtain ⟨p1, p2⟩ := HF.out.push_want (n := ls.length - (j + 1)) ls[j] (by simp) (OneMore.alloc _ _).drew (by simpa using hown1) hgrow hat (fun q hq => hS q (by omega))
          refine ⟨j, .slice (some ⟨g, 0, none⟩) (ls.length - (j + 1) + 1) cap, by omega, by go_num, ?_, hF.trans p2, ?_, ?_⟩
          · have := p1; simp only [drop_cons_of ls j hjl]; exact this
          · rw [Below.heap_setCell _ _ _ _ (ne_of_type HA.out HF.out.blk (by decide))]
            exact grown_block (OneMore.alloc _ _).drew hgrow HA.out (fun e => by have := hvn A e; have := heap_lt hA; omega)
          · intro q hq
            simp [Value.ownBlock] at hq
            subst hq
            rcases hat with h | h
            · exact hvn _ h
            · omega
        case measure => simp [intOf]
    · obtain rfl : k = 0 := by omega
      have HF : Hid (FormAt t wr F S v ev nv sv { st with want := ls.drop 0 }) := hfr
      clear hf hfr hAr
      go_wp2
      go_end0
      exact ⟨rfl, v, HF.out, hF⟩

end Go.Proofs.Ytiaibigmbflpiaa
