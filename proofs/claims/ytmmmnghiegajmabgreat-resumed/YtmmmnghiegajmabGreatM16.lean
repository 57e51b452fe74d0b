import Derived.Test.YtmmmnghiegajmabGreatM08
import Derived.Test.YtmmmnghiegajmabGreatM15
import Derived.Test.YtmmmnghiegajmabGreatM07
import Derived.Test.YtmmmnghiegajmabGreatM13
import Derived.Test.YtmmmnghiegajmabGreatM03
/- The document's own herald: Drain. -/
namespace Go.Proofs.YtmmmnghiegajmabGreat
open Go.RowKit Go.Proofs.Herald
def msgV (m : Msg) : Value := .agg #[.int .i64 m.dev, .int .i64 m.run, .int .i64 m.num, .int .i64 m.key]
end Go.Proofs.YtmmmnghiegajmabGreat
/- The document's own herald: Show. -/
namespace Go.Proofs.YtmmmnghiegajmabGreat
open Go.RowKit Go.Proofs.Herald
def rnCells (r : Rn) : List Value := [.int .i64 r.id, .int .i64 r.dev, .int .i64 r.sent, .int .i64 r.til, .int .i64 r.num]
def rnsCells (l : List Rn) : List Value := l.flatMap rnCells
theorem rnsCells_snoc (l : List Rn) (r : Rn) : rnsCells (l ++ [r]) = rnsCells l ++ rnCells r := by simp [rnsCells]
/-- A state in the making. -/
structure ShAt (w wr : World) (now : Int) (rv : Value) (rl : List Rn) (uv : Value) (ml : List Msg) : Prop where
  bel : Below w.heap.size w wr
  a : wr.heap[w.heap.size]? = some (.cells #[.int .i64 0, .slice none 0 0, .slice none 0 0] 49 (0, 0))
  o : wr.heap[w.heap.size + 1]? = some (.cells #[.int .i64 now, rv, uv] 49 (0, 0))
  r : wr.ownsRow w.heap.size 99 5 rv rl.length (rnsCells rl)
  m : wr.ownsRow w.heap.size 29 4 uv ml.length (msgsCells ml)
theorem ShAt.pushM {w wr w1 : World} {now : Int} {rv uv v' : Value} {rl : List Rn} {ml : List Msg} (h : ShAt w wr now rv rl uv ml) (q : List Msg)
    (hown1 : w1.ownsRow 0 29 4 v' (ml.length + q.length) (msgsCells ml ++ msgsCells q)) (ha : Appended wr w1 uv ml.length q.length v') :
    ShAt w (w1.setCell ⟨w.heap.size + 1, 2, none⟩ v') now rv rl v' (ml ++ q) := by
  obtain ⟨hb, hown2⟩ := appended_below h.bel h.bel.size h.m hown1 ha
  have hrO : ∀ {k : Nat} {c : Array Value} {t : TypeId}, wr.heap[k]? = some (.cells c t (0, 0)) → t ≠ 29 → w1.heap[k]? = wr.heap[k]? := fun {k c t} hk ht => by
    rcases ha with ⟨g, cap, e1, _, hg⟩ | ⟨_, hg⟩
    · refine hg.block k (heap_lt hk) fun e => ?_
      cases e
      obtain ⟨cur, hc⟩ := own_block (own0 h.m) (k := k) (by rw [e1]; rfl)
      exact ne_of_type hk hc ht rfl
    · exact hg.block k (heap_lt hk) (by simp)
  have ho1 := (hrO h.o (by decide)).trans h.o
  have e2 : msgsCells (ml ++ q) = msgsCells ml ++ msgsCells q := by unfold msgsCells; rw [List.map_append, codeCells_append]
  refine ⟨hb.setCell (p := ⟨w.heap.size + 1, 2, none⟩) (Nat.le_succ _) _, ?_, ?_, ?_, ?_⟩
  · rw [Below.heap_setCell _ _ _ _ (show w.heap.size ≠ w.heap.size + 1 by omega)]
    exact (hrO h.a (by decide)).trans h.a
  · rw [heap_setCell_self _ ho1]; rfl
  · refine own_stays h.r fun k hk => ?_
    obtain ⟨c, hc⟩ := own_block (own0 h.r) hk
    rw [Below.heap_setCell _ _ _ _ (ne_of_type hc h.o (by decide))]
    exact hrO hc (by decide)
  · rw [e2, List.length_append]
    refine own_stays hown2 fun k hk => ?_
    obtain ⟨c, hc⟩ := own_block (own0 hown2) hk
    exact Below.heap_setCell _ _ _ _ (ne_of_type hc ho1 (by decide))
theorem ShAt.drew {w wr : World} {now : Int} {rv uv : Value} {rl : List Rn} {ml : List Msg} (h : ShAt w wr now rv rl uv ml) : ShAt w wr.drew now rv rl uv ml :=
  ⟨h.bel.drew, h.a, h.o, own_stays h.r fun _ _ => rfl, own_stays h.m fun _ _ => rfl⟩
def upQ (qs : Nat → List Msg) : Nat → List Msg
  | 0 => []
  | j + 1 => upQ qs j ++ qs j
end Go.Proofs.YtmmmnghiegajmabGreat
