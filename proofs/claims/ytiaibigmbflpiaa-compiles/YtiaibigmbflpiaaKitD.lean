/- Rows that hold one element again and again; append onto a row that is kept beside what comes out. -/
import Derived.Test.YtiaibigmbflpiaaKitB
import Derived.ArgAppend
namespace Go.Proofs.Herald
open Go.RowKit

def marks (mk : List Value) : Nat → List Value
  | 0 => []
  | n + 1 => mk ++ marks mk n

theorem marks_length (mk : List Value) (n : Nat) : (marks mk n).length = n * mk.length := by
  induction n with
  | zero => simp [marks]
  | succ n ih => rw [marks, List.length_append, ih, Nat.add_mul]; omega

theorem marks_add (mk : List Value) (a b : Nat) : marks mk (a + b) = marks mk a ++ marks mk b := by
  induction a with
  | zero => simp [marks]
  | succ a ih => rw [show a + 1 + b = (a + b) + 1 from by omega, marks, marks, ih, List.append_assoc]

theorem marks_take (mk : List Value) {n N : Nat} (h : n ≤ N) : (marks mk N).take (n * mk.length) = marks mk n := by
  rw [show N = n + (N - n) from by omega, marks_add, ← marks_length mk n]
  exact List.take_left

theorem marks_mem {mk : List Value} {n : Nat} {u : Value} (h : u ∈ marks mk n) : u ∈ mk := by
  induction n with
  | zero => simp [marks] at h
  | succ n ih =>
    rw [marks, List.mem_append] at h
    rcases h with h | h
    · exact h
    · exact ih h

theorem marks_get (mk : List Value) : ∀ (n i j : Nat), i < n → j < mk.length → (marks mk n)[i * mk.length + j]? = mk[j]? := by
  intro n
  induction n with
  | zero => intro i j h; omega
  | succ n ih =>
    intro i j hi hj
    rw [marks]
    cases i with
    | zero => rw [Nat.zero_mul, Nat.zero_add, List.getElem?_append_left hj]
    | succ i =>
      rw [List.getElem?_append_right (by rw [Nat.add_mul]; omega)]
      have e : (i + 1) * mk.length + j - mk.length = i * mk.length + j := by rw [Nat.add_mul]; omega
      rw [e]
      exact ih i j (by omega) hj

theorem own_prefix {w : World} {B : Nat} {e : TypeId} {size g N cap n : Nat} {xs : List Value} (h : w.ownsRow B e size (.slice (some ⟨g, 0, none⟩) N cap) N xs) (hn : n ≤ N) : w.ownsRow B e size (.slice (some ⟨g, 0, none⟩) n cap) n (xs.take (n * size)) := by
  have hle : n * size ≤ N * size := Nat.mul_le_mul_right _ hn
  refine ⟨by rw [List.length_take, h.1]; omega, ?_⟩
  rcases h.2 with ⟨h1, _⟩ | ⟨g', cap', cur, hv, hb, hg, hc, hm, hs, ht⟩
  · cases h1
  · simp at hv
    obtain ⟨rfl, rfl⟩ := hv
    refine .inr ⟨g, cap, cur, rfl, hb, hg, by omega, hm, hs, ?_⟩
    rw [← ht, List.take_take, Nat.min_eq_left hle]

/-- How an append came out: in place, or in a new block. -/
def Appended (w w' : World) (v : Value) (n m : Nat) (v' : Value) : Prop :=
  (∃ g cap, v = .slice (some ⟨g, 0, none⟩) n cap ∧ v' = .slice (some ⟨g, 0, none⟩) (n + m) cap ∧ w.grownBy w' (some g)) ∨ ((∀ k, v'.ownBlock = some k → w.heap.size ≤ k) ∧ w.grownBy w' none)

theorem run_append_keep {P : Program} (w : World) (t ty : TypeId) (e : TypeId) (i : TypeInfo) (z : Value) (size bytes : Nat) (ht : P.underlying t = some (.slice e)) (hi : P.info? e = some i) (hz : i.zero = some z)
    (hsize : i.size = size) (hby : i.bytes = bytes) (hzs : z.cells.size = size) (hsz : 0 < size)
    (v : Value) (n : Nat) (xs : List Value) (hown : w.ownsRow 0 e size v n xs)
    (ad : Addr) (m c : Nat) (news : List Value) (hl : news.length = m * size) (hnews : ∀ j u, news[j]? = some u → w.cell? (ad.add j) = some u) (h1 : ∀ u ∈ news, u.oneCell' = true)
    (hm : 0 < m) (h63 : n + m ≤ maxLen) (hbytes : (n + m) * bytes ≤ 140737488355328) :
    ∃ v' w', (Builtin.append_ #[t, t] ty #[v, .slice (some ad) m c]).run P w = .ok v' w' ∧ w'.ownsRow 0 e size v' (n + m) (xs ++ news) ∧ Appended w w' v n m v' := by
  rcases hown.2 with ⟨rfl, h0⟩ | ⟨g, cap, cur, rfl, hb, hg, hc, hmx, hs, htk⟩
  · obtain ⟨g, cap, w', hr, h2, h3, h4, _⟩ := run_append_lies (P := P) w t ty 0 e i z size bytes ht hi hz hsize hby hzs hsz _ n xs hown ad m c news hl hnews h1 hm h63 hbytes (Nat.zero_le _) _ rfl
    refine ⟨_, w', hr, h2, .inr ⟨fun k hk => ?_, h3⟩⟩
    rcases h4 with h4 | h4
    · simp [Value.ownBlock] at h4
    · simp [Value.ownBlock] at hk; omega
  · by_cases hroom : n + m ≤ cap
    · obtain ⟨w', hr, h2, h3⟩ := run_append_fits (P := P) w 0 t ty e i size ht hi hsize g n cap xs hown ad m c news hl hnews h1 hroom
      exact ⟨_, w', hr, h2, .inl ⟨g, cap, rfl, rfl, h3⟩⟩
    · obtain ⟨v', w', hr, h2, h3⟩ := run_append_arg_grows (P := P) w t ty e i z size bytes ht hi hz hsize hby hzs hsz ⟨g, 0, none⟩ n cap xs hown.1 (fun j u hj => hown.cells (g := g) rfl j u hj) ad m c news hl hnews (by omega) h63 hbytes
      refine ⟨v', w', hr, ⟨h2.1, ?_⟩, .inr ⟨fun k hk => ?_, h3⟩⟩
      · rcases h2.2 with h | ⟨g', cap', cur', hv, hb', r⟩
        · exact .inl h
        · exact .inr ⟨g', cap', cur', hv, Nat.zero_le _, r⟩
      · rcases h2.2 with ⟨rfl, _⟩ | ⟨g', cap', cur', rfl, hb', r⟩
        · simp [Value.ownBlock] at hk
        · simp [Value.ownBlock] at hk; omega

theorem wpList_append_keep {P : Program} {ops : Array Oper} {rest : List Oper} {o : Oper} {a : Act} {Q : Exit → Act → World → Prop} (w : World) (hgd : o.guard = none) (s x : Operand) (t : TypeId)
    (ho : o.op = .call { callee := .builtin .append, args := #[s, x], argTypes := #[t, t] })
    (e : TypeId) (z : Value) (size bytes : Nat) (ht : P.underlying t = some (.slice e)) (hinfo : (P.info? e).map (fun i => (i.zero, i.size, i.bytes)) = some (some z, size, bytes))
    (hzs : z.cells.size = size) (hsz : 0 < size) (hby : bytes ≤ 1000)
    (v : Value) (n m : Nat) (xs : List Value) (X : Nat) (cs : List Value)
    (hs : a.eval s = v) (hown : w.ownsRow 0 e size v n xs) (hX : w.heap[X]? = some (.cells cs.toArray e (0, 0)))
    (hx : a.eval x = .slice (some ⟨X, 0, none⟩) m m) (hl : cs.length = m * size) (h1 : ∀ u ∈ cs, u.oneCell' = true) (hm : 0 < m) (hn : n + m ≤ 100000000)
    (h : ∀ v' w', w'.ownsRow 0 e size v' (n + m) (xs ++ cs) → Appended w w' v n m v' → wpList P ops Q rest (a.put o.dst v') w') :
    wpList P ops Q (o :: rest) a w := by
  obtain ⟨i0, hi, hz0, hz1, hz2⟩ := info_parts hinfo
  refine wpList_plain hgd fun K hK => ?_
  obtain ⟨v', w', hr, h2, h3⟩ := run_append_keep (P := P) w t o.type e i0 z size bytes ht hi hz0 hz1 hz2 hzs hsz v n xs hown ⟨X, 0, none⟩ m m cs hl (fun j u hj => World.news_of_block hX j u (by simpa using hj)) h1 hm (by unfold maxLen; omega)
    (by have : (n + m) * bytes ≤ 100000000 * 1000 := Nat.mul_le_mul hn hby
        omega)
  unfold Oper.wp execOp
  simp only [ho, resolve, invoke, builtin, Sem.run_bind, Sem.run_pure, Result.andThen_ok, List.map_toArray, List.map_cons, List.map_nil, hs, hx, hr]
  exact hK _ _ (h v' w' h2 h3)

/-- As step_push, for longer rows. -/
theorem step_push2 {P : Program} {ops : Array Oper} {o : Oper} {a : Act} {K : Act → World → Prop} {Q : Exit → Act → World → Prop} {E : Prop} (w : World)
    (hgd : o.guard = none) (s x : Operand) (t : TypeId)
    (ho : o.op = .call { callee := .builtin .append, args := #[s, x], argTypes := #[t, t] })
    (e : TypeId) (z : Value) (size bytes : Nat) (ht : P.underlying t = some (.slice e))
    (hinfo : (P.info? e).map (fun i => (i.zero, i.size, i.bytes)) = some (some z, size, bytes))
    (hzs : z.cells.size = size) (hsz : 0 < size) (hby : bytes ≤ 1000)
    (v : Value) (n : Nat) (xs : List Value) (X : Nat) (cs : List Value)
    (hs : a.eval s = v) (hown : w.ownsRow 0 e size v n xs) (hX : w.heap[X]? = some (.cells cs.toArray e (0, 0)))
    (hx : a.eval x = .slice (some ⟨X, 0, none⟩) 1 1) (hl : cs.length = size) (h1 : ∀ u ∈ cs, u.oneCell' = true) (hn : n ≤ 100000000)
    (h : ∀ g cap w', w'.ownsRow 0 e size (.slice (some ⟨g, 0, none⟩) (n + 1) cap) (n + 1) (xs ++ cs) → w.grownBy w' v.ownBlock → (v.ownBlock = some g ∨ g = w.heap.size) → g < w'.heap.size → K (a.put o.dst (.slice (some ⟨g, 0, none⟩) (n + 1) cap)) w') :
    if Region.wanted o (yielded ops a.tmps) = true then Oper.wp P o a w K Q else E := by
  obtain ⟨i0, hi, hz0, hz1, hz2⟩ := info_parts hinfo
  have hw : Region.wanted o (yielded ops a.tmps) = true := by simp [Region.wanted, hgd]
  rw [if_pos hw]
  refine wp_append_lies w s x t ho 0 e i0 z size bytes ht hi hz0 hz1 hz2 hzs hsz v n xs hs hown ⟨X, 0, none⟩ 1 1 cs hx (by omega) (fun j u hj => World.news_of_block hX j u (by simpa using hj)) h1 (by omega) ?_ ?_ (by omega) _ rfl h
  · unfold maxLen; omega
  · have : (n + 1) * bytes ≤ 100000001 * 1000 := Nat.mul_le_mul (by omega) hby
    omega

end Go.Proofs.Herald
