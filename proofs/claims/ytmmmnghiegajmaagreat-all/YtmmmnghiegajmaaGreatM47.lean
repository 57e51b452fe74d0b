import Derived.Test.YtmmmnghiegajmaaGreatM44
import Derived.Lib.ConvBytes
import Derived.Laws.BitsAllLaws
open Go.RowKit Go.Proofs.Herald
namespace Go.Proofs.YtmmmnghiegajmaaGreat
def hG (g:Nat)(M:List Nat)(w:World):Prop:=
 ∃ C:Array Value,w.heap[g]?=some (.cells C 5 (C.size,C.size+1))/\M.length<=C.size/\∀ i (h:i<M.length),C[i]?=some (.int .u8 ((M[i]:Nat):Int))
theorem hG.cell {g:Nat}{M:List Nat}{w:World}(h:hG g M w){i:Nat}(hi:i<M.length):w.cell? ⟨g,i,none⟩=some (.int .u8 ((M[i]:Nat):Int))/\w.frozen? ⟨g,i,none⟩=false:=by
 obtain⟨C,h1,h2,h3⟩:=h;have hc:i<C.size:=by omega
 have A0:¬ (C.size<=i):=by omega
 refine⟨?_,?_⟩
 .simp[World.cell?,h1,h3 i hi]
 .simp[World.frozen?,h1,A0]
theorem hG.same {g:Nat}{M:List Nat}{w w':World}(h:hG g M w)(hs:w'.heap[g]?=w.heap[g]?):hG g M w':=by
 obtain⟨C,h1,h2⟩:=h;exact⟨C,hs.trans h1,h2⟩
theorem hG.set {g:Nat}{M:List Nat}{w:World}(h:hG g M w){j:Nat}(hj:j<M.length)(v:Nat):hG g (M.set j v) (w.setCell ⟨g,j,none⟩ (.int .u8 ((v:Nat):Int))):=by
 obtain⟨C,h1,h2,h3⟩:=h;have A0:j<C.size:=by omega
 refine⟨C.setIfInBounds j (.int .u8 ((v:Nat):Int)),?_,by rw[List.length_set,Array.size_setIfInBounds];exact h2,fun i hi=>?_⟩
 .rw[Array.size_setIfInBounds];exact cG _ h1
 .rw[List.length_set]at hi;rw[List.getElem_set,Array.getElem?_setIfInBounds];split
  .rfl
  .exact h3 i hi
end Go.Proofs.YtmmmnghiegajmaaGreat
