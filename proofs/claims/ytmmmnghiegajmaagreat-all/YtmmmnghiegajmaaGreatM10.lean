import Derived.Test.YtmmmnghiegajmaaGreatM05
import Derived.Deep.RegionHeld3
import Derived.BigRegion
import Derived.BigQuiet
import Derived.Deep.QuietTactic
set_option maxHeartbeats 1000000
open Go.RowKit Go.Proofs.Herald Go.Proofs.Tryz
namespace Go.Proofs.YtmmmnghiegajmaaGreat
def mb (l:List Bool):List Value:=l.map Value.bool
def iH (l:List Int):List Value:=l.map (Value.int .i64)
def mz (S:Nat->Prop)(v:Value):Prop:=∀ k,v.ownBlock=some k->S k
structure ap (t:ByteArray)(w:World)(F:Nat)(S:Nat->Prop)(wv ev nv sv:Value)(st:dw):Prop where
 blk:w.heap[F]?=some (.cells #[wv,ev,.bool st.next,nv,sv] 126)
 inF:S F
 want:w.ownsRow 0 3 1 wv st.want.length (iH st.want.reverse)
 elses:w.ownsRow 0 4 1 ev st.elses.length (mb st.elses.reverse)
 nums:w.ownsRow 0 129 2 nv st.nums.length (jl t st.nums)
 sorts:w.ownsRow 0 3 1 sv st.sorts.length (iH st.sorts)
 wS:mz S wv
 eS:mz S ev
 nS:mz S nv
 sS:mz S sv
 apart:∀ k,wv.ownBlock=some k->sv.ownBlock≠some k
theorem Tryz.infoInt:(prog.info? 3).map (fun i=>(i.zero,i.size,i.bytes))=some (some (.int .i64 0),1,8):=by kernel_rfl
theorem Tryz.infoBool:(prog.info? 4).map (fun i=>(i.zero,i.size,i.bytes))=some (some (.bool false),1,1):=by kernel_rfl
theorem ap.push_want {t:ByteArray}{wr W w1:World}{F:Nat}{S:Nat->Prop}{wv ev nv sv:Value}{st:dw}{g cap n:Nat}(x:Int)(hf:ap t wr F S wv ev nv sv st)(hn:n=st.want.length)(h0:ae wr W)
  (hown1:w1.ownsRow 0 3 1 (.slice (some ⟨g,0,none⟩) (n+1) cap) (n+1) (iH st.want.reverse++[.int .i64 x]))
  (hgrow:W.grownBy w1 wv.ownBlock) (hat:wv.ownBlock=some g\/g=W.heap.size) (hS:∀ k,wr.heap.size<=k->S k):
  ap t (w1.setCell ⟨F,0,none⟩ (.slice (some ⟨g,0,none⟩) (n+1) cap)) F S (.slice (some ⟨g,0,none⟩) (n+1) cap) ev nv sv {st with want:=x::st.want} /\
   Fr S wr (w1.setCell ⟨F,0,none⟩ (.slice (some ⟨g,0,none⟩) (n+1) cap)):=by
 have hs:=h0.size;have A5:wv.ownBlock≠some F:=fun e=>by
  obtain⟨A1,hc⟩:=ax hf.want e;exact aA hc hf.blk (by decide) rfl
 have A2:=cM h0 hgrow hf.blk A5;have A0:∀ k,k≠F->(w1.setCell ⟨F,0,none⟩ (.slice (some ⟨g,0,none⟩) (n+1) cap)).heap[k]?=w1.heap[k]?:=fun k hk=>q8 _ _ _ _ hk;have keep:∀ (u:Value) (e:TypeId),(∃ sz m xs,wr.ownsRow 0 e sz u m xs)->e≠126->(∀ k,u.ownBlock=some k->wv.ownBlock≠some k) ->
   ∀ k,u.ownBlock=some k->(w1.setCell ⟨F,0,none⟩ (.slice (some ⟨g,0,none⟩) (n+1) cap)).heap[k]?=wr.heap[k]?:=by
  rintro u e ⟨sz,m,xs,hu⟩ he A4 k hk;obtain⟨A1,hc⟩:=ax hu hk;rw[A0 k (aA hc hf.blk he)];exact iU h0 hgrow (ak hc) (A4 k hk)
 have A3:g≠F:=by
  obtain⟨A1,hc⟩:=ax hown1 (k:=g) rfl;exact aA hc A2 (by decide)
 subst hn;refine⟨⟨?_,hf.inF,?_,?_,?_,?_,?_,hf.eS,hf.nS,hf.sS,?_⟩,?_⟩
 .rw[cG _ A2];rfl
 .have:=aT hown1 (w':=w1.setCell ⟨F,0,none⟩ (.slice (some ⟨g,0,none⟩) (st.want.length+1) cap)) (fun k hk=>by simp[Value.ownBlock]at hk;subst hk;exact A0 g A3);simpa[iH] using this
 .exact aT hf.elses (keep ev 4 ⟨_,_,_,hf.elses⟩ (by decide) (fun k hk e=>by
   obtain⟨c1,h1⟩:=ax hf.elses hk;obtain⟨c2,h2⟩:=ax hf.want e;exact aA h1 h2 (by decide) rfl))
 .exact aT hf.nums (keep nv 129 ⟨_,_,_,hf.nums⟩ (by decide) (fun k hk e=>by
   obtain⟨c1,h1⟩:=ax hf.nums hk;obtain⟨c2,h2⟩:=ax hf.want e;exact aA h1 h2 (by decide) rfl))
 .exact aT hf.sorts (keep sv 3 ⟨_,_,_,hf.sorts⟩ (by decide) (fun k hk e=>hf.apart k e hk))
 .intro k hk;simp[Value.ownBlock]at hk;subst hk;rcases hat with h|h
  .exact hf.wS g h
  .exact hS g (by omega)
 .intro k hk e;simp[Value.ownBlock]at hk;subst hk;rcases hat with h|h
  .exact hf.apart g h e
  .obtain⟨c1,h1⟩:=ax hf.sorts e;have:=ak h1;omega
 .exact(Fr.of_push h0 hgrow hf.wS).setCell _ (.inl hf.inF) _
theorem ap.push_elses {t:ByteArray}{wr W w1:World}{F:Nat}{S:Nat->Prop}{wv ev nv sv:Value}{st:dw}{g cap n:Nat}(x:Bool)(hf:ap t wr F S wv ev nv sv st)(hn:n=st.elses.length)(h0:ae wr W)
  (hown1:w1.ownsRow 0 4 1 (.slice (some ⟨g,0,none⟩) (n+1) cap) (n+1) (mb st.elses.reverse++[.bool x]))
  (hgrow:W.grownBy w1 ev.ownBlock) (hat:ev.ownBlock=some g\/g=W.heap.size) (hS:∀ k,wr.heap.size<=k->S k):
  ap t (w1.setCell ⟨F,1,none⟩ (.slice (some ⟨g,0,none⟩) (n+1) cap)) F S wv (.slice (some ⟨g,0,none⟩) (n+1) cap) nv sv {st with elses:=x::st.elses} /\
   Fr S wr (w1.setCell ⟨F,1,none⟩ (.slice (some ⟨g,0,none⟩) (n+1) cap)):=by
 have hs:=h0.size;have A5:ev.ownBlock≠some F:=fun e=>by
  obtain⟨A1,hc⟩:=ax hf.elses e;exact aA hc hf.blk (by decide) rfl
 have A2:=cM h0 hgrow hf.blk A5;have A0:∀ k,k≠F->(w1.setCell ⟨F,1,none⟩ (.slice (some ⟨g,0,none⟩) (n+1) cap)).heap[k]?=w1.heap[k]?:=fun k hk=>q8 _ _ _ _ hk;have keep:∀ (u:Value) (e:TypeId),(∃ sz m xs,wr.ownsRow 0 e sz u m xs)->e≠126->(∀ k,u.ownBlock=some k->ev.ownBlock≠some k) ->
   ∀ k,u.ownBlock=some k->(w1.setCell ⟨F,1,none⟩ (.slice (some ⟨g,0,none⟩) (n+1) cap)).heap[k]?=wr.heap[k]?:=by
  rintro u e ⟨sz,m,xs,hu⟩ he A4 k hk;obtain⟨A1,hc⟩:=ax hu hk;rw[A0 k (aA hc hf.blk he)];exact iU h0 hgrow (ak hc) (A4 k hk)
 have A3:g≠F:=by
  obtain⟨A1,hc⟩:=ax hown1 (k:=g) rfl;exact aA hc A2 (by decide)
 subst hn;refine⟨⟨?_,hf.inF,?_,?_,?_,?_,hf.wS,?_,hf.nS,hf.sS,hf.apart⟩,?_⟩
 .rw[cG _ A2];rfl
 .exact aT hf.want (keep wv 3 ⟨_,_,_,hf.want⟩ (by decide) (fun k hk e=>by
   obtain⟨c1,h1⟩:=ax hf.want hk;obtain⟨c2,h2⟩:=ax hf.elses e;exact aA h1 h2 (by decide) rfl))
 .have:=aT hown1 (w':=w1.setCell ⟨F,1,none⟩ (.slice (some ⟨g,0,none⟩) (st.elses.length+1) cap)) (fun k hk=>by simp[Value.ownBlock]at hk;subst hk;exact A0 g A3);simpa[mb] using this
 .exact aT hf.nums (keep nv 129 ⟨_,_,_,hf.nums⟩ (by decide) (fun k hk e=>by
   obtain⟨c1,h1⟩:=ax hf.nums hk;obtain⟨c2,h2⟩:=ax hf.elses e;exact aA h1 h2 (by decide) rfl))
 .exact aT hf.sorts (keep sv 3 ⟨_,_,_,hf.sorts⟩ (by decide) (fun k hk e=>by
   obtain⟨c1,h1⟩:=ax hf.sorts hk;obtain⟨c2,h2⟩:=ax hf.elses e;exact aA h1 h2 (by decide) rfl))
 .intro k hk;simp[Value.ownBlock]at hk;subst hk;rcases hat with h|h
  .exact hf.eS g h
  .exact hS g (by omega)
 .exact(Fr.of_push h0 hgrow hf.eS).setCell _ (.inl hf.inF) _
theorem ap.push_nums {t:ByteArray}{wr W w1:World}{F:Nat}{S:Nat->Prop}{wv ev nv sv:Value}{st:dw}{g cap n:Nat}(x:Nat×Nat)(hf:ap t wr F S wv ev nv sv st)(hn:n=st.nums.length)(h0:ae wr W)
  (hown1:w1.ownsRow 0 129 2 (.slice (some ⟨g,0,none⟩) (n+1) cap) (n+1) (jl t st.nums++[.string (t.extract x.1 x.2),.int .i64 x.1]))
  (hgrow:W.grownBy w1 nv.ownBlock) (hat:nv.ownBlock=some g\/g=W.heap.size) (hS:∀ k,wr.heap.size<=k->S k):
  ap t (w1.setCell ⟨F,3,none⟩ (.slice (some ⟨g,0,none⟩) (n+1) cap)) F S wv ev (.slice (some ⟨g,0,none⟩) (n+1) cap) sv {st with nums:=st.nums++[x]} /\
   Fr S wr (w1.setCell ⟨F,3,none⟩ (.slice (some ⟨g,0,none⟩) (n+1) cap)):=by
 have hs:=h0.size;have A5:nv.ownBlock≠some F:=fun e=>by
  obtain⟨A1,hc⟩:=ax hf.nums e;exact aA hc hf.blk (by decide) rfl
 have A2:=cM h0 hgrow hf.blk A5;have A0:∀ k,k≠F->(w1.setCell ⟨F,3,none⟩ (.slice (some ⟨g,0,none⟩) (n+1) cap)).heap[k]?=w1.heap[k]?:=fun k hk=>q8 _ _ _ _ hk;have keep:∀ (u:Value) (e:TypeId),(∃ sz m xs,wr.ownsRow 0 e sz u m xs)->e≠126->(∀ k,u.ownBlock=some k->nv.ownBlock≠some k) ->
   ∀ k,u.ownBlock=some k->(w1.setCell ⟨F,3,none⟩ (.slice (some ⟨g,0,none⟩) (n+1) cap)).heap[k]?=wr.heap[k]?:=by
  rintro u e ⟨sz,m,xs,hu⟩ he A4 k hk;obtain⟨A1,hc⟩:=ax hu hk;rw[A0 k (aA hc hf.blk he)];exact iU h0 hgrow (ak hc) (A4 k hk)
 have A3:g≠F:=by
  obtain⟨A1,hc⟩:=ax hown1 (k:=g) rfl;exact aA hc A2 (by decide)
 subst hn;refine⟨⟨?_,hf.inF,?_,?_,?_,?_,hf.wS,hf.eS,?_,hf.sS,hf.apart⟩,?_⟩
 .rw[cG _ A2];rfl
 .exact aT hf.want (keep wv 3 ⟨_,_,_,hf.want⟩ (by decide) (fun k hk e=>by
   obtain⟨c1,h1⟩:=ax hf.want hk;obtain⟨c2,h2⟩:=ax hf.nums e;exact aA h1 h2 (by decide) rfl))
 .exact aT hf.elses (keep ev 4 ⟨_,_,_,hf.elses⟩ (by decide) (fun k hk e=>by
   obtain⟨c1,h1⟩:=ax hf.elses hk;obtain⟨c2,h2⟩:=ax hf.nums e;exact aA h1 h2 (by decide) rfl))
 .have:=aT hown1 (w':=w1.setCell ⟨F,3,none⟩ (.slice (some ⟨g,0,none⟩) (st.nums.length+1) cap)) (fun k hk=>by simp[Value.ownBlock]at hk;subst hk;exact A0 g A3);simpa[px] using this
 .exact aT hf.sorts (keep sv 3 ⟨_,_,_,hf.sorts⟩ (by decide) (fun k hk e=>by
   obtain⟨c1,h1⟩:=ax hf.sorts hk;obtain⟨c2,h2⟩:=ax hf.nums e;exact aA h1 h2 (by decide) rfl))
 .intro k hk;simp[Value.ownBlock]at hk;subst hk;rcases hat with h|h
  .exact hf.nS g h
  .exact hS g (by omega)
 .exact(Fr.of_push h0 hgrow hf.nS).setCell _ (.inl hf.inF) _
theorem ap.push_sorts {t:ByteArray}{wr W w1:World}{F:Nat}{S:Nat->Prop}{wv ev nv sv:Value}{st:dw}{g cap n:Nat}(x:Int)(hf:ap t wr F S wv ev nv sv st)(hn:n=st.sorts.length)(h0:ae wr W)
  (hown1:w1.ownsRow 0 3 1 (.slice (some ⟨g,0,none⟩) (n+1) cap) (n+1) (iH st.sorts++[.int .i64 x]))
  (hgrow:W.grownBy w1 sv.ownBlock) (hat:sv.ownBlock=some g\/g=W.heap.size) (hS:∀ k,wr.heap.size<=k->S k):
  ap t (w1.setCell ⟨F,4,none⟩ (.slice (some ⟨g,0,none⟩) (n+1) cap)) F S wv ev nv (.slice (some ⟨g,0,none⟩) (n+1) cap) {st with sorts:=st.sorts++[x]} /\
   Fr S wr (w1.setCell ⟨F,4,none⟩ (.slice (some ⟨g,0,none⟩) (n+1) cap)):=by
 have hs:=h0.size;have A5:sv.ownBlock≠some F:=fun e=>by
  obtain⟨A1,hc⟩:=ax hf.sorts e;exact aA hc hf.blk (by decide) rfl
 have A2:=cM h0 hgrow hf.blk A5;have A0:∀ k,k≠F->(w1.setCell ⟨F,4,none⟩ (.slice (some ⟨g,0,none⟩) (n+1) cap)).heap[k]?=w1.heap[k]?:=fun k hk=>q8 _ _ _ _ hk;have keep:∀ (u:Value) (e:TypeId),(∃ sz m xs,wr.ownsRow 0 e sz u m xs)->e≠126->(∀ k,u.ownBlock=some k->sv.ownBlock≠some k) ->
   ∀ k,u.ownBlock=some k->(w1.setCell ⟨F,4,none⟩ (.slice (some ⟨g,0,none⟩) (n+1) cap)).heap[k]?=wr.heap[k]?:=by
  rintro u e ⟨sz,m,xs,hu⟩ he A4 k hk;obtain⟨A1,hc⟩:=ax hu hk;rw[A0 k (aA hc hf.blk he)];exact iU h0 hgrow (ak hc) (A4 k hk)
 have A3:g≠F:=by
  obtain⟨A1,hc⟩:=ax hown1 (k:=g) rfl;exact aA hc A2 (by decide)
 subst hn;refine⟨⟨?_,hf.inF,?_,?_,?_,?_,hf.wS,hf.eS,hf.nS,?_,?_⟩,?_⟩
 .rw[cG _ A2];rfl
 .exact aT hf.want (keep wv 3 ⟨_,_,_,hf.want⟩ (by decide) (fun k hk e=>hf.apart k hk e))
 .exact aT hf.elses (keep ev 4 ⟨_,_,_,hf.elses⟩ (by decide) (fun k hk e=>by
   obtain⟨c1,h1⟩:=ax hf.elses hk;obtain⟨c2,h2⟩:=ax hf.sorts e;exact aA h1 h2 (by decide) rfl))
 .exact aT hf.nums (keep nv 129 ⟨_,_,_,hf.nums⟩ (by decide) (fun k hk e=>by
   obtain⟨c1,h1⟩:=ax hf.nums hk;obtain⟨c2,h2⟩:=ax hf.sorts e;exact aA h1 h2 (by decide) rfl))
 .have:=aT hown1 (w':=w1.setCell ⟨F,4,none⟩ (.slice (some ⟨g,0,none⟩) (st.sorts.length+1) cap)) (fun k hk=>by simp[Value.ownBlock]at hk;subst hk;exact A0 g A3);simpa[iH] using this
 .intro k hk;simp[Value.ownBlock]at hk;subst hk;rcases hat with h|h
  .exact hf.sS g h
  .exact hS g (by omega)
 .intro k e hk;simp[Value.ownBlock]at hk;subst hk;rcases hat with h|h
  .exact hf.apart g e h
  .obtain⟨c1,h1⟩:=ax hf.want e;have:=ak h1;omega
 .exact(Fr.of_push h0 hgrow hf.sS).setCell _ (.inl hf.inF) _
theorem Eo (t:ByteArray)(F A cap0:Nat)(S:Nat->Prop)(wv ev nv sv:Value)(st:dw)(ls:List Int)(w:World)(hf:ap t w F S wv ev nv sv st)(hS:∀ k,w.heap.size<=k->S k)
  (hA:w.heap[A]?=some (.cells (iH ls).toArray 3 (0,0))) (hlen:ls.length<=10):
  Calls prog 88 #[.pointer (some ⟨F,0,none⟩),.slice (some ⟨A,0,none⟩) ls.length cap0] w fun e w'=>e=.returned (.tuple #[]) /\
   ∃ wv',ap t w' F S wv' ev nv sv {st with want:=ls}/\Fr S w w':=by
 have A4:w.cell? ⟨F,0,none⟩=some wv:=by rw[ag hf.blk];rfl
 have A5:w.frozen? ⟨F,0,none⟩=false:=aC hf.blk;go_enter func88,ntmps88
 go_wp2
 go_loopw [4] (fun i wr=>∃ (k:Nat) (v:Value),k<=ls.length/\i=.int .i64 ((k:Int) - 1)/\ap t wr F S v ev nv sv {st with want:=ls.drop k}/\Fr S w wr /\
   wr.heap[A]?=some (.cells (iH ls).toArray 3 (0,0))/\(∀ g,v.ownBlock=some g->w.heap.size<=g))
  (fun i _=>(intOf i+1).toNat)
 case atStart=>
  have A0:∀ k,k≠F->(w.setCell ⟨F,0,none⟩ (.slice none 0 0)).heap[k]?=w.heap[k]?:=fun k hk=>q8 _ _ _ _ hk;refine⟨ls.length,.slice none 0 0,v9 _,by go_num,⟨?_,hf.inF,?_,?_,?_,?_,?_,hf.eS,hf.nS,hf.sS,?_⟩,(Fr.refl S w).setCell _ (.inl hf.inF) _,?_,?_⟩
  .rw[cG _ hf.blk];rfl
  .simpa [iH] using Qg _ 0 3 1
  .exact aT hf.elses (fun k hk=>by obtain⟨c1,h1⟩:=ax hf.elses hk;exact A0 k (aA h1 hf.blk (by decide)))
  .exact aT hf.nums (fun k hk=>by obtain⟨c1,h1⟩:=ax hf.nums hk;exact A0 k (aA h1 hf.blk (by decide)))
  .exact aT hf.sorts (fun k hk=>by obtain⟨c1,h1⟩:=ax hf.sorts hk;exact A0 k (aA h1 hf.blk (by decide)))
  iterate 2
   .intro k hk;simp[Value.ownBlock]at hk
  .rw[A0 A (aA hA hf.blk (by decide))];exact hA
  .intro k hk;simp[Value.ownBlock]at hk
 case round=>
  obtain⟨k,v,hk,rfl,A1,hF,A3,A6⟩:=hrel;clear A4 A5;have A4:wr.cell? ⟨F,0,none⟩=some v:=by rw[ag A1.blk];rfl
  have A5:wr.frozen? ⟨F,0,none⟩=false:=aC A1.blk;have B0:=ak A1.blk;by_cases h0:0<k
  .obtain⟨j,rfl⟩:∃ j,k=j+1:=⟨k - 1,by omega⟩;have A9:wr.cell? ⟨A,j,none⟩=some (.int .i64 ls[j]):=by rw[ag A3];simp[iH]
   have A7:j<ls.length:=by omega
   have e1:((j+1:Nat):Int) - 1=(j:Int):=by omega
   rw[e1];have A2:=A1.want;simp only at A2;have HF:=ah A1;have HA:=ah A3;have HV:Hid (v.ownBlock≠some F):=fun e=>by obtain⟨A8,hc⟩:=ax A1.want e;exact aA hc A1.blk (by decide) rfl
   clear hf A1 A3;go_wp2
   go_region_law (refine oG _ rfl (.tmp 19) (.tmp 24) 123 rfl 3 _ 1 8 underlying123 Tryz.infoInt rfl (by decide) (by decide) v _ _ wr.heap.size [.int .i64 ls[j]] (by rfl) (by exact A2.alloc _) (by exact v8 _ _) (by rfl) rfl (by simp[Value.oneCell']) (by simp;omega) ?_;intro g cap w1 hown1 hgrow hat hlt;have B1:w1.cell? ⟨F,0,none⟩=some v:=(ag (cM (ae.alloc _ _).drew hgrow HF.blk HV)).trans rfl;have B2:w1.frozen? ⟨F,0,none⟩=false:=aC (cM (ae.alloc _ _).drew hgrow HF.blk HV))
   all_goals
    go_wp2
    go_roundw;case rel=>
     have B3:(wr.alloc (.cells #[.int .i64 ls[j]] 3)).drew.heap.size=wr.heap.size+1:=by show(wr.alloc _).heap.size=_;simp
     have B4:=hF.size;obtain⟨p1,p2⟩:=HF.push_want (n:=ls.length - (j+1)) ls[j] (by simp) (ae.alloc _ _).drew (by simpa using hown1) hgrow hat (fun q hq=>hS q (by omega));refine⟨j,.slice (some ⟨g,0,none⟩) (ls.length - (j+1)+1) cap,by omega,by go_num,?_,hF.trans p2,?_,?_⟩
     .have:=p1;simp only[lu ls j A7];exact this
     .rw[q8 _ _ _ _ (aA HA HF.blk (by decide))];exact cM (ae.alloc _ _).drew hgrow HA (fun e=>by have:=A6 A e;have:=ak hA;omega)
     .intro q hq;simp[Value.ownBlock]at hq;subst hq;rcases hat with h|h
      .exact A6 _ h
      .omega
    case measure=>simp[intOf]
  .obtain rfl:k=0:=by omega
   have HF:=ah A1;clear hf A1 A3;go_wp2
   go_end0;exact⟨rfl,v,HF,hF⟩
theorem ap.keep {t:ByteArray}{w w':World}{F:Nat}{S:Nat->Prop}{wv ev nv sv:Value}{st:dw}(hf:ap t w F S wv ev nv sv st)(h:∀ k,k<w.heap.size->w'.heap[k]?=w.heap[k]?):ap t w' F S wv ev nv sv st:=by
 have own:∀ {e:TypeId} {sz:Nat} {v:Value} {n:Nat} {xs:List Value},w.ownsRow 0 e sz v n xs->w'.ownsRow 0 e sz v n xs:=fun ho=>
  aT ho (fun k hk=>by obtain⟨c,hc⟩:=ax ho hk;exact h k (ak hc))
 exact⟨by rw[h F (ak hf.blk)];exact hf.blk,hf.inF,own hf.want,own hf.elses,own hf.nums,own hf.sorts,hf.wS,hf.eS,hf.nS,hf.sS,hf.apart⟩
theorem ap.alloc {t:ByteArray}{w:World}{F:Nat}{S:Nat->Prop}{wv ev nv sv:Value}{st:dw}(hf:ap t w F S wv ev nv sv st)(o:Obj):ap t (w.alloc o) F S wv ev nv sv st:=
 hf.keep (fun _ hk=>q9 _ _ _ hk)
theorem ap.drew {t:ByteArray}{w:World}{F:Nat}{S:Nat->Prop}{wv ev nv sv:Value}{st:dw}(hf:ap t w F S wv ev nv sv st):ap t w.drew F S wv ev nv sv st:=
 hf.keep (fun _ _=>rfl)
theorem ap.mono {t:ByteArray}{w:World}{F:Nat}{S T:Nat->Prop}{wv ev nv sv:Value}{st:dw}(hf:ap t w F S wv ev nv sv st)(h:∀ k,S k->T k):ap t w F T wv ev nv sv st:=
 ⟨hf.blk,h _ hf.inF,hf.want,hf.elses,hf.nums,hf.sorts,fun k hk=>h k (hf.wS k hk),fun k hk=>h k (hf.eS k hk),fun k hk=>h k (hf.nS k hk),fun k hk=>h k (hf.sS k hk),hf.apart⟩
theorem ap.guard {t:ByteArray}{w:World}{F:Nat}{S:Nat->Prop}{wv ev nv sv:Value}{st:dw}(hf:ap t w F S wv ev nv sv st)(X:Nat)(hX:w.heap.size<=X):ap t w F (fun k=>S k/\k≠X) wv ev nv sv st:=by
 have own:∀ {e:TypeId} {sz:Nat} {v:Value} {n:Nat} {xs:List Value},w.ownsRow 0 e sz v n xs->mz S v->mz (fun k=>S k/\k≠X) v:=fun ho hs k hk=>by
  obtain⟨c,hc⟩:=ax ho hk;have:=ak hc;exact⟨hs k hk,by omega⟩
 exact⟨hf.blk,⟨hf.inF,by have:=ak hf.blk;omega⟩,hf.want,hf.elses,hf.nums,hf.sorts,own hf.want hf.wS,own hf.elses hf.eS,own hf.nums hf.nS,own hf.sorts hf.sS,hf.apart⟩
theorem ap.next {t:ByteArray}{w:World}{F:Nat}{S:Nat->Prop}{wv ev nv sv:Value}{st:dw}(hf:ap t w F S wv ev nv sv st)(b:Bool):ap t (w.setCell ⟨F,2,none⟩ (.bool b)) F S wv ev nv sv {st with next:=b}:=by
 have A0:∀ k,k≠F->(w.setCell ⟨F,2,none⟩ (.bool b)).heap[k]?=w.heap[k]?:=fun k hk=>q8 _ _ _ _ hk;have own:∀ {e:TypeId} {sz:Nat} {v:Value} {n:Nat} {xs:List Value},e≠126->w.ownsRow 0 e sz v n xs->(w.setCell ⟨F,2,none⟩ (.bool b)).ownsRow 0 e sz v n xs:=fun he ho=>
  aT ho (fun k hk=>by obtain⟨c,hc⟩:=ax ho hk;exact A0 k (aA hc hf.blk he))
 exact⟨by rw[cG _ hf.blk];rfl,hf.inF,own (by decide) hf.want,own (by decide) hf.elses,own (by decide) hf.nums,own (by decide) hf.sorts,hf.wS,hf.eS,hf.nS,hf.sS,hf.apart⟩
theorem ap.pop {t:ByteArray}{w:World}{F:Nat}{S:Nat->Prop}{wv nv sv:Value}{st:dw}{g cap:Nat}{e:Bool}{r:List Bool}(hf:ap t w F S wv (.slice (some ⟨g,0,none⟩) (r.length+1) cap) nv sv st)(he:st.elses=e::r):
  ap t (w.setCell ⟨F,1,none⟩ (.slice (some ⟨g,0,none⟩) r.length cap)) F S wv (.slice (some ⟨g,0,none⟩) r.length cap) nv sv {st with elses:=r}:=by
 have A0:∀ k,k≠F->(w.setCell ⟨F,1,none⟩ (.slice (some ⟨g,0,none⟩) r.length cap)).heap[k]?=w.heap[k]?:=fun k hk=>q8 _ _ _ _ hk;have own:∀ {e:TypeId} {sz:Nat} {v:Value} {n:Nat} {xs:List Value},e≠126->w.ownsRow 0 e sz v n xs->(w.setCell ⟨F,1,none⟩ (.slice (some ⟨g,0,none⟩) r.length cap)).ownsRow 0 e sz v n xs:=fun he ho=>
  aT ho (fun k hk=>by obtain⟨c,hc⟩:=ax ho hk;exact A0 k (aA hc hf.blk he))
 have A1:=own (by decide) hf.elses;refine⟨by rw[cG _ hf.blk];rfl,hf.inF,own (by decide) hf.want,?_,own (by decide) hf.nums,own (by decide) hf.sorts,hf.wS,hf.eS,hf.nS,hf.sS,hf.apart⟩;refine⟨by simp[mb],.inr ?_⟩;rcases A1.2 with ⟨h1,_⟩|⟨g',cap',cur,hv,hb,hg,hn,hm,hs,ht⟩
 .cases h1
 .simp at hv;obtain⟨rfl,h2,rfl⟩:=hv;rw[he]at hn ht;refine⟨g,cap,cur,rfl,hb,hg,by show r.length<=_;simp at hn;omega,hm,hs,?_⟩;simp only[Nat.mul_one]at ht ⊢;have:cur.toList.take r.length=(cur.toList.take (e::r).length).take r.length:=by rw[List.take_take];congr 1;simp
  rw[this,ht];simp[mb]
theorem kG (t:ByteArray)(F A cap0 n:Nat)(S:Nat->Prop)(wv ev nv sv:Value)(st:dw)(ls:List Int)(w:World)(hf:ap t w F S wv ev nv sv st)(hS:∀ k,w.heap.size<=k->S k)
  (hA:w.heap[A]?=some (.cells (iH ls).toArray 3 (0,0))) (hn:n=ls.length) (hlen:n<=10):
  Calls prog 88 #[.pointer (some ⟨F,0,none⟩),.slice (some ⟨A,0,none⟩) n cap0] w fun e w'=>e=.returned (.tuple #[]) /\
   ∃ wv',ap t w' F S wv' ev nv sv {st with want:=ls}/\Fr S w w':=by
 subst hn;exact Eo t F A cap0 S wv ev nv sv st ls w hf hS hA hlen
theorem AO (t s:ByteArray)(F:Nat)(at0 mode:Int)(S:Nat->Prop)(wv ev nv sv:Value)(st:dw)(w:World)(hf:ap t w F S wv ev nv sv st)(hS:∀ k,w.heap.size<=k->S k)(h:s.data.toList=eA):
  Calls prog 87 #[.pointer (some ⟨F,0,none⟩),.agg #[.string s,.int .i64 at0],.int .i64 mode] w fun e w'=>e=.returned (.bool true) /\
   (∃ wv' ev',ap t w' F S wv' ev' nv sv {st with want:=[2,0]})/\Fr S w w':=by
 have y:(s.toList==[115,101,110,100])=true:=du h;clear h;go_enter func87,ntmps87
 go_wp2_with fail
 refine(kG t F (w.heap.size+1) 2 2 S wv ev nv sv st [2,0] _ ?_ ?_ ?_ rfl (by decide)).mono ?_
 .exact(hf.alloc _).alloc _
 .intro k hk;exact hS k (by simp at hk;omega)
 .exact ey _ _ _
 rintro e w1 ⟨rfl,A2,A1,A0⟩;go_wp2
 go_ret;exact⟨rfl,⟨_,_,A1⟩,(((Fr.refl S w).alloc _).alloc _).trans A0⟩
theorem AQ (t s:ByteArray)(F:Nat)(at0 mode:Int)(S:Nat->Prop)(wv ev nv sv:Value)(st:dw)(w:World)(hf:ap t w F S wv ev nv sv st)(hS:∀ k,w.heap.size<=k->S k)(h:s.data.toList=eJ):
  Calls prog 87 #[.pointer (some ⟨F,0,none⟩),.agg #[.string s,.int .i64 at0],.int .i64 mode] w fun e w'=>e=.returned (.bool true) /\
   (∃ wv' ev',ap t w' F S wv' ev' nv sv {st with want:=[3,0]})/\Fr S w w':=by
 have n0:(s.toList==[115,101,110,100])=false:=bg (by rw[h];decide);have y:(s.toList==[119,97,105,116])=true:=du h;clear h;go_enter func87,ntmps87
 go_wp2_with fail
 refine(kG t F (w.heap.size+1) 2 2 S wv ev nv sv st [3,0] _ ?_ ?_ ?_ rfl (by decide)).mono ?_
 .exact(hf.alloc _).alloc _
 .intro k hk;exact hS k (by simp at hk;omega)
 .exact ey _ _ _
 rintro e w1 ⟨rfl,A2,A1,A0⟩;go_wp2
 go_ret;exact⟨rfl,⟨_,_,A1⟩,(((Fr.refl S w).alloc _).alloc _).trans A0⟩
theorem AP (t s:ByteArray)(F:Nat)(at0 mode:Int)(S:Nat->Prop)(wv ev nv sv:Value)(st:dw)(w:World)(hf:ap t w F S wv ev nv sv st)(hS:∀ k,w.heap.size<=k->S k)(h:s.data.toList=eX):
  Calls prog 87 #[.pointer (some ⟨F,0,none⟩),.agg #[.string s,.int .i64 at0],.int .i64 mode] w fun e w'=>e=.returned (.bool true) /\
   (∃ wv' ev',ap t w' F S wv' ev' nv sv {st with want:=[0]})/\Fr S w w':=by
 have n0:(s.toList==[115,101,110,100])=false:=bg (by rw[h];decide);have n1:(s.toList==[119,97,105,116])=false:=bg (by rw[h];decide);have y:(s.toList==[115,116,111,112])=true:=du h;clear h;go_enter func87,ntmps87
 go_wp2_with fail
 refine(kG t F (w.heap.size+1) 1 1 S wv ev nv sv st [0] _ ?_ ?_ ?_ rfl (by decide)).mono ?_
 .exact(hf.alloc _).alloc _
 .intro k hk;exact hS k (by simp at hk;omega)
 .exact ey _ _ _
 rintro e w1 ⟨rfl,A2,A1,A0⟩;go_wp2
 go_ret;exact⟨rfl,⟨_,_,A1⟩,(((Fr.refl S w).alloc _).alloc _).trans A0⟩
theorem Dj (t s:ByteArray)(F:Nat)(at0 mode:Int)(S:Nat->Prop)(wv ev nv sv:Value)(st:dw)(w:World)(hf:ap t w F S wv ev nv sv st)(hS:∀ k,w.heap.size<=k->S k)(h:s.data.toList=dV):
  Calls prog 87 #[.pointer (some ⟨F,0,none⟩),.agg #[.string s,.int .i64 at0],.int .i64 mode] w fun e w'=>e=.returned (.bool true) /\
   (∃ wv' ev',ap t w' F S wv' ev' nv sv {st with want:=[2,3,6],next:=true})/\Fr S w w':=by
 have n0:(s.toList==[115,101,110,100])=false:=bg (by rw[h];decide);have n1:(s.toList==[119,97,105,116])=false:=bg (by rw[h];decide);have n2:(s.toList==[115,116,111,112])=false:=bg (by rw[h];decide);have y:(s.toList==[97,115,107])=true:=du h;clear h;go_enter func87,ntmps87
 go_wp2_with fail
 refine(kG t F (w.heap.size+1) 3 3 S wv ev nv sv st [2,3,6] _ ?_ ?_ ?_ rfl (by decide)).mono ?_
 .exact(hf.alloc _).alloc _
 .intro k hk;exact hS k (by simp at hk;omega)
 .exact ey _ _ _
 rintro e w1 ⟨rfl,A5,A0,A2⟩;have A3:w1.cell? ⟨F,2,none⟩=some (.bool st.next):=(ag A0.blk).trans rfl;have A4:w1.frozen? ⟨F,2,none⟩=false:=aC A0.blk;have A1:=ah A0;clear A0;go_wp2
 go_ret;exact⟨rfl,⟨_,_,A1.next true⟩,((((Fr.refl S w).alloc _).alloc _).trans A2).setCell _ (.inl hf.inF) _⟩
theorem zx (t s:ByteArray)(F:Nat)(at0 mode:Int)(S:Nat->Prop)(wv ev nv sv:Value)(st:dw)(w:World)(hf:ap t w F S wv ev nv sv st)(hS:∀ k,w.heap.size<=k->S k)(h:s.data.toList=dL):
  Calls prog 87 #[.pointer (some ⟨F,0,none⟩),.agg #[.string s,.int .i64 at0],.int .i64 mode] w fun e w'=>e=.returned (.bool true) /\
   (∃ wv' ev',ap t w' F S wv' ev' nv sv {st with want:=[4,2,3,6],next:=true})/\Fr S w w':=by
 have n0:(s.toList==[115,101,110,100])=false:=bg (by rw[h];decide);have n1:(s.toList==[119,97,105,116])=false:=bg (by rw[h];decide);have n2:(s.toList==[115,116,111,112])=false:=bg (by rw[h];decide);have n3:(s.toList==[97,115,107])=false:=bg (by rw[h];decide);have y:(s.toList==[114,101,116,114,121])=true:=du h;clear h;go_enter func87,ntmps87
 go_wp2_with fail
 refine(kG t F (w.heap.size+1) 4 4 S wv ev nv sv st [4,2,3,6] _ ?_ ?_ ?_ rfl (by decide)).mono ?_
 .exact(hf.alloc _).alloc _
 .intro k hk;exact hS k (by simp at hk;omega)
 .exact ey _ _ _
 rintro e w1 ⟨rfl,A5,A0,A2⟩;have A3:w1.cell? ⟨F,2,none⟩=some (.bool st.next):=(ag A0.blk).trans rfl;have A4:w1.frozen? ⟨F,2,none⟩=false:=aC A0.blk;have A1:=ah A0;clear A0;go_wp2
 go_ret;exact⟨rfl,⟨_,_,A1.next true⟩,((((Fr.refl S w).alloc _).alloc _).trans A2).setCell _ (.inl hf.inF) _⟩
theorem zm (t s:ByteArray)(F:Nat)(at0 mode:Int)(S:Nat->Prop)(wv ev nv sv:Value)(st:dw)(w:World)(hf:ap t w F S wv ev nv sv st)(hS:∀ k,w.heap.size<=k->S k)(h:s.data.toList=ch):
  Calls prog 87 #[.pointer (some ⟨F,0,none⟩),.agg #[.string s,.int .i64 at0],.int .i64 mode] w fun e w'=>e=.returned (.bool true) /\
   (∃ wv' ev',ap t w' F S wv' ev' nv sv {st with want:=[5,6],next:=false})/\Fr S w w':=by
 have n0:(s.toList==[115,101,110,100])=false:=bg (by rw[h];decide);have n1:(s.toList==[119,97,105,116])=false:=bg (by rw[h];decide);have n2:(s.toList==[115,116,111,112])=false:=bg (by rw[h];decide);have n3:(s.toList==[97,115,107])=false:=bg (by rw[h];decide);have n4:(s.toList==[114,101,116,114,121])=false:=bg (by rw[h];decide);have y:(s.toList==[114,101,112,101,97,116])=true:=du h;clear h;go_enter func87,ntmps87
 go_wp2_with fail
 refine(kG t F (w.heap.size+1) 2 2 S wv ev nv sv st [5,6] _ ?_ ?_ ?_ rfl (by decide)).mono ?_
 .exact(hf.alloc _).alloc _
 .intro k hk;exact hS k (by simp at hk;omega)
 .exact ey _ _ _
 rintro e w1 ⟨rfl,A5,A0,A2⟩;have A3:w1.cell? ⟨F,2,none⟩=some (.bool st.next):=(ag A0.blk).trans rfl;have A4:w1.frozen? ⟨F,2,none⟩=false:=aC A0.blk;have A1:=ah A0;clear A0;go_wp2
 go_ret;exact⟨rfl,⟨_,_,A1.next false⟩,((((Fr.refl S w).alloc _).alloc _).trans A2).setCell _ (.inl hf.inF) _⟩
theorem AN (t s:ByteArray)(F:Nat)(at0 mode:Int)(S:Nat->Prop)(wv ev nv sv:Value)(st:dw)(w:World)(hf:ap t w F S wv ev nv sv st)(hS:∀ k,w.heap.size<=k->S k)(h:s.data.toList=fE):
  Calls prog 87 #[.pointer (some ⟨F,0,none⟩),.agg #[.string s,.int .i64 at0],.int .i64 mode] w fun e w'=>e=.returned (.bool (mode==1)) /\
   (∃ wv' ev',ap t w' F S wv' ev' nv sv {st with want:=[6],next:=false})/\Fr S w w':=by
 have n0:(s.toList==[115,101,110,100])=false:=bg (by rw[h];decide);have n1:(s.toList==[119,97,105,116])=false:=bg (by rw[h];decide);have n2:(s.toList==[115,116,111,112])=false:=bg (by rw[h];decide);have n3:(s.toList==[97,115,107])=false:=bg (by rw[h];decide);have n4:(s.toList==[114,101,116,114,121])=false:=bg (by rw[h];decide);have n5:(s.toList==[114,101,112,101,97,116])=false:=bg (by rw[h];decide);have y:(s.toList==[101,108,115,101])=true:=du h;clear h;go_enter func87,ntmps87
 go_wp2_with fail
 refine(kG t F (w.heap.size+1) 1 1 S wv ev nv sv st [6] _ ?_ ?_ ?_ rfl (by decide)).mono ?_
 .exact(hf.alloc _).alloc _
 .intro k hk;exact hS k (by simp at hk;omega)
 .exact ey _ _ _
 rintro e w1 ⟨rfl,A5,A0,A2⟩;have A3:w1.cell? ⟨F,2,none⟩=some (.bool st.next):=(ag A0.blk).trans rfl;have A4:w1.frozen? ⟨F,2,none⟩=false:=aC A0.blk;have A1:=ah A0;clear A0;go_wp2
 go_ret;exact⟨rfl,⟨_,_,A1.next false⟩,((((Fr.refl S w).alloc _).alloc _).trans A2).setCell _ (.inl hf.inF) _⟩
theorem zC (t s:ByteArray)(F:Nat)(at0 mode:Int)(S:Nat->Prop)(wv ev nv sv:Value)(st:dw)(w:World)(hf:ap t w F S wv ev nv sv st)(_hS:∀ k,w.heap.size<=k->S k)(h:s.data.toList=dh)(he:st.elses=[]):
  Calls prog 87 #[.pointer (some ⟨F,0,none⟩),.agg #[.string s,.int .i64 at0],.int .i64 mode] w fun e w'=>e=.returned (.bool false)/\Fr S w w':=by
 have n0:(s.toList==[115,101,110,100])=false:=bg (by rw[h];decide);have n1:(s.toList==[119,97,105,116])=false:=bg (by rw[h];decide);have n2:(s.toList==[115,116,111,112])=false:=bg (by rw[h];decide);have n3:(s.toList==[97,115,107])=false:=bg (by rw[h];decide);have n4:(s.toList==[114,101,116,114,121])=false:=bg (by rw[h];decide);have n5:(s.toList==[114,101,112,101,97,116])=false:=bg (by rw[h];decide);have n6:(s.toList==[101,108,115,101])=false:=bg (by rw[h];decide);have y:(s.toList==[125])=true:=du h;clear h;have A1:∃ a A0,ev=.slice a 0 A0:=by
  rcases hf.elses.2 with ⟨h1,_⟩|⟨g,A0,cur,h1,_⟩
  .exact⟨_,_,h1⟩
  .rw[he]at h1;exact⟨_,_,h1⟩
 obtain⟨a,A0,rfl⟩:=A1;have A2:w.cell? ⟨F,1,none⟩=some (.slice a 0 A0):=(ag hf.blk).trans rfl;have A3:=ak hf.blk;go_enter func87,ntmps87
 go_wp2
 go_ret;exact⟨rfl,(Fr.refl S w).alloc _⟩
theorem zD (t s:ByteArray)(F:Nat)(at0 mode:Int)(S:Nat->Prop)(wv ev nv sv:Value)(st:dw)(w:World)(hf:ap t w F S wv ev nv sv st)(hS:∀ k,w.heap.size<=k->S k)(h:s.data.toList=dh)(r:List Bool)(he:st.elses=true::r)(hlen:r.length<=1000):
  Calls prog 87 #[.pointer (some ⟨F,0,none⟩),.agg #[.string s,.int .i64 at0],.int .i64 mode] w fun e w'=>e=.returned (.bool true) /\
   (∃ wv' ev',ap t w' F S wv' ev' nv sv {st with want:=[1],elses:=r})/\Fr S w w':=by
 have n0:(s.toList==[115,101,110,100])=false:=bg (by rw[h];decide);have n1:(s.toList==[119,97,105,116])=false:=bg (by rw[h];decide);have n2:(s.toList==[115,116,111,112])=false:=bg (by rw[h];decide);have n3:(s.toList==[97,115,107])=false:=bg (by rw[h];decide);have n4:(s.toList==[114,101,116,114,121])=false:=bg (by rw[h];decide);have n5:(s.toList==[114,101,112,101,97,116])=false:=bg (by rw[h];decide);have n6:(s.toList==[101,108,115,101])=false:=bg (by rw[h];decide);have y:(s.toList==[125])=true:=du h;clear h;obtain⟨g,A0,hv,_,_⟩:=hf.elses.form (by rw[he];simp);have A7:ev=.slice (some ⟨g,0,none⟩) (r.length+1) A0:=by rw[hv,he];rfl
 subst A7;have A9:w.cell? ⟨F,1,none⟩=some (.slice (some ⟨g,0,none⟩) (r.length+1) A0):=(ag hf.blk).trans rfl;have B4:=ak hf.blk;have B2:=(jN hf.elses).1;have HE:=ah he;clear he hv;go_enter func87,ntmps87
 go_wp2_with fail
 refine(kG t F (w.heap.size+1) 1 1 S wv (.slice (some ⟨g,0,none⟩) (r.length+1) A0) nv sv st [0] _ ?_ ?_ ?_ rfl (by decide)).mono ?_
 .exact(hf.alloc _).alloc _
 .intro k hk;exact hS k (by simp at hk;omega)
 .exact ey _ _ _
 rintro e w1 ⟨rfl,A8,A1,A3⟩;have B0:w1.cell? ⟨F,1,none⟩=some (.slice (some ⟨g,0,none⟩) (r.length+1) A0):=(ag A1.blk).trans rfl;have B3:w1.cell? ⟨g,r.length,none⟩=some (.bool true):=mi A1.elses (by rw[show st.elses.length=r.length+1 from by rw[HE];rfl]) (by rw[show st.elses=true::r from HE];simp[mb]);have B5:w1.frozen? ⟨F,1,none⟩=false:=aC A1.blk;have A4:=ah A1;clear A1;have hs1:w.heap.size+2<=w1.heap.size:=by have:=A3.size;simp at this;omega
 go_wp2_with fail
 refine(kG t F w1.heap.size 1 1 S A8 (.slice (some ⟨g,0,none⟩) (r.length+1) A0) nv sv {st with want:=[0]} [1] _ ?_ ?_ ?_ rfl (by decide)).mono ?_
 .exact A4.alloc _
 .intro k hk;exact hS k (by simp at hk;omega)
 .exact v8 _ _
 rintro e w2 ⟨rfl,B7,A2,A6⟩;have B1:w2.cell? ⟨F,1,none⟩=some (.slice (some ⟨g,0,none⟩) (r.length+1) A0):=(ag A2.blk).trans rfl;have B6:w2.frozen? ⟨F,1,none⟩=false:=aC A2.blk;have A5:=ah A2;clear A2;go_wp2
 go_ret;refine⟨rfl,⟨_,_,A5.pop HE⟩,?_⟩;exact(((((Fr.refl S w).alloc _).alloc _).trans A3).trans (((Fr.refl S w1).alloc _).trans A6)).setCell _ (.inl hf.inF) _
theorem zE (t s:ByteArray)(F:Nat)(at0 mode:Int)(S:Nat->Prop)(wv ev nv sv:Value)(st:dw)(w:World)(hf:ap t w F S wv ev nv sv st)(hS:∀ k,w.heap.size<=k->S k)(h:s.data.toList=dh)(r:List Bool)(he:st.elses=false::r)(hlen:r.length<=1000):
  Calls prog 87 #[.pointer (some ⟨F,0,none⟩),.agg #[.string s,.int .i64 at0],.int .i64 mode] w fun e w'=>e=.returned (.bool true) /\
   (∃ wv' ev',ap t w' F S wv' ev' nv sv {st with want:=[0],elses:=r})/\Fr S w w':=by
 have n0:(s.toList==[115,101,110,100])=false:=bg (by rw[h];decide);have n1:(s.toList==[119,97,105,116])=false:=bg (by rw[h];decide);have n2:(s.toList==[115,116,111,112])=false:=bg (by rw[h];decide);have n3:(s.toList==[97,115,107])=false:=bg (by rw[h];decide);have n4:(s.toList==[114,101,116,114,121])=false:=bg (by rw[h];decide);have n5:(s.toList==[114,101,112,101,97,116])=false:=bg (by rw[h];decide);have n6:(s.toList==[101,108,115,101])=false:=bg (by rw[h];decide);have y:(s.toList==[125])=true:=du h;clear h;obtain⟨g,A1,hv,_,_⟩:=hf.elses.form (by rw[he];simp);have A4:ev=.slice (some ⟨g,0,none⟩) (r.length+1) A1:=by rw[hv,he];rfl
 subst A4;have A5:w.cell? ⟨F,1,none⟩=some (.slice (some ⟨g,0,none⟩) (r.length+1) A1):=(ag hf.blk).trans rfl;have A9:=ak hf.blk;have A7:=(jN hf.elses).1;have HE:=ah he;clear he hv;go_enter func87,ntmps87
 go_wp2_with fail
 refine(kG t F (w.heap.size+1) 1 1 S wv (.slice (some ⟨g,0,none⟩) (r.length+1) A1) nv sv st [0] _ ?_ ?_ ?_ rfl (by decide)).mono ?_
 .exact(hf.alloc _).alloc _
 .intro k hk;exact hS k (by simp at hk;omega)
 .exact ey _ _ _
 rintro e w1 ⟨rfl,B1,A0,A3⟩;have A6:w1.cell? ⟨F,1,none⟩=some (.slice (some ⟨g,0,none⟩) (r.length+1) A1):=(ag A0.blk).trans rfl;have A8:w1.cell? ⟨g,r.length,none⟩=some (.bool false):=mi A0.elses (by rw[show st.elses.length=r.length+1 from by rw[HE];rfl]) (by rw[show st.elses=false::r from HE];simp[mb]);have B0:w1.frozen? ⟨F,1,none⟩=false:=aC A0.blk;have A2:=ah A0;clear A0;go_wp2
 go_ret;exact⟨rfl,⟨_,_,A2.pop HE⟩,((((Fr.refl S w).alloc _).alloc _).trans A3).setCell _ (.inl hf.inF) _⟩
theorem rO (s:ByteArray)(F:Nat)(at0 mode:Int)(S:Nat->Prop)(w:World)(h0:¬ s.data.toList=eA)(h1:¬ s.data.toList=eJ)(h2:¬ s.data.toList=eX)(h3:¬ s.data.toList=dV)(h4:¬ s.data.toList=dL)(h5:¬ s.data.toList=ch)(h6:¬ s.data.toList=fE)(h7:¬ s.data.toList=dh):
  Calls prog 87 #[.pointer (some ⟨F,0,none⟩),.agg #[.string s,.int .i64 at0],.int .i64 mode] w fun e w'=>e=.returned (.bool false)/\Fr S w w':=by
 have n0:(s.toList==[115,101,110,100])=false:=bg h0;have n1:(s.toList==[119,97,105,116])=false:=bg h1;have n2:(s.toList==[115,116,111,112])=false:=bg h2;have n3:(s.toList==[97,115,107])=false:=bg h3;have n4:(s.toList==[114,101,116,114,121])=false:=bg h4;have n5:(s.toList==[114,101,112,101,97,116])=false:=bg h5;have n6:(s.toList==[101,108,115,101])=false:=bg h6;have n7:(s.toList==[125])=false:=bg h7;clear h0 h1 h2 h3 h4 h5 h6 h7;go_enter func87,ntmps87
 go_wp2
 go_ret;exact⟨rfl,(Fr.refl S w).alloc _⟩
theorem Di (t s:ByteArray)(F:Nat)(at0 mode:Int)(S:Nat->Prop)(wv ev nv sv:Value)(st:dw)(w:World)(hf:ap t w F S wv ev nv sv st)(hS:∀ k,w.heap.size<=k->S k)(hlen:st.elses.length<=1000):
  Calls prog 87 #[.pointer (some ⟨F,0,none⟩),.agg #[.string s,.int .i64 at0],.int .i64 mode] w fun e w'=>e=.returned (.bool (fU s.data.toList mode st).2) /\
   ((fU s.data.toList mode st).2=true->∃ wv' ev',ap t w' F S wv' ev' nv sv (fU s.data.toList mode st).1)/\Fr S w w':=by
 unfold fU;by_cases h0:s.data.toList=eA
 .rw[if_pos h0];exact(AO t s F at0 mode S wv ev nv sv st w hf hS h0).mono fun e w' h=>⟨h.1,fun _=>h.2.1,h.2.2⟩
 by_cases h1:s.data.toList=eJ
 .rw[if_neg h0,if_pos h1];exact(AQ t s F at0 mode S wv ev nv sv st w hf hS h1).mono fun e w' h=>⟨h.1,fun _=>h.2.1,h.2.2⟩
 by_cases h2:s.data.toList=eX
 .rw[if_neg h0,if_neg h1,if_pos h2];exact(AP t s F at0 mode S wv ev nv sv st w hf hS h2).mono fun e w' h=>⟨h.1,fun _=>h.2.1,h.2.2⟩
 by_cases h3:s.data.toList=dV
 .rw[if_neg h0,if_neg h1,if_neg h2,if_pos h3];exact(Dj t s F at0 mode S wv ev nv sv st w hf hS h3).mono fun e w' h=>⟨h.1,fun _=>h.2.1,h.2.2⟩
 by_cases h4:s.data.toList=dL
 .rw[if_neg h0,if_neg h1,if_neg h2,if_neg h3,if_pos h4];exact(zx t s F at0 mode S wv ev nv sv st w hf hS h4).mono fun e w' h=>⟨h.1,fun _=>h.2.1,h.2.2⟩
 by_cases h5:s.data.toList=ch
 .rw[if_neg h0,if_neg h1,if_neg h2,if_neg h3,if_neg h4,if_pos h5];exact(zm t s F at0 mode S wv ev nv sv st w hf hS h5).mono fun e w' h=>⟨h.1,fun _=>h.2.1,h.2.2⟩
 by_cases h6:s.data.toList=fE
 .rw[if_neg h0,if_neg h1,if_neg h2,if_neg h3,if_neg h4,if_neg h5,if_pos h6];exact(AN t s F at0 mode S wv ev nv sv st w hf hS h6).mono fun e w' h=>⟨h.1,fun _=>h.2.1,h.2.2⟩
 by_cases h7:s.data.toList=dh
 .rw[if_neg h0,if_neg h1,if_neg h2,if_neg h3,if_neg h4,if_neg h5,if_neg h6,if_pos h7];cases he:st.elses with
  | nil=>
   exact(zC t s F at0 mode S wv ev nv sv st w hf hS h7 he).mono fun e w' h=>⟨h.1,fun h'=>absurd h' (by simp),h.2⟩
  | cons b r=>
   have hr:r.length<=1000:=by rw[he]at hlen;simp at hlen;omega
   cases b with
   | true=>exact(zD t s F at0 mode S wv ev nv sv st w hf hS h7 r he hr).mono fun e w' h=>⟨h.1,fun _=>h.2.1,h.2.2⟩
   | false=>exact(zE t s F at0 mode S wv ev nv sv st w hf hS h7 r he hr).mono fun e w' h=>⟨h.1,fun _=>h.2.1,h.2.2⟩
 .rw[if_neg h0,if_neg h1,if_neg h2,if_neg h3,if_neg h4,if_neg h5,if_neg h6,if_neg h7];exact(rO s F at0 mode S w h0 h1 h2 h3 h4 h5 h6 h7).mono fun e w' h=>⟨h.1,fun h'=>absurd h' (by simp),h.2⟩
end Go.Proofs.YtmmmnghiegajmaaGreat
