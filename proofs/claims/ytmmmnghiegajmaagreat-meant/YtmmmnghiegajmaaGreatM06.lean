import Derived.Test.YtmmmnghiegajmaaGreatM05
import Derived.Test.YtmmmnghiegajmaaGreatM04
import Derived.Deep.RegionLaw
import Derived.Deep.RegionHeld3
import Derived.BigRegion
import Derived.BigQuiet
import Derived.Deep.QuietTactic
set_option maxHeartbeats 1000000
namespace Go.Proofs.YtmmmnghiegajmaaGreat
open Go.RowKit Go.Proofs.Herald
def zdo (l:List Bool):List Value:=l.map Value.bool
def zbP (l:List Int):List Value:=l.map (Value.int .i64)
def InS (S:Nat->Prop)(v:Value):Prop:=∀ k,v.ownBlock=some k->S k
structure FormAt (t:ByteArray)(w:World)(F:Nat)(S:Nat->Prop)(wv ev nv sv:Value)(st:FSt):Prop where
 blk:w.heap[F]?=some (.cells #[wv,ev,.bool st.next,nv,sv] 126 (0,0))
 inF:S F
 want:w.ownsRow 0 3 1 wv st.want.length (zbP st.want.reverse)
 elses:w.ownsRow 0 4 1 ev st.elses.length (zdo st.elses.reverse)
 nums:w.ownsRow 0 129 2 nv st.nums.length (zbz t st.nums)
 sorts:w.ownsRow 0 3 1 sv st.sorts.length (zbP st.sorts)
 wS:InS S wv
 eS:InS S ev
 nS:InS S nv
 sS:InS S sv
 apart:∀ k,wv.ownBlock=some k->sv.ownBlock≠some k
theorem Tryz.infoInt:(Tryz.prog.info? 3).map (fun i=>(i.zero,i.size,i.bytes))=some (some (.int .i64 0),1,8):=by kernel_rfl
theorem Tryz.infoBool:(Tryz.prog.info? 4).map (fun i=>(i.zero,i.size,i.bytes))=some (some (.bool false),1,1):=by kernel_rfl
theorem FormAt.push_want {t:ByteArray}{wr W w1:World}{F:Nat}{S:Nat->Prop}{wv ev nv sv:Value}{st:FSt}{g cap n:Nat}(x:Int)(hf:FormAt t wr F S wv ev nv sv st)(hn:n=st.want.length)(h0:OneMore wr W)
  (hown1:w1.ownsRow 0 3 1 (.slice (some ⟨g,0,none⟩) (n+1) cap) (n+1) (zbP st.want.reverse++[.int .i64 x]))
  (hgrow:W.grownBy w1 wv.ownBlock) (hat:wv.ownBlock=some g\/g=W.heap.size) (hS:∀ k,wr.heap.size<=k->S k):
  FormAt t (w1.setCell ⟨F,0,none⟩ (.slice (some ⟨g,0,none⟩) (n+1) cap)) F S (.slice (some ⟨g,0,none⟩) (n+1) cap) ev nv sv {st with want:=x::st.want} /\
   Fr S wr (w1.setCell ⟨F,0,none⟩ (.slice (some ⟨g,0,none⟩) (n+1) cap)):=by
 have hs:=h0.size
 have hvF:wv.ownBlock≠some F:=fun e=>by
  obtain ⟨cur,hc⟩:=zad hf.want e
  exact zac hc hf.blk (by decide) rfl
 have hF1:=zal h0 hgrow hf.blk hvF
 have other:∀ k,k≠F->(w1.setCell ⟨F,0,none⟩ (.slice (some ⟨g,0,none⟩) (n+1) cap)).heap[k]?=w1.heap[k]?:=fun k hk=>Below.heap_setCell _ _ _ _ hk
 have keep:∀ (u:Value) (e:TypeId),(∃ sz m xs,wr.ownsRow 0 e sz u m xs)->e≠126->(∀ k,u.ownBlock=some k->wv.ownBlock≠some k) ->
   ∀ k,u.ownBlock=some k->(w1.setCell ⟨F,0,none⟩ (.slice (some ⟨g,0,none⟩) (n+1) cap)).heap[k]?=wr.heap[k]?:=by
  rintro u e ⟨sz,m,xs,hu⟩ he hne k hk
  obtain ⟨cur,hc⟩:=zad hu hk
  rw [other k (zac hc hf.blk he)]
  exact zbs h0 hgrow (zae hc) (hne k hk)
 have hgF:g≠F:=by
  obtain ⟨cur,hc⟩:=zad hown1 (k:=g) rfl
  exact zac hc hF1 (by decide)
 subst hn
 refine ⟨⟨?_,hf.inF,?_,?_,?_,?_,?_,hf.eS,hf.nS,hf.sS,?_⟩,?_⟩
 .rw [zah _ hF1];rfl
 .have:=zaj hown1 (w':=w1.setCell ⟨F,0,none⟩ (.slice (some ⟨g,0,none⟩) (st.want.length+1) cap)) (fun k hk=>by simp [Value.ownBlock] at hk;subst hk;exact other g hgF)
  simpa [zbP] using this
 .exact zaj hf.elses (keep ev 4 ⟨_,_,_,hf.elses⟩ (by decide) (fun k hk e=>by
   obtain ⟨c1,h1⟩:=zad hf.elses hk;obtain ⟨c2,h2⟩:=zad hf.want e;exact zac h1 h2 (by decide) rfl))
 .exact zaj hf.nums (keep nv 129 ⟨_,_,_,hf.nums⟩ (by decide) (fun k hk e=>by
   obtain ⟨c1,h1⟩:=zad hf.nums hk;obtain ⟨c2,h2⟩:=zad hf.want e;exact zac h1 h2 (by decide) rfl))
 .exact zaj hf.sorts (keep sv 3 ⟨_,_,_,hf.sorts⟩ (by decide) (fun k hk e=>hf.apart k e hk))
 .intro k hk
  simp [Value.ownBlock] at hk
  subst hk
  rcases hat with h|h
  .exact hf.wS g h
  .exact hS g (by omega)
 .intro k hk e
  simp [Value.ownBlock] at hk
  subst hk
  rcases hat with h|h
  .exact hf.apart g h e
  .obtain ⟨c1,h1⟩:=zad hf.sorts e
   have:=zae h1
   omega
 .exact (Fr.of_push h0 hgrow hf.wS).setCell _ (.inl hf.inF) _
theorem FormAt.push_elses {t:ByteArray}{wr W w1:World}{F:Nat}{S:Nat->Prop}{wv ev nv sv:Value}{st:FSt}{g cap n:Nat}(x:Bool)(hf:FormAt t wr F S wv ev nv sv st)(hn:n=st.elses.length)(h0:OneMore wr W)
  (hown1:w1.ownsRow 0 4 1 (.slice (some ⟨g,0,none⟩) (n+1) cap) (n+1) (zdo st.elses.reverse++[.bool x]))
  (hgrow:W.grownBy w1 ev.ownBlock) (hat:ev.ownBlock=some g\/g=W.heap.size) (hS:∀ k,wr.heap.size<=k->S k):
  FormAt t (w1.setCell ⟨F,1,none⟩ (.slice (some ⟨g,0,none⟩) (n+1) cap)) F S wv (.slice (some ⟨g,0,none⟩) (n+1) cap) nv sv {st with elses:=x::st.elses} /\
   Fr S wr (w1.setCell ⟨F,1,none⟩ (.slice (some ⟨g,0,none⟩) (n+1) cap)):=by
 have hs:=h0.size
 have hvF:ev.ownBlock≠some F:=fun e=>by
  obtain ⟨cur,hc⟩:=zad hf.elses e
  exact zac hc hf.blk (by decide) rfl
 have hF1:=zal h0 hgrow hf.blk hvF
 have other:∀ k,k≠F->(w1.setCell ⟨F,1,none⟩ (.slice (some ⟨g,0,none⟩) (n+1) cap)).heap[k]?=w1.heap[k]?:=fun k hk=>Below.heap_setCell _ _ _ _ hk
 have keep:∀ (u:Value) (e:TypeId),(∃ sz m xs,wr.ownsRow 0 e sz u m xs)->e≠126->(∀ k,u.ownBlock=some k->ev.ownBlock≠some k) ->
   ∀ k,u.ownBlock=some k->(w1.setCell ⟨F,1,none⟩ (.slice (some ⟨g,0,none⟩) (n+1) cap)).heap[k]?=wr.heap[k]?:=by
  rintro u e ⟨sz,m,xs,hu⟩ he hne k hk
  obtain ⟨cur,hc⟩:=zad hu hk
  rw [other k (zac hc hf.blk he)]
  exact zbs h0 hgrow (zae hc) (hne k hk)
 have hgF:g≠F:=by
  obtain ⟨cur,hc⟩:=zad hown1 (k:=g) rfl
  exact zac hc hF1 (by decide)
 subst hn
 refine ⟨⟨?_,hf.inF,?_,?_,?_,?_,hf.wS,?_,hf.nS,hf.sS,hf.apart⟩,?_⟩
 .rw [zah _ hF1];rfl
 .exact zaj hf.want (keep wv 3 ⟨_,_,_,hf.want⟩ (by decide) (fun k hk e=>by
   obtain ⟨c1,h1⟩:=zad hf.want hk;obtain ⟨c2,h2⟩:=zad hf.elses e;exact zac h1 h2 (by decide) rfl))
 .have:=zaj hown1 (w':=w1.setCell ⟨F,1,none⟩ (.slice (some ⟨g,0,none⟩) (st.elses.length+1) cap)) (fun k hk=>by simp [Value.ownBlock] at hk;subst hk;exact other g hgF)
  simpa [zdo] using this
 .exact zaj hf.nums (keep nv 129 ⟨_,_,_,hf.nums⟩ (by decide) (fun k hk e=>by
   obtain ⟨c1,h1⟩:=zad hf.nums hk;obtain ⟨c2,h2⟩:=zad hf.elses e;exact zac h1 h2 (by decide) rfl))
 .exact zaj hf.sorts (keep sv 3 ⟨_,_,_,hf.sorts⟩ (by decide) (fun k hk e=>by
   obtain ⟨c1,h1⟩:=zad hf.sorts hk;obtain ⟨c2,h2⟩:=zad hf.elses e;exact zac h1 h2 (by decide) rfl))
 .intro k hk
  simp [Value.ownBlock] at hk
  subst hk
  rcases hat with h|h
  .exact hf.eS g h
  .exact hS g (by omega)
 .exact (Fr.of_push h0 hgrow hf.eS).setCell _ (.inl hf.inF) _
theorem FormAt.push_nums {t:ByteArray}{wr W w1:World}{F:Nat}{S:Nat->Prop}{wv ev nv sv:Value}{st:FSt}{g cap n:Nat}(x:Nat×Nat)(hf:FormAt t wr F S wv ev nv sv st)(hn:n=st.nums.length)(h0:OneMore wr W)
  (hown1:w1.ownsRow 0 129 2 (.slice (some ⟨g,0,none⟩) (n+1) cap) (n+1) (zbz t st.nums++[.string (t.extract x.1 x.2),.int .i64 x.1]))
  (hgrow:W.grownBy w1 nv.ownBlock) (hat:nv.ownBlock=some g\/g=W.heap.size) (hS:∀ k,wr.heap.size<=k->S k):
  FormAt t (w1.setCell ⟨F,3,none⟩ (.slice (some ⟨g,0,none⟩) (n+1) cap)) F S wv ev (.slice (some ⟨g,0,none⟩) (n+1) cap) sv {st with nums:=st.nums++[x]} /\
   Fr S wr (w1.setCell ⟨F,3,none⟩ (.slice (some ⟨g,0,none⟩) (n+1) cap)):=by
 have hs:=h0.size
 have hvF:nv.ownBlock≠some F:=fun e=>by
  obtain ⟨cur,hc⟩:=zad hf.nums e
  exact zac hc hf.blk (by decide) rfl
 have hF1:=zal h0 hgrow hf.blk hvF
 have other:∀ k,k≠F->(w1.setCell ⟨F,3,none⟩ (.slice (some ⟨g,0,none⟩) (n+1) cap)).heap[k]?=w1.heap[k]?:=fun k hk=>Below.heap_setCell _ _ _ _ hk
 have keep:∀ (u:Value) (e:TypeId),(∃ sz m xs,wr.ownsRow 0 e sz u m xs)->e≠126->(∀ k,u.ownBlock=some k->nv.ownBlock≠some k) ->
   ∀ k,u.ownBlock=some k->(w1.setCell ⟨F,3,none⟩ (.slice (some ⟨g,0,none⟩) (n+1) cap)).heap[k]?=wr.heap[k]?:=by
  rintro u e ⟨sz,m,xs,hu⟩ he hne k hk
  obtain ⟨cur,hc⟩:=zad hu hk
  rw [other k (zac hc hf.blk he)]
  exact zbs h0 hgrow (zae hc) (hne k hk)
 have hgF:g≠F:=by
  obtain ⟨cur,hc⟩:=zad hown1 (k:=g) rfl
  exact zac hc hF1 (by decide)
 subst hn
 refine ⟨⟨?_,hf.inF,?_,?_,?_,?_,hf.wS,hf.eS,?_,hf.sS,hf.apart⟩,?_⟩
 .rw [zah _ hF1];rfl
 .exact zaj hf.want (keep wv 3 ⟨_,_,_,hf.want⟩ (by decide) (fun k hk e=>by
   obtain ⟨c1,h1⟩:=zad hf.want hk;obtain ⟨c2,h2⟩:=zad hf.nums e;exact zac h1 h2 (by decide) rfl))
 .exact zaj hf.elses (keep ev 4 ⟨_,_,_,hf.elses⟩ (by decide) (fun k hk e=>by
   obtain ⟨c1,h1⟩:=zad hf.elses hk;obtain ⟨c2,h2⟩:=zad hf.nums e;exact zac h1 h2 (by decide) rfl))
 .have:=zaj hown1 (w':=w1.setCell ⟨F,3,none⟩ (.slice (some ⟨g,0,none⟩) (st.nums.length+1) cap)) (fun k hk=>by simp [Value.ownBlock] at hk;subst hk;exact other g hgF)
  simpa [zdb] using this
 .exact zaj hf.sorts (keep sv 3 ⟨_,_,_,hf.sorts⟩ (by decide) (fun k hk e=>by
   obtain ⟨c1,h1⟩:=zad hf.sorts hk;obtain ⟨c2,h2⟩:=zad hf.nums e;exact zac h1 h2 (by decide) rfl))
 .intro k hk
  simp [Value.ownBlock] at hk
  subst hk
  rcases hat with h|h
  .exact hf.nS g h
  .exact hS g (by omega)
 .exact (Fr.of_push h0 hgrow hf.nS).setCell _ (.inl hf.inF) _
theorem FormAt.push_sorts {t:ByteArray}{wr W w1:World}{F:Nat}{S:Nat->Prop}{wv ev nv sv:Value}{st:FSt}{g cap n:Nat}(x:Int)(hf:FormAt t wr F S wv ev nv sv st)(hn:n=st.sorts.length)(h0:OneMore wr W)
  (hown1:w1.ownsRow 0 3 1 (.slice (some ⟨g,0,none⟩) (n+1) cap) (n+1) (zbP st.sorts++[.int .i64 x]))
  (hgrow:W.grownBy w1 sv.ownBlock) (hat:sv.ownBlock=some g\/g=W.heap.size) (hS:∀ k,wr.heap.size<=k->S k):
  FormAt t (w1.setCell ⟨F,4,none⟩ (.slice (some ⟨g,0,none⟩) (n+1) cap)) F S wv ev nv (.slice (some ⟨g,0,none⟩) (n+1) cap) {st with sorts:=st.sorts++[x]} /\
   Fr S wr (w1.setCell ⟨F,4,none⟩ (.slice (some ⟨g,0,none⟩) (n+1) cap)):=by
 have hs:=h0.size
 have hvF:sv.ownBlock≠some F:=fun e=>by
  obtain ⟨cur,hc⟩:=zad hf.sorts e
  exact zac hc hf.blk (by decide) rfl
 have hF1:=zal h0 hgrow hf.blk hvF
 have other:∀ k,k≠F->(w1.setCell ⟨F,4,none⟩ (.slice (some ⟨g,0,none⟩) (n+1) cap)).heap[k]?=w1.heap[k]?:=fun k hk=>Below.heap_setCell _ _ _ _ hk
 have keep:∀ (u:Value) (e:TypeId),(∃ sz m xs,wr.ownsRow 0 e sz u m xs)->e≠126->(∀ k,u.ownBlock=some k->sv.ownBlock≠some k) ->
   ∀ k,u.ownBlock=some k->(w1.setCell ⟨F,4,none⟩ (.slice (some ⟨g,0,none⟩) (n+1) cap)).heap[k]?=wr.heap[k]?:=by
  rintro u e ⟨sz,m,xs,hu⟩ he hne k hk
  obtain ⟨cur,hc⟩:=zad hu hk
  rw [other k (zac hc hf.blk he)]
  exact zbs h0 hgrow (zae hc) (hne k hk)
 have hgF:g≠F:=by
  obtain ⟨cur,hc⟩:=zad hown1 (k:=g) rfl
  exact zac hc hF1 (by decide)
 subst hn
 refine ⟨⟨?_,hf.inF,?_,?_,?_,?_,hf.wS,hf.eS,hf.nS,?_,?_⟩,?_⟩
 .rw [zah _ hF1];rfl
 .exact zaj hf.want (keep wv 3 ⟨_,_,_,hf.want⟩ (by decide) (fun k hk e=>hf.apart k hk e))
 .exact zaj hf.elses (keep ev 4 ⟨_,_,_,hf.elses⟩ (by decide) (fun k hk e=>by
   obtain ⟨c1,h1⟩:=zad hf.elses hk;obtain ⟨c2,h2⟩:=zad hf.sorts e;exact zac h1 h2 (by decide) rfl))
 .exact zaj hf.nums (keep nv 129 ⟨_,_,_,hf.nums⟩ (by decide) (fun k hk e=>by
   obtain ⟨c1,h1⟩:=zad hf.nums hk;obtain ⟨c2,h2⟩:=zad hf.sorts e;exact zac h1 h2 (by decide) rfl))
 .have:=zaj hown1 (w':=w1.setCell ⟨F,4,none⟩ (.slice (some ⟨g,0,none⟩) (st.sorts.length+1) cap)) (fun k hk=>by simp [Value.ownBlock] at hk;subst hk;exact other g hgF)
  simpa [zbP] using this
 .intro k hk
  simp [Value.ownBlock] at hk
  subst hk
  rcases hat with h|h
  .exact hf.sS g h
  .exact hS g (by omega)
 .intro k e hk
  simp [Value.ownBlock] at hk
  subst hk
  rcases hat with h|h
  .exact hf.apart g e h
  .obtain ⟨c1,h1⟩:=zad hf.want e
   have:=zae h1
   omega
 .exact (Fr.of_push h0 hgrow hf.sS).setCell _ (.inl hf.inF) _
theorem zob (t:ByteArray)(F A cap0:Nat)(S:Nat->Prop)(wv ev nv sv:Value)(st:FSt)(ls:List Int)(w:World)(hf:FormAt t w F S wv ev nv sv st)(hS:∀ k,w.heap.size<=k->S k)
  (hA:w.heap[A]?=some (.cells (zbP ls).toArray 3 (0,0))) (hlen:ls.length<=10):
  Calls Tryz.prog 88 #[.pointer (some ⟨F,0,none⟩),.slice (some ⟨A,0,none⟩) ls.length cap0] w fun e w'=>e=.returned (.tuple #[]) /\
   ∃ wv',FormAt t w' F S wv' ev nv sv {st with want:=ls}/\Fr S w w':=by
 have hFc:w.cell? ⟨F,0,none⟩=some wv:=by rw [zaa hf.blk];rfl
 have hFf:w.frozen? ⟨F,0,none⟩=false:=zab hf.blk
 go_enter Tryz.func88,Tryz.ntmps88
 go_wp2
 go_loopw [4] (fun i wr=>∃ (k:Nat) (v:Value),k<=ls.length/\i=.int .i64 ((k:Int) - 1)/\FormAt t wr F S v ev nv sv {st with want:=ls.drop k}/\Fr S w wr /\
   wr.heap[A]?=some (.cells (zbP ls).toArray 3 (0,0))/\(∀ g,v.ownBlock=some g->w.heap.size<=g))
  (fun i _=>(intOf i+1).toNat)
 case atStart=>
  have other:∀ k,k≠F->(w.setCell ⟨F,0,none⟩ (.slice none 0 0)).heap[k]?=w.heap[k]?:=fun k hk=>Below.heap_setCell _ _ _ _ hk
  refine ⟨ls.length,.slice none 0 0,Nat.le_refl _,by go_num,⟨?_,hf.inF,?_,?_,?_,?_,?_,hf.eS,hf.nS,hf.sS,?_⟩,(Fr.refl S w).setCell _ (.inl hf.inF) _,?_,?_⟩
  .rw [zah _ hf.blk];rfl
  .simpa [zbP] using World.ownsRow_nil _ 0 3 1
  .exact zaj hf.elses (fun k hk=>by obtain ⟨c1,h1⟩:=zad hf.elses hk;exact other k (zac h1 hf.blk (by decide)))
  .exact zaj hf.nums (fun k hk=>by obtain ⟨c1,h1⟩:=zad hf.nums hk;exact other k (zac h1 hf.blk (by decide)))
  .exact zaj hf.sorts (fun k hk=>by obtain ⟨c1,h1⟩:=zad hf.sorts hk;exact other k (zac h1 hf.blk (by decide)))
  .intro k hk;simp [Value.ownBlock] at hk
  .intro k hk;simp [Value.ownBlock] at hk
  .rw [other A (zac hA hf.blk (by decide))];exact hA
  .intro k hk;simp [Value.ownBlock] at hk
 case round=>
  obtain ⟨k,v,hk,rfl,hfr,hF,hAr,hvn⟩:=hrel
  clear hFc hFf
  have hFc:wr.cell? ⟨F,0,none⟩=some v:=by rw [zaa hfr.blk];rfl
  have hFf:wr.frozen? ⟨F,0,none⟩=false:=zab hfr.blk
  have hFl:=zae hfr.blk
  by_cases h0:0<k
  .obtain ⟨j,rfl⟩:∃ j,k=j+1:=⟨k - 1,by omega⟩
   have hAc:wr.cell? ⟨A,j,none⟩=some (.int .i64 ls[j]):=by rw [zaa hAr];simp [zbP]
   have hjl:j<ls.length:=by omega
   have e1:((j+1:Nat):Int) - 1=(j:Int):=by omega
   rw [e1]
   have hown:=hfr.want
   simp only at hown
   have HF:=zHd hfr
   have HA:=zHd hAr
   have HV:Hid (v.ownBlock≠some F):=fun e=>by obtain ⟨cur,hc⟩:=zad hfr.want e;exact zac hc hfr.blk (by decide) rfl
   clear hf hfr hAr
   go_wp2
   go_region_law (refine ze2 _ rfl (.tmp 19) (.tmp 24) 123 rfl 3 _ 1 8 Tryz.underlying123 Tryz.infoInt rfl (by decide) (by decide) v _ _ wr.heap.size [.int .i64 ls[j]] (by rfl) (by exact hown.alloc _) (by exact heap_alloc_new _ _) (by rfl) rfl (by simp [Value.oneCell']) (by simp;omega) ?_;intro g cap w1 hown1 hgrow hat hlt;have hc1:w1.cell? ⟨F,0,none⟩=some v:=(zaa (zal (OneMore.alloc _ _).drew hgrow HF.out.blk HV.out)).trans rfl;have hf1:w1.frozen? ⟨F,0,none⟩=false:=zab (zal (OneMore.alloc _ _).drew hgrow HF.out.blk HV.out))
   all_goals
    go_wp2
    go_roundw
    case rel=>
     have hsz:(wr.alloc (.cells #[.int .i64 ls[j]] 3)).drew.heap.size=wr.heap.size+1:=by show (wr.alloc _).heap.size=_;simp
     have hws:=hF.size
     obtain ⟨p1,p2⟩:=HF.out.push_want (n:=ls.length - (j+1)) ls[j] (by simp) (OneMore.alloc _ _).drew (by simpa using hown1) hgrow hat (fun q hq=>hS q (by omega))
     refine ⟨j,.slice (some ⟨g,0,none⟩) (ls.length - (j+1)+1) cap,by omega,by go_num,?_,hF.trans p2,?_,?_⟩
     .have:=p1;simp only [zbT ls j hjl];exact this
     .rw [Below.heap_setCell _ _ _ _ (zac HA.out HF.out.blk (by decide))]
      exact zal (OneMore.alloc _ _).drew hgrow HA.out (fun e=>by have:=hvn A e;have:=zae hA;omega)
     .intro q hq
      simp [Value.ownBlock] at hq
      subst hq
      rcases hat with h|h
      .exact hvn _ h
      .omega
    case measure=>simp [intOf]
  .obtain rfl:k=0:=by omega
   have HF:=zHd hfr
   clear hf hfr hAr
   go_wp2
   go_end0
   exact ⟨rfl,v,HF.out,hF⟩
open Go.RowKit Go.Proofs.Herald
theorem FormAt.keep {t:ByteArray}{w w':World}{F:Nat}{S:Nat->Prop}{wv ev nv sv:Value}{st:FSt}(hf:FormAt t w F S wv ev nv sv st)(h:∀ k,k<w.heap.size->w'.heap[k]?=w.heap[k]?):FormAt t w' F S wv ev nv sv st:=by
 have own:∀ {e:TypeId} {sz:Nat} {v:Value} {n:Nat} {xs:List Value},w.ownsRow 0 e sz v n xs->w'.ownsRow 0 e sz v n xs:=fun ho=>
  zaj ho (fun k hk=>by obtain ⟨c,hc⟩:=zad ho hk;exact h k (zae hc))
 exact ⟨by rw [h F (zae hf.blk)];exact hf.blk,hf.inF,own hf.want,own hf.elses,own hf.nums,own hf.sorts,hf.wS,hf.eS,hf.nS,hf.sS,hf.apart⟩
theorem FormAt.alloc {t:ByteArray}{w:World}{F:Nat}{S:Nat->Prop}{wv ev nv sv:Value}{st:FSt}(hf:FormAt t w F S wv ev nv sv st)(o:Obj):FormAt t (w.alloc o) F S wv ev nv sv st:=
 hf.keep (fun _ hk=>Below.heap_alloc _ _ _ hk)
theorem FormAt.drew {t:ByteArray}{w:World}{F:Nat}{S:Nat->Prop}{wv ev nv sv:Value}{st:FSt}(hf:FormAt t w F S wv ev nv sv st):FormAt t w.drew F S wv ev nv sv st:=
 hf.keep (fun _ _=>rfl)
theorem FormAt.mono {t:ByteArray}{w:World}{F:Nat}{S T:Nat->Prop}{wv ev nv sv:Value}{st:FSt}(hf:FormAt t w F S wv ev nv sv st)(h:∀ k,S k->T k):FormAt t w F T wv ev nv sv st:=
 ⟨hf.blk,h _ hf.inF,hf.want,hf.elses,hf.nums,hf.sorts,fun k hk=>h k (hf.wS k hk),fun k hk=>h k (hf.eS k hk),fun k hk=>h k (hf.nS k hk),fun k hk=>h k (hf.sS k hk),hf.apart⟩
theorem FormAt.guard {t:ByteArray}{w:World}{F:Nat}{S:Nat->Prop}{wv ev nv sv:Value}{st:FSt}(hf:FormAt t w F S wv ev nv sv st)(X:Nat)(hX:w.heap.size<=X):FormAt t w F (fun k=>S k/\k≠X) wv ev nv sv st:=by
 have own:∀ {e:TypeId} {sz:Nat} {v:Value} {n:Nat} {xs:List Value},w.ownsRow 0 e sz v n xs->InS S v->InS (fun k=>S k/\k≠X) v:=fun ho hs k hk=>by
  obtain ⟨c,hc⟩:=zad ho hk
  have:=zae hc
  exact ⟨hs k hk,by omega⟩
 exact ⟨hf.blk,⟨hf.inF,by have:=zae hf.blk;omega⟩,hf.want,hf.elses,hf.nums,hf.sorts,own hf.want hf.wS,own hf.elses hf.eS,own hf.nums hf.nS,own hf.sorts hf.sS,hf.apart⟩
theorem FormAt.next {t:ByteArray}{w:World}{F:Nat}{S:Nat->Prop}{wv ev nv sv:Value}{st:FSt}(hf:FormAt t w F S wv ev nv sv st)(b:Bool):FormAt t (w.setCell ⟨F,2,none⟩ (.bool b)) F S wv ev nv sv {st with next:=b}:=by
 have other:∀ k,k≠F->(w.setCell ⟨F,2,none⟩ (.bool b)).heap[k]?=w.heap[k]?:=fun k hk=>Below.heap_setCell _ _ _ _ hk
 have own:∀ {e:TypeId} {sz:Nat} {v:Value} {n:Nat} {xs:List Value},e≠126->w.ownsRow 0 e sz v n xs->(w.setCell ⟨F,2,none⟩ (.bool b)).ownsRow 0 e sz v n xs:=fun he ho=>
  zaj ho (fun k hk=>by obtain ⟨c,hc⟩:=zad ho hk;exact other k (zac hc hf.blk he))
 exact ⟨by rw [zah _ hf.blk];rfl,hf.inF,own (by decide) hf.want,own (by decide) hf.elses,own (by decide) hf.nums,own (by decide) hf.sorts,hf.wS,hf.eS,hf.nS,hf.sS,hf.apart⟩
theorem FormAt.pop {t:ByteArray}{w:World}{F:Nat}{S:Nat->Prop}{wv nv sv:Value}{st:FSt}{g cap:Nat}{e:Bool}{r:List Bool}(hf:FormAt t w F S wv (.slice (some ⟨g,0,none⟩) (r.length+1) cap) nv sv st)(he:st.elses=e::r):
  FormAt t (w.setCell ⟨F,1,none⟩ (.slice (some ⟨g,0,none⟩) r.length cap)) F S wv (.slice (some ⟨g,0,none⟩) r.length cap) nv sv {st with elses:=r}:=by
 have other:∀ k,k≠F->(w.setCell ⟨F,1,none⟩ (.slice (some ⟨g,0,none⟩) r.length cap)).heap[k]?=w.heap[k]?:=fun k hk=>Below.heap_setCell _ _ _ _ hk
 have own:∀ {e:TypeId} {sz:Nat} {v:Value} {n:Nat} {xs:List Value},e≠126->w.ownsRow 0 e sz v n xs->(w.setCell ⟨F,1,none⟩ (.slice (some ⟨g,0,none⟩) r.length cap)).ownsRow 0 e sz v n xs:=fun he ho=>
  zaj ho (fun k hk=>by obtain ⟨c,hc⟩:=zad ho hk;exact other k (zac hc hf.blk he))
 have hel:=own (by decide) hf.elses
 refine ⟨by rw [zah _ hf.blk];rfl,hf.inF,own (by decide) hf.want,?_,own (by decide) hf.nums,own (by decide) hf.sorts,hf.wS,hf.eS,hf.nS,hf.sS,hf.apart⟩
 refine ⟨by simp [zdo],.inr ?_⟩
 rcases hel.2 with ⟨h1,_⟩|⟨g',cap',cur,hv,hb,hg,hn,hm,hs,ht⟩
 .cases h1
 .simp at hv
  obtain ⟨rfl,h2,rfl⟩:=hv
  rw [he] at hn ht
  refine ⟨g,cap,cur,rfl,hb,hg,by show r.length<=_;simp at hn;omega,hm,hs,?_⟩
  simp only [Nat.mul_one] at ht ⊢
  have:cur.toList.take r.length=(cur.toList.take (e::r).length).take r.length:=by rw [List.take_take];congr 1;simp
  rw [this,ht]
  simp [zdo]
theorem zda (t:ByteArray)(F A cap0 n:Nat)(S:Nat->Prop)(wv ev nv sv:Value)(st:FSt)(ls:List Int)(w:World)(hf:FormAt t w F S wv ev nv sv st)(hS:∀ k,w.heap.size<=k->S k)
  (hA:w.heap[A]?=some (.cells (zbP ls).toArray 3 (0,0))) (hn:n=ls.length) (hlen:n<=10):
  Calls Tryz.prog 88 #[.pointer (some ⟨F,0,none⟩),.slice (some ⟨A,0,none⟩) n cap0] w fun e w'=>e=.returned (.tuple #[]) /\
   ∃ wv',FormAt t w' F S wv' ev nv sv {st with want:=ls}/\Fr S w w':=by
 subst hn;exact zob t F A cap0 S wv ev nv sv st ls w hf hS hA hlen
theorem zl3 (t s:ByteArray)(F:Nat)(at0 mode:Int)(S:Nat->Prop)(wv ev nv sv:Value)(st:FSt)(w:World)(hf:FormAt t w F S wv ev nv sv st)(hS:∀ k,w.heap.size<=k->S k)(h:s.data.toList=zci):
  Calls Tryz.prog 87 #[.pointer (some ⟨F,0,none⟩),.agg #[.string s,.int .i64 at0],.int .i64 mode] w fun e w'=>e=.returned (.bool true) /\
   (∃ wv' ev',FormAt t w' F S wv' ev' nv sv {st with want:=[2,0]})/\Fr S w w':=by
 have y:(s.toList==[115,101,110,100])=true:=zaO h
 clear h
 go_enter Tryz.func87,Tryz.ntmps87
 go_wp2_with fail
 refine (zda t F (w.heap.size+1) 2 2 S wv ev nv sv st [2,0] _ ?_ ?_ ?_ rfl (by decide)).mono ?_
 .exact (hf.alloc _).alloc _
 .intro k hk;exact hS k (by simp at hk;omega)
 .exact zaw _ _ _
 rintro e w1 ⟨rfl,wv1,hf1,hF1⟩
 go_wp2
 go_ret
 exact ⟨rfl,⟨_,_,hf1⟩,(((Fr.refl S w).alloc _).alloc _).trans hF1⟩
theorem zl5 (t s:ByteArray)(F:Nat)(at0 mode:Int)(S:Nat->Prop)(wv ev nv sv:Value)(st:FSt)(w:World)(hf:FormAt t w F S wv ev nv sv st)(hS:∀ k,w.heap.size<=k->S k)(h:s.data.toList=zcB):
  Calls Tryz.prog 87 #[.pointer (some ⟨F,0,none⟩),.agg #[.string s,.int .i64 at0],.int .i64 mode] w fun e w'=>e=.returned (.bool true) /\
   (∃ wv' ev',FormAt t w' F S wv' ev' nv sv {st with want:=[3,0]})/\Fr S w w':=by
 have n0:(s.toList==[115,101,110,100])=false:=zas (by rw [h];decide)
 have y:(s.toList==[119,97,105,116])=true:=zaO h
 clear h
 go_enter Tryz.func87,Tryz.ntmps87
 go_wp2_with fail
 refine (zda t F (w.heap.size+1) 2 2 S wv ev nv sv st [3,0] _ ?_ ?_ ?_ rfl (by decide)).mono ?_
 .exact (hf.alloc _).alloc _
 .intro k hk;exact hS k (by simp at hk;omega)
 .exact zaw _ _ _
 rintro e w1 ⟨rfl,wv1,hf1,hF1⟩
 go_wp2
 go_ret
 exact ⟨rfl,⟨_,_,hf1⟩,(((Fr.refl S w).alloc _).alloc _).trans hF1⟩
theorem zl4 (t s:ByteArray)(F:Nat)(at0 mode:Int)(S:Nat->Prop)(wv ev nv sv:Value)(st:FSt)(w:World)(hf:FormAt t w F S wv ev nv sv st)(hS:∀ k,w.heap.size<=k->S k)(h:s.data.toList=zcN):
  Calls Tryz.prog 87 #[.pointer (some ⟨F,0,none⟩),.agg #[.string s,.int .i64 at0],.int .i64 mode] w fun e w'=>e=.returned (.bool true) /\
   (∃ wv' ev',FormAt t w' F S wv' ev' nv sv {st with want:=[0]})/\Fr S w w':=by
 have n0:(s.toList==[115,101,110,100])=false:=zas (by rw [h];decide)
 have n1:(s.toList==[119,97,105,116])=false:=zas (by rw [h];decide)
 have y:(s.toList==[115,116,111,112])=true:=zaO h
 clear h
 go_enter Tryz.func87,Tryz.ntmps87
 go_wp2_with fail
 refine (zda t F (w.heap.size+1) 1 1 S wv ev nv sv st [0] _ ?_ ?_ ?_ rfl (by decide)).mono ?_
 .exact (hf.alloc _).alloc _
 .intro k hk;exact hS k (by simp at hk;omega)
 .exact zaw _ _ _
 rintro e w1 ⟨rfl,wv1,hf1,hF1⟩
 go_wp2
 go_ret
 exact ⟨rfl,⟨_,_,hf1⟩,(((Fr.refl S w).alloc _).alloc _).trans hF1⟩
theorem znh (t s:ByteArray)(F:Nat)(at0 mode:Int)(S:Nat->Prop)(wv ev nv sv:Value)(st:FSt)(w:World)(hf:FormAt t w F S wv ev nv sv st)(hS:∀ k,w.heap.size<=k->S k)(h:s.data.toList=zec):
  Calls Tryz.prog 87 #[.pointer (some ⟨F,0,none⟩),.agg #[.string s,.int .i64 at0],.int .i64 mode] w fun e w'=>e=.returned (.bool true) /\
   (∃ wv' ev',FormAt t w' F S wv' ev' nv sv {st with want:=[2,3,6],next:=true})/\Fr S w w':=by
 have n0:(s.toList==[115,101,110,100])=false:=zas (by rw [h];decide)
 have n1:(s.toList==[119,97,105,116])=false:=zas (by rw [h];decide)
 have n2:(s.toList==[115,116,111,112])=false:=zas (by rw [h];decide)
 have y:(s.toList==[97,115,107])=true:=zaO h
 clear h
 go_enter Tryz.func87,Tryz.ntmps87
 go_wp2_with fail
 refine (zda t F (w.heap.size+1) 3 3 S wv ev nv sv st [2,3,6] _ ?_ ?_ ?_ rfl (by decide)).mono ?_
 .exact (hf.alloc _).alloc _
 .intro k hk;exact hS k (by simp at hk;omega)
 .exact zaw _ _ _
 rintro e w1 ⟨rfl,wv1,hf1,hF1⟩
 have hc1:w1.cell? ⟨F,2,none⟩=some (.bool st.next):=(zaa hf1.blk).trans rfl
 have hz1:w1.frozen? ⟨F,2,none⟩=false:=zab hf1.blk
 have HF1:=zHd hf1
 clear hf1
 go_wp2
 go_ret
 exact ⟨rfl,⟨_,_,HF1.out.next true⟩,((((Fr.refl S w).alloc _).alloc _).trans hF1).setCell _ (.inl hf.inF) _⟩
theorem zkh (t s:ByteArray)(F:Nat)(at0 mode:Int)(S:Nat->Prop)(wv ev nv sv:Value)(st:FSt)(w:World)(hf:FormAt t w F S wv ev nv sv st)(hS:∀ k,w.heap.size<=k->S k)(h:s.data.toList=zbd):
  Calls Tryz.prog 87 #[.pointer (some ⟨F,0,none⟩),.agg #[.string s,.int .i64 at0],.int .i64 mode] w fun e w'=>e=.returned (.bool true) /\
   (∃ wv' ev',FormAt t w' F S wv' ev' nv sv {st with want:=[4,2,3,6],next:=true})/\Fr S w w':=by
 have n0:(s.toList==[115,101,110,100])=false:=zas (by rw [h];decide)
 have n1:(s.toList==[119,97,105,116])=false:=zas (by rw [h];decide)
 have n2:(s.toList==[115,116,111,112])=false:=zas (by rw [h];decide)
 have n3:(s.toList==[97,115,107])=false:=zas (by rw [h];decide)
 have y:(s.toList==[114,101,116,114,121])=true:=zaO h
 clear h
 go_enter Tryz.func87,Tryz.ntmps87
 go_wp2_with fail
 refine (zda t F (w.heap.size+1) 4 4 S wv ev nv sv st [4,2,3,6] _ ?_ ?_ ?_ rfl (by decide)).mono ?_
 .exact (hf.alloc _).alloc _
 .intro k hk;exact hS k (by simp at hk;omega)
 .exact zaw _ _ _
 rintro e w1 ⟨rfl,wv1,hf1,hF1⟩
 have hc1:w1.cell? ⟨F,2,none⟩=some (.bool st.next):=(zaa hf1.blk).trans rfl
 have hz1:w1.frozen? ⟨F,2,none⟩=false:=zab hf1.blk
 have HF1:=zHd hf1
 clear hf1
 go_wp2
 go_ret
 exact ⟨rfl,⟨_,_,HF1.out.next true⟩,((((Fr.refl S w).alloc _).alloc _).trans hF1).setCell _ (.inl hf.inF) _⟩
theorem zjg (t s:ByteArray)(F:Nat)(at0 mode:Int)(S:Nat->Prop)(wv ev nv sv:Value)(st:FSt)(w:World)(hf:FormAt t w F S wv ev nv sv st)(hS:∀ k,w.heap.size<=k->S k)(h:s.data.toList=zax):
  Calls Tryz.prog 87 #[.pointer (some ⟨F,0,none⟩),.agg #[.string s,.int .i64 at0],.int .i64 mode] w fun e w'=>e=.returned (.bool true) /\
   (∃ wv' ev',FormAt t w' F S wv' ev' nv sv {st with want:=[5,6],next:=false})/\Fr S w w':=by
 have n0:(s.toList==[115,101,110,100])=false:=zas (by rw [h];decide)
 have n1:(s.toList==[119,97,105,116])=false:=zas (by rw [h];decide)
 have n2:(s.toList==[115,116,111,112])=false:=zas (by rw [h];decide)
 have n3:(s.toList==[97,115,107])=false:=zas (by rw [h];decide)
 have n4:(s.toList==[114,101,116,114,121])=false:=zas (by rw [h];decide)
 have y:(s.toList==[114,101,112,101,97,116])=true:=zaO h
 clear h
 go_enter Tryz.func87,Tryz.ntmps87
 go_wp2_with fail
 refine (zda t F (w.heap.size+1) 2 2 S wv ev nv sv st [5,6] _ ?_ ?_ ?_ rfl (by decide)).mono ?_
 .exact (hf.alloc _).alloc _
 .intro k hk;exact hS k (by simp at hk;omega)
 .exact zaw _ _ _
 rintro e w1 ⟨rfl,wv1,hf1,hF1⟩
 have hc1:w1.cell? ⟨F,2,none⟩=some (.bool st.next):=(zaa hf1.blk).trans rfl
 have hz1:w1.frozen? ⟨F,2,none⟩=false:=zab hf1.blk
 have HF1:=zHd hf1
 clear hf1
 go_wp2
 go_ret
 exact ⟨rfl,⟨_,_,HF1.out.next false⟩,((((Fr.refl S w).alloc _).alloc _).trans hF1).setCell _ (.inl hf.inF) _⟩
theorem zl2 (t s:ByteArray)(F:Nat)(at0 mode:Int)(S:Nat->Prop)(wv ev nv sv:Value)(st:FSt)(w:World)(hf:FormAt t w F S wv ev nv sv st)(hS:∀ k,w.heap.size<=k->S k)(h:s.data.toList=zdq):
  Calls Tryz.prog 87 #[.pointer (some ⟨F,0,none⟩),.agg #[.string s,.int .i64 at0],.int .i64 mode] w fun e w'=>e=.returned (.bool (mode==1)) /\
   (∃ wv' ev',FormAt t w' F S wv' ev' nv sv {st with want:=[6],next:=false})/\Fr S w w':=by
 have n0:(s.toList==[115,101,110,100])=false:=zas (by rw [h];decide)
 have n1:(s.toList==[119,97,105,116])=false:=zas (by rw [h];decide)
 have n2:(s.toList==[115,116,111,112])=false:=zas (by rw [h];decide)
 have n3:(s.toList==[97,115,107])=false:=zas (by rw [h];decide)
 have n4:(s.toList==[114,101,116,114,121])=false:=zas (by rw [h];decide)
 have n5:(s.toList==[114,101,112,101,97,116])=false:=zas (by rw [h];decide)
 have y:(s.toList==[101,108,115,101])=true:=zaO h
 clear h
 go_enter Tryz.func87,Tryz.ntmps87
 go_wp2_with fail
 refine (zda t F (w.heap.size+1) 1 1 S wv ev nv sv st [6] _ ?_ ?_ ?_ rfl (by decide)).mono ?_
 .exact (hf.alloc _).alloc _
 .intro k hk;exact hS k (by simp at hk;omega)
 .exact zaw _ _ _
 rintro e w1 ⟨rfl,wv1,hf1,hF1⟩
 have hc1:w1.cell? ⟨F,2,none⟩=some (.bool st.next):=(zaa hf1.blk).trans rfl
 have hz1:w1.frozen? ⟨F,2,none⟩=false:=zab hf1.blk
 have HF1:=zHd hf1
 clear hf1
 go_wp2
 go_ret
 exact ⟨rfl,⟨_,_,HF1.out.next false⟩,((((Fr.refl S w).alloc _).alloc _).trans hF1).setCell _ (.inl hf.inF) _⟩
theorem zki (t s:ByteArray)(F:Nat)(at0 mode:Int)(S:Nat->Prop)(wv ev nv sv:Value)(st:FSt)(w:World)(hf:FormAt t w F S wv ev nv sv st)(_hS:∀ k,w.heap.size<=k->S k)(h:s.data.toList=zbG)(he:st.elses=[]):
  Calls Tryz.prog 87 #[.pointer (some ⟨F,0,none⟩),.agg #[.string s,.int .i64 at0],.int .i64 mode] w fun e w'=>e=.returned (.bool false)/\Fr S w w':=by
 have n0:(s.toList==[115,101,110,100])=false:=zas (by rw [h];decide)
 have n1:(s.toList==[119,97,105,116])=false:=zas (by rw [h];decide)
 have n2:(s.toList==[115,116,111,112])=false:=zas (by rw [h];decide)
 have n3:(s.toList==[97,115,107])=false:=zas (by rw [h];decide)
 have n4:(s.toList==[114,101,116,114,121])=false:=zas (by rw [h];decide)
 have n5:(s.toList==[114,101,112,101,97,116])=false:=zas (by rw [h];decide)
 have n6:(s.toList==[101,108,115,101])=false:=zas (by rw [h];decide)
 have y:(s.toList==[125])=true:=zaO h
 clear h
 have hel:∃ a cap,ev=.slice a 0 cap:=by
  rcases hf.elses.2 with ⟨h1,_⟩|⟨g,cap,cur,h1,_⟩
  .exact ⟨_,_,h1⟩
  .rw [he] at h1;exact ⟨_,_,h1⟩
 obtain ⟨a,cap,rfl⟩:=hel
 have hc1:w.cell? ⟨F,1,none⟩=some (.slice a 0 cap):=(zaa hf.blk).trans rfl
 have hlt:=zae hf.blk
 go_enter Tryz.func87,Tryz.ntmps87
 go_wp2
 go_ret
 exact ⟨rfl,(Fr.refl S w).alloc _⟩
theorem zkj (t s:ByteArray)(F:Nat)(at0 mode:Int)(S:Nat->Prop)(wv ev nv sv:Value)(st:FSt)(w:World)(hf:FormAt t w F S wv ev nv sv st)(hS:∀ k,w.heap.size<=k->S k)(h:s.data.toList=zbG)(r:List Bool)(he:st.elses=true::r)(hlen:r.length<=1000):
  Calls Tryz.prog 87 #[.pointer (some ⟨F,0,none⟩),.agg #[.string s,.int .i64 at0],.int .i64 mode] w fun e w'=>e=.returned (.bool true) /\
   (∃ wv' ev',FormAt t w' F S wv' ev' nv sv {st with want:=[1],elses:=r})/\Fr S w w':=by
 have n0:(s.toList==[115,101,110,100])=false:=zas (by rw [h];decide)
 have n1:(s.toList==[119,97,105,116])=false:=zas (by rw [h];decide)
 have n2:(s.toList==[115,116,111,112])=false:=zas (by rw [h];decide)
 have n3:(s.toList==[97,115,107])=false:=zas (by rw [h];decide)
 have n4:(s.toList==[114,101,116,114,121])=false:=zas (by rw [h];decide)
 have n5:(s.toList==[114,101,112,101,97,116])=false:=zas (by rw [h];decide)
 have n6:(s.toList==[101,108,115,101])=false:=zas (by rw [h];decide)
 have y:(s.toList==[125])=true:=zaO h
 clear h
 obtain ⟨g,cap,hv,_,_⟩:=hf.elses.form (by rw [he];simp)
 have hv':ev=.slice (some ⟨g,0,none⟩) (r.length+1) cap:=by rw [hv,he];rfl
 subst hv'
 have hc1:w.cell? ⟨F,1,none⟩=some (.slice (some ⟨g,0,none⟩) (r.length+1) cap):=(zaa hf.blk).trans rfl
 have hlt:=zae hf.blk
 have hcp:=(zdh hf.elses).1
 have HE:=zHd he
 clear he hv
 go_enter Tryz.func87,Tryz.ntmps87
 go_wp2_with fail
 refine (zda t F (w.heap.size+1) 1 1 S wv (.slice (some ⟨g,0,none⟩) (r.length+1) cap) nv sv st [0] _ ?_ ?_ ?_ rfl (by decide)).mono ?_
 .exact (hf.alloc _).alloc _
 .intro k hk;exact hS k (by simp at hk;omega)
 .exact zaw _ _ _
 rintro e w1 ⟨rfl,wv1,hf1,hF1⟩
 have hc2:w1.cell? ⟨F,1,none⟩=some (.slice (some ⟨g,0,none⟩) (r.length+1) cap):=(zaa hf1.blk).trans rfl
 have hg1:w1.cell? ⟨g,r.length,none⟩=some (.bool true):=zdY hf1.elses (by rw [show st.elses.length=r.length+1 from by rw [HE.out];rfl]) (by rw [show st.elses=true::r from HE.out];simp [zdo])
 have hz1:w1.frozen? ⟨F,1,none⟩=false:=zab hf1.blk
 have HF1:=zHd hf1
 clear hf1
 have hs1:w.heap.size+2<=w1.heap.size:=by have:=hF1.size;simp at this;omega
 go_wp2_with fail
 refine (zda t F w1.heap.size 1 1 S wv1 (.slice (some ⟨g,0,none⟩) (r.length+1) cap) nv sv {st with want:=[0]} [1] _ ?_ ?_ ?_ rfl (by decide)).mono ?_
 .exact HF1.out.alloc _
 .intro k hk;exact hS k (by simp at hk;omega)
 .exact heap_alloc_new _ _
 rintro e w2 ⟨rfl,wv2,hf2,hF2⟩
 have hc3:w2.cell? ⟨F,1,none⟩=some (.slice (some ⟨g,0,none⟩) (r.length+1) cap):=(zaa hf2.blk).trans rfl
 have hz3:w2.frozen? ⟨F,1,none⟩=false:=zab hf2.blk
 have HF2:=zHd hf2
 clear hf2
 go_wp2
 go_ret
 refine ⟨rfl,⟨_,_,HF2.out.pop HE.out⟩,?_⟩
 exact (((((Fr.refl S w).alloc _).alloc _).trans hF1).trans (((Fr.refl S w1).alloc _).trans hF2)).setCell _ (.inl hf.inF) _
theorem zkk (t s:ByteArray)(F:Nat)(at0 mode:Int)(S:Nat->Prop)(wv ev nv sv:Value)(st:FSt)(w:World)(hf:FormAt t w F S wv ev nv sv st)(hS:∀ k,w.heap.size<=k->S k)(h:s.data.toList=zbG)(r:List Bool)(he:st.elses=false::r)(hlen:r.length<=1000):
  Calls Tryz.prog 87 #[.pointer (some ⟨F,0,none⟩),.agg #[.string s,.int .i64 at0],.int .i64 mode] w fun e w'=>e=.returned (.bool true) /\
   (∃ wv' ev',FormAt t w' F S wv' ev' nv sv {st with want:=[0],elses:=r})/\Fr S w w':=by
 have n0:(s.toList==[115,101,110,100])=false:=zas (by rw [h];decide)
 have n1:(s.toList==[119,97,105,116])=false:=zas (by rw [h];decide)
 have n2:(s.toList==[115,116,111,112])=false:=zas (by rw [h];decide)
 have n3:(s.toList==[97,115,107])=false:=zas (by rw [h];decide)
 have n4:(s.toList==[114,101,116,114,121])=false:=zas (by rw [h];decide)
 have n5:(s.toList==[114,101,112,101,97,116])=false:=zas (by rw [h];decide)
 have n6:(s.toList==[101,108,115,101])=false:=zas (by rw [h];decide)
 have y:(s.toList==[125])=true:=zaO h
 clear h
 obtain ⟨g,cap,hv,_,_⟩:=hf.elses.form (by rw [he];simp)
 have hv':ev=.slice (some ⟨g,0,none⟩) (r.length+1) cap:=by rw [hv,he];rfl
 subst hv'
 have hc1:w.cell? ⟨F,1,none⟩=some (.slice (some ⟨g,0,none⟩) (r.length+1) cap):=(zaa hf.blk).trans rfl
 have hlt:=zae hf.blk
 have hcp:=(zdh hf.elses).1
 have HE:=zHd he
 clear he hv
 go_enter Tryz.func87,Tryz.ntmps87
 go_wp2_with fail
 refine (zda t F (w.heap.size+1) 1 1 S wv (.slice (some ⟨g,0,none⟩) (r.length+1) cap) nv sv st [0] _ ?_ ?_ ?_ rfl (by decide)).mono ?_
 .exact (hf.alloc _).alloc _
 .intro k hk;exact hS k (by simp at hk;omega)
 .exact zaw _ _ _
 rintro e w1 ⟨rfl,wv1,hf1,hF1⟩
 have hc2:w1.cell? ⟨F,1,none⟩=some (.slice (some ⟨g,0,none⟩) (r.length+1) cap):=(zaa hf1.blk).trans rfl
 have hg1:w1.cell? ⟨g,r.length,none⟩=some (.bool false):=zdY hf1.elses (by rw [show st.elses.length=r.length+1 from by rw [HE.out];rfl]) (by rw [show st.elses=false::r from HE.out];simp [zdo])
 have hz1:w1.frozen? ⟨F,1,none⟩=false:=zab hf1.blk
 have HF1:=zHd hf1
 clear hf1
 go_wp2
 go_ret
 exact ⟨rfl,⟨_,_,HF1.out.pop HE.out⟩,((((Fr.refl S w).alloc _).alloc _).trans hF1).setCell _ (.inl hf.inF) _⟩
theorem zgj (s:ByteArray)(F:Nat)(at0 mode:Int)(S:Nat->Prop)(w:World)(h0:¬ s.data.toList=zci)(h1:¬ s.data.toList=zcB)(h2:¬ s.data.toList=zcN)(h3:¬ s.data.toList=zec)(h4:¬ s.data.toList=zbd)(h5:¬ s.data.toList=zax)(h6:¬ s.data.toList=zdq)(h7:¬ s.data.toList=zbG):
  Calls Tryz.prog 87 #[.pointer (some ⟨F,0,none⟩),.agg #[.string s,.int .i64 at0],.int .i64 mode] w fun e w'=>e=.returned (.bool false)/\Fr S w w':=by
 have n0:(s.toList==[115,101,110,100])=false:=zas h0
 have n1:(s.toList==[119,97,105,116])=false:=zas h1
 have n2:(s.toList==[115,116,111,112])=false:=zas h2
 have n3:(s.toList==[97,115,107])=false:=zas h3
 have n4:(s.toList==[114,101,116,114,121])=false:=zas h4
 have n5:(s.toList==[114,101,112,101,97,116])=false:=zas h5
 have n6:(s.toList==[101,108,115,101])=false:=zas h6
 have n7:(s.toList==[125])=false:=zas h7
 clear h0 h1 h2 h3 h4 h5 h6 h7
 go_enter Tryz.func87,Tryz.ntmps87
 go_wp2
 go_ret
 exact ⟨rfl,(Fr.refl S w).alloc _⟩
theorem zng (t s:ByteArray)(F:Nat)(at0 mode:Int)(S:Nat->Prop)(wv ev nv sv:Value)(st:FSt)(w:World)(hf:FormAt t w F S wv ev nv sv st)(hS:∀ k,w.heap.size<=k->S k)(hlen:st.elses.length<=1000):
  Calls Tryz.prog 87 #[.pointer (some ⟨F,0,none⟩),.agg #[.string s,.int .i64 at0],.int .i64 mode] w fun e w'=>e=.returned (.bool (zcp s.data.toList mode st).2) /\
   ((zcp s.data.toList mode st).2=true->∃ wv' ev',FormAt t w' F S wv' ev' nv sv (zcp s.data.toList mode st).1)/\Fr S w w':=by
 unfold zcp
 by_cases h0:s.data.toList=zci
 .rw [if_pos h0]
  exact (zl3 t s F at0 mode S wv ev nv sv st w hf hS h0).mono fun e w' h=>⟨h.1,fun _=>h.2.1,h.2.2⟩
 by_cases h1:s.data.toList=zcB
 .rw [if_neg h0,if_pos h1]
  exact (zl5 t s F at0 mode S wv ev nv sv st w hf hS h1).mono fun e w' h=>⟨h.1,fun _=>h.2.1,h.2.2⟩
 by_cases h2:s.data.toList=zcN
 .rw [if_neg h0,if_neg h1,if_pos h2]
  exact (zl4 t s F at0 mode S wv ev nv sv st w hf hS h2).mono fun e w' h=>⟨h.1,fun _=>h.2.1,h.2.2⟩
 by_cases h3:s.data.toList=zec
 .rw [if_neg h0,if_neg h1,if_neg h2,if_pos h3]
  exact (znh t s F at0 mode S wv ev nv sv st w hf hS h3).mono fun e w' h=>⟨h.1,fun _=>h.2.1,h.2.2⟩
 by_cases h4:s.data.toList=zbd
 .rw [if_neg h0,if_neg h1,if_neg h2,if_neg h3,if_pos h4]
  exact (zkh t s F at0 mode S wv ev nv sv st w hf hS h4).mono fun e w' h=>⟨h.1,fun _=>h.2.1,h.2.2⟩
 by_cases h5:s.data.toList=zax
 .rw [if_neg h0,if_neg h1,if_neg h2,if_neg h3,if_neg h4,if_pos h5]
  exact (zjg t s F at0 mode S wv ev nv sv st w hf hS h5).mono fun e w' h=>⟨h.1,fun _=>h.2.1,h.2.2⟩
 by_cases h6:s.data.toList=zdq
 .rw [if_neg h0,if_neg h1,if_neg h2,if_neg h3,if_neg h4,if_neg h5,if_pos h6]
  exact (zl2 t s F at0 mode S wv ev nv sv st w hf hS h6).mono fun e w' h=>⟨h.1,fun _=>h.2.1,h.2.2⟩
 by_cases h7:s.data.toList=zbG
 .rw [if_neg h0,if_neg h1,if_neg h2,if_neg h3,if_neg h4,if_neg h5,if_neg h6,if_pos h7]
  cases he:st.elses with
  | nil=>
   exact (zki t s F at0 mode S wv ev nv sv st w hf hS h7 he).mono fun e w' h=>⟨h.1,fun h'=>absurd h' (by simp),h.2⟩
  | cons b r=>
   have hr:r.length<=1000:=by rw [he] at hlen;simp at hlen;omega
   cases b with
   | true=>exact (zkj t s F at0 mode S wv ev nv sv st w hf hS h7 r he hr).mono fun e w' h=>⟨h.1,fun _=>h.2.1,h.2.2⟩
   | false=>exact (zkk t s F at0 mode S wv ev nv sv st w hf hS h7 r he hr).mono fun e w' h=>⟨h.1,fun _=>h.2.1,h.2.2⟩
 .rw [if_neg h0,if_neg h1,if_neg h2,if_neg h3,if_neg h4,if_neg h5,if_neg h6,if_neg h7]
  exact (zgj s F at0 mode S w h0 h1 h2 h3 h4 h5 h6 h7).mono fun e w' h=>⟨h.1,fun h'=>absurd h' (by simp),h.2⟩
end Go.Proofs.YtmmmnghiegajmaaGreat
