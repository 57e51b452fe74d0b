import Derived.Test.YtmmmnghiegajmaaGreatM10
set_option maxHeartbeats 2000000
open Go.RowKit Go.Proofs.Herald Go.Proofs.Tryz
namespace Go.Proofs.YtmmmnghiegajmaaGreat
theorem ap.popWant {t:ByteArray}{w:World}{F:Nat}{S:Nat->Prop}{ev nv sv:Value}{st:dw}{g cap:Nat}{m:Int}{r:List Int}(hf:ap t w F S (.slice (some ⟨g,0,none⟩) (r.length+1) cap) ev nv sv st)(he:st.want=m::r):
  ap t (w.setCell ⟨F,0,none⟩ (.slice (some ⟨g,0,none⟩) r.length cap)) F S (.slice (some ⟨g,0,none⟩) r.length cap) ev nv sv {st with want:=r}:=by
 have A0:∀ k,k≠F->(w.setCell ⟨F,0,none⟩ (.slice (some ⟨g,0,none⟩) r.length cap)).heap[k]?=w.heap[k]?:=fun k hk=>q8 _ _ _ _ hk;have own:∀ {e:TypeId} {sz:Nat} {v:Value} {n:Nat} {xs:List Value},e≠126->w.ownsRow 0 e sz v n xs->(w.setCell ⟨F,0,none⟩ (.slice (some ⟨g,0,none⟩) r.length cap)).ownsRow 0 e sz v n xs:=fun he ho=>
  aT ho (fun k hk=>by obtain⟨c,hc⟩:=ax ho hk;exact A0 k (aA hc hf.blk he))
 have A1:=own (by decide) hf.want;refine⟨by rw[cG _ hf.blk];rfl,hf.inF,?_,own (by decide) hf.elses,own (by decide) hf.nums,own (by decide) hf.sorts,hf.wS,hf.eS,hf.nS,hf.sS,hf.apart⟩;refine⟨by simp[iH],.inr ?_⟩;rcases A1.2 with ⟨h1,_⟩|⟨g',cap',cur,hv,hb,hg,hn,hm,hs,ht⟩
 .cases h1
 .simp at hv;obtain⟨rfl,h2,rfl⟩:=hv;rw[he]at hn ht;refine⟨g,cap,cur,rfl,hb,hg,by show r.length<=_;simp at hn;omega,hm,hs,?_⟩;simp only[Nat.mul_one]at ht ⊢;have:cur.toList.take r.length=(cur.toList.take (m::r).length).take r.length:=by rw[List.take_take];congr 1;simp
  rw[this,ht];simp[iH]
theorem ap.top {t:ByteArray}{w:World}{F:Nat}{S:Nat->Prop}{wv ev nv sv:Value}{st:dw}{m:Int}{r:List Int}(hf:ap t w F S wv ev nv sv st)(he:st.want=m::r):
  ∃ g cap,wv=.slice (some ⟨g,0,none⟩) (r.length+1) cap/\w.cell? ⟨g,r.length,none⟩=some (.int .i64 m)/\r.length+1<=cap/\g<w.heap.size:=by
 obtain⟨g,cap,hv,_,A1⟩:=hf.want.form (by rw[he];simp);have A0:wv=.slice (some ⟨g,0,none⟩) (r.length+1) cap:=by rw[hv,he];rfl
 refine⟨g,cap,A0,mi hf.want hv (by rw[he];simp[iH]),?_,A1⟩;rw[A0]at hf;exact(jN hf.want).1
theorem Co (t s:ByteArray)(F:Nat)(at0:Int)(S:Nat->Prop)(wv ev nv sv:Value)(st:dw)(w:World)(hf:ap t w F S wv ev nv sv st)(hS:∀ k,w.heap.size<=k->S k)(hlen:st.elses.length<=1000)
  (m:Int) (r:List Int) (he:st.want=m::r) (hr:r.length<=10) (hm:m=0\/m=1):
  Calls prog 51 #[.pointer (some ⟨F,0,none⟩),.agg #[.string s,.int .i64 at0]] w fun e w'=>e=.returned (.bool (fU s.data.toList m st).2) /\
   ((fU s.data.toList m st).2=true->∃ wv' ev',ap t w' F S wv' ev' nv sv (fU s.data.toList m st).1)/\Fr S w w':=by
 obtain⟨g,A0,rfl,hg,A4,A5⟩:=hf.top he;have A3:w.cell? ⟨F,0,none⟩=some (.slice (some ⟨g,0,none⟩) (r.length+1) A0):=(ag hf.blk).trans rfl;have A2:=ak hf.blk;clear he;rcases hm with rfl|rfl;all_goals
  go_enter func51,ntmps51
  go_wp2
  go_region;go_wp2_with fail
  refine(Di t s F at0 _ S (.slice (some ⟨g,0,none⟩) (r.length+1) A0) ev nv sv st _ ?_ ?_ hlen).mono ?_
  .exact(hf.alloc _).drew
  .intro k hk;exact hS k (by simp at hk;omega)
  rintro e w1 ⟨rfl,h1,A1⟩;go_wp2
  go_ret;exact⟨rfl,h1,(((Fr.refl S w).alloc _).drew).trans A1⟩
theorem om (t s:ByteArray)(F:Nat)(at0:Int)(S:Nat->Prop)(wv ev nv sv:Value)(st:dw)(w:World)(hf:ap t w F S wv ev nv sv st)(hS:∀ k,w.heap.size<=k->S k)(hlen:st.elses.length<=1000)
  (r:List Int) (he:st.want=6::r) (hr:r.length<=10):
  Calls prog 51 #[.pointer (some ⟨F,0,none⟩),.agg #[.string s,.int .i64 at0]] w fun e w'=>e=.returned (.bool (s.data.toList==dK)) /\
   (∃ wv' ev',ap t w' F S wv' ev' nv sv {st with elses:=st.next::st.elses,want:=[0]})/\Fr S w w':=by
 obtain⟨g,A0,rfl,hg,B6,B7⟩:=hf.top he;have A7:w.cell? ⟨F,0,none⟩=some (.slice (some ⟨g,0,none⟩) (r.length+1) A0):=(ag hf.blk).trans rfl;have B2:=ak hf.blk;have B4:w.cell? ⟨F,1,none⟩=some ev:=(ag hf.blk).trans rfl;have B5:w.cell? ⟨F,2,none⟩=some (.bool st.next):=(ag hf.blk).trans rfl;have HV:Hid (ev.ownBlock≠some F):=fun e=>by obtain⟨B0,hc⟩:=ax hf.elses e;exact aA hc hf.blk (by decide) rfl
 have HF:Hid (ap t (w.alloc (.cells #[.string s,.int .i64 at0] 129)) F (fun k=>S k/\k≠w.heap.size) (.slice (some ⟨g,0,none⟩) (r.length+1) A0) ev nv sv st):=(hf.guard _ (v9 _)).alloc _;have B8:(w.alloc (.cells #[.string s,.int .i64 at0] 129)).heap.size=w.heap.size+1:=by simp
 have HB:Hid ((w.alloc (.cells #[.string s,.int .i64 at0] 129)).heap[w.heap.size]?=some (.cells #[.string s,.int .i64 at0] 129)):=v8 _ _;have A8:(w.alloc (.cells #[.string s,.int .i64 at0] 129)).ownsRow 0 4 1 ev st.elses.length (mb st.elses.reverse):=hf.elses.alloc _;have A2:ev.ownBlock≠some w.heap.size:=fun e=>by obtain⟨B0,hc⟩:=ax hf.elses e;have:=ak hc;omega
 have HE:Hid ((s.toList==[123])=(s.data.toList==dK)):=by rw[ByteArray.toList_eq];rfl
 clear he hf;go_enter func51,ntmps51
 go_wp2
 go_region;go_wp2
 go_region_law (refine oG _ rfl (.tmp 32) (.tmp 37) 124 rfl 4 _ 1 1 underlying124 Tryz.infoBool rfl (by decide) (by decide) ev _ _ (w.heap.size+1) [.bool st.next] (by rfl) (by exact A8.alloc _) (by exact ey _ _ _) (by rfl) rfl (by simp[Value.oneCell']) (by omega) ?_;intro g1 cap1 w1 hown1 hgrow hat hlt;have A7:w1.cell? ⟨F,1,none⟩=some ev:=(ag (cM (ae.alloc _ _).drew.drew hgrow HF.blk HV)).trans rfl;have B1:w1.frozen? ⟨F,1,none⟩=false:=aC (cM (ae.alloc _ _).drew.drew hgrow HF.blk HV))
 all_goals
  obtain⟨p1,p2⟩:=HF.push_elses st.next rfl (ae.alloc _ _).drew.drew hown1 hgrow hat (fun k hk=>⟨hS k (by omega),by omega⟩);have A4:=cM (ae.alloc _ _).drew.drew hgrow HB A2;have hs1:=nw (ae.alloc _ _).drew.drew hgrow;have A5:(w1.setCell ⟨F,1,none⟩ (.slice (some ⟨g1,0,none⟩) (st.elses.length+1) cap1)).heap[w.heap.size]?=some (.cells #[.string s,.int .i64 at0] 129):=by
   rw[q8 _ _ _ _ (by have:=HF.inF.2;exact fun e=>this e.symm)];exact A4
  have HP:Hid (_/\_/\_):=And.intro p1 (And.intro p2 A5);clear p1 p2 A4 A5 A7 B1 A8;go_wp2_with fail
  refine(kG t F w1.heap.size 1 1 (fun k=>S k/\k≠w.heap.size) (.slice (some ⟨g,0,none⟩) (r.length+1) A0) (.slice (some ⟨g1,0,none⟩) (st.elses.length+1) cap1) nv sv {st with elses:=st.next::st.elses} [0] _ ?_ ?_ ?_ rfl (by decide)).mono ?_
  .exact HP.1.alloc _
  .intro k hk;simp[World.setCell]at hk;exact⟨hS k (by omega),by omega⟩
  .exact jj _ _ _ (ef _ _ _)
  rintro e w2 ⟨rfl,B9,A9,A1⟩;have A6:w2.heap[w.heap.size]?=some (.cells #[.string s,.int .i64 at0] 129):=by
   rw[A1.block w.heap.size (by simp[World.setCell];omega) (by simp)];rw[q9 _ _ _ (by simp[World.setCell];omega)];exact HP.2.2
  have B3:w2.cell? ⟨w.heap.size,0,none⟩=some (.string s):=(ag A6).trans rfl;have A3:Hid (_/\_):=And.intro A9 A1;clear A9 A1 A6;go_wp2
  go_ret;refine⟨by rw[<- HE];rfl,⟨_,_,A3.1.mono (fun k hk=>hk.1)⟩,?_⟩;have q1:=HP.2.1.mono (T:=S) (fun k _ hk=>hk.1);have q2:=A3.2.mono (T:=S) (fun k _ hk=>hk.1);exact((Fr.refl S w).alloc _).trans (q1.trans (((Fr.refl S _).alloc _).trans q2))
theorem qt (t s:ByteArray)(F:Nat)(at0:Int)(S:Nat->Prop)(wv ev nv sv:Value)(st:dw)(w:World)(hf:ap t w F S wv ev nv sv st)(_hS:∀ k,w.heap.size<=k->S k)
  (r:List Int) (he:st.want=2::r) (hr:r.length<=10):
  Calls prog 51 #[.pointer (some ⟨F,0,none⟩),.agg #[.string s,.int .i64 at0]] w fun e w'=>e=.returned (.bool (decide (0<=cA s.data.toList))) /\
   (∃ wv' ev',ap t w' F S wv' ev' nv sv {st with want:=r})/\Fr S w w':=by
 obtain⟨g,A0,rfl,hg,A3,A4⟩:=hf.top he;have A2:w.cell? ⟨F,0,none⟩=some (.slice (some ⟨g,0,none⟩) (r.length+1) A0):=(ag hf.blk).trans rfl;have A1:=ak hf.blk;have hz:w.frozen? ⟨F,0,none⟩=false:=aC hf.blk;have HP:Hid (ap t ((w.setCell ⟨F,0,none⟩ (.slice (some ⟨g,0,none⟩) r.length A0)).alloc (.cells #[.string s,.int .i64 at0] 129)) F S (.slice (some ⟨g,0,none⟩) r.length A0) ev nv sv {st with want:=r}):=(hf.popWant he).alloc _;have HI:Hid (S F):=hf.inF;have A5:w.heap.size≠F:=by omega
 clear he hf;go_enter func51,ntmps51
 go_wp2
 go_region;go_wp2
 go_region;go_wp2_with (go_at_call 54;refine(lM _ _).mono ?_;rintro e w' ⟨rfl,rfl⟩)
 go_ret;exact⟨rfl,⟨_,_,HP.keep (fun _ _=>rfl)⟩,((((Fr.refl S w).setCell ⟨F,0,none⟩ (.inl HI) _).alloc _).drew).drew⟩
theorem qu (t s:ByteArray)(F:Nat)(at0:Int)(S:Nat->Prop)(wv ev nv sv:Value)(st:dw)(w:World)(hf:ap t w F S wv ev nv sv st)(hS:∀ k,w.heap.size<=k->S k)
  (m:Int) (r:List Int) (he:st.want=m::r) (hr:r.length<=10) (hm0:(m==0)=false) (hm1:(m==1)=false) (hm6:(m==6)=false) (hm2:(m==2)=false) (p:Nat×Nat) (hs:s=t.extract p.1 p.2) (hat0:at0=p.1) (hsz:s.size<=400) (hl1:st.nums.length<=1000) (hl2:st.sorts.length<=1000):
  Calls prog 51 #[.pointer (some ⟨F,0,none⟩),.agg #[.string s,.int .i64 at0]] w fun e w'=>e=.returned (.bool (decide (0<=bm s.data.toList))) /\
   (∃ wv' ev' nv' sv',ap t w' F S wv' ev' nv' sv' {st with want:=r,nums:=st.nums++[p],sorts:=st.sorts++[m]})/\Fr S w w':=by
 obtain⟨g,A0,rfl,hg,C2,C5⟩:=hf.top he;have B0:w.cell? ⟨F,0,none⟩=some (.slice (some ⟨g,0,none⟩) (r.length+1) A0):=(ag hf.blk).trans rfl;have B7:=ak hf.blk;have hz:w.frozen? ⟨F,0,none⟩=false:=aC hf.blk;have HP:Hid (ap t ((w.setCell ⟨F,0,none⟩ (.slice (some ⟨g,0,none⟩) r.length A0)).alloc (.cells #[.string s,.int .i64 at0] 129)) F (fun k=>S k/\k≠w.heap.size) (.slice (some ⟨g,0,none⟩) r.length A0) ev nv sv {st with want:=r}):=((hf.guard _ (v9 _)).popWant he).alloc _;have HI:Hid (S F):=hf.inF;have B4:w.heap.size≠F:=by omega
 have B9:w.cell? ⟨F,3,none⟩=some nv:=(ag hf.blk).trans rfl;have B1:w.cell? ⟨F,4,none⟩=some sv:=(ag hf.blk).trans rfl;have HB:Hid (((w.setCell ⟨F,0,none⟩ (.slice (some ⟨g,0,none⟩) r.length A0)).alloc (.cells #[.string s,.int .i64 at0] 129)).heap[w.heap.size]?=some (.cells #[.string s,.int .i64 at0] 129)):=by
  exact jj _ _ _ (ef _ _ _)
 have B2:nv.ownBlock≠some w.heap.size:=fun e=>by obtain⟨A1,hc⟩:=ax hf.nums e;have:=ak hc;omega
 have B3:sv.ownBlock≠some w.heap.size:=fun e=>by obtain⟨A1,hc⟩:=ax hf.sorts e;have:=ak hc;omega
 have HV:Hid (nv.ownBlock≠some F):=fun e=>by obtain⟨A1,hc⟩:=ax hf.nums e;exact aA hc hf.blk (by decide) rfl
 have A9:Hid (sv.ownBlock≠some F):=fun e=>by obtain⟨A1,hc⟩:=ax hf.sorts e;exact aA hc hf.blk (by decide) rfl
 have A4:((w.setCell ⟨F,0,none⟩ (.slice (some ⟨g,0,none⟩) r.length A0)).alloc (.cells #[.string s,.int .i64 at0] 129)).heap.size=w.heap.size+1:=by simp
 have B5:((w.setCell ⟨F,0,none⟩ (.slice (some ⟨g,0,none⟩) r.length A0)).alloc (.cells #[.string s,.int .i64 at0] 129)).ownsRow 0 129 2 nv st.nums.length (jl t st.nums):=HP.nums;have A5:Hid (s=t.extract p.1 p.2/\at0=p.1):=And.intro hs hat0;clear he hf hs hat0;go_enter func51,ntmps51
 go_wp2
 go_region;go_wp2
 go_region;go_wp2
 go_region_law (refine oG _ rfl (.tmp 85) (.tmp 87) 69 rfl 129 _ 2 24 underlying69 Tryz.infoWord rfl (by decide) (by decide) nv _ _ (w.heap.size+1) [.string s,.int .i64 at0] (by rfl) (by exact B5.alloc _) (by exact jj _ _ _ A4) (by rfl) rfl (lb _ _) (by omega) ?_;intro g1 cap1 w1 hown1 hgrow hat hlt;have B0:w1.cell? ⟨F,3,none⟩=some nv:=(ag (cM (ae.alloc _ _).drew.drew.drew hgrow HP.blk HV)).trans rfl;have C3:w1.frozen? ⟨F,3,none⟩=false:=aC (cM (ae.alloc _ _).drew.drew.drew hgrow HP.blk HV))
 all_goals
  obtain⟨p1,p2⟩:=HP.push_nums p rfl (ae.alloc _ _).drew.drew.drew (by rw[<- A5.1,<- A5.2];exact hown1) hgrow hat (fun k hk=>⟨hS k (by omega),by omega⟩);have A6:=cM (ae.alloc _ _).drew.drew.drew hgrow HB B2;have hs1:=nw (ae.alloc _ _).drew.drew.drew hgrow;have A7:(w1.setCell ⟨F,3,none⟩ (.slice (some ⟨g1,0,none⟩) (st.nums.length+1) cap1)).heap[w.heap.size]?=some (.cells #[.string s,.int .i64 at0] 129):=by
   rw[q8 _ _ _ _ B4];exact A6
  have C0:w1.cell? ⟨F,4,none⟩=some sv:=(ag (cM (ae.alloc _ _).drew.drew.drew hgrow HP.blk HV)).trans rfl;have B6:=p1.sorts;have HQ:Hid (_/\_/\_):=And.intro p1 (And.intro p2 A7);have A3:(w1.setCell ⟨F,3,none⟩ (.slice (some ⟨g1,0,none⟩) (st.nums.length+1) cap1)).heap.size=w1.heap.size:=ef _ _ _;clear p1 p2 A6 A7 hown1 hgrow hat B1;go_wp2_with (at_builtin;refine jZ _ rfl (.tmp 95) (.tmp 97) 123 rfl 3 _ 1 8 underlying123 Tryz.infoInt rfl (by decide) (by decide) sv _ _ w1.heap.size [.int .i64 m] (by rfl) (by exact B6.alloc _) (by exact jj _ _ _ A3) (by rfl) rfl (by simp[Value.oneCell']) (by simpa using Qc hl2 (by omega)) ?_)
  intro g2 cap2 w2 hown2 hgrow2 hat2 hlt2;obtain⟨q1,q2⟩:=HQ.1.push_sorts m rfl (ae.alloc _ _) hown2 hgrow2 (by simpa using hat2) (fun k hk=>⟨hS k (by omega),by omega⟩);have A8:=cM (ae.alloc _ _) hgrow2 HQ.2.2 B3;have A2:=cM (ae.alloc _ _) hgrow2 HQ.1.blk A9;have C1:w2.cell? ⟨F,4,none⟩=some sv:=(ag A2).trans rfl;have C4:w2.frozen? ⟨F,4,none⟩=false:=aC A2;have B8:w2.cell? ⟨w.heap.size,0,none⟩=some (.string s):=(ag A8).trans rfl;have HR:Hid (_/\_):=And.intro q1 q2;clear q1 q2 A8 A2 hown2 hgrow2 hat2;go_wp2_with (go_at_call 52;refine(ke _ _ (by unfold maxLen;omega)).mono ?_;rintro e w' ⟨rfl,rfl⟩)
  go_ret;refine⟨rfl,⟨_,_,_,_,HR.1.mono (fun k hk=>hk.1)⟩,?_⟩;have r1:=HQ.2.1.mono (T:=S) (fun k _ hk=>hk.1);have r2:=HR.2.mono (T:=S) (fun k _ hk=>hk.1);exact(((Fr.refl S w).setCell ⟨F,0,none⟩ (.inl HI) _).alloc _).trans (r1.trans r2)
theorem EO (t:ByteArray)(F:Nat)(p:Nat×Nat)(S:Nat->Prop)(wv ev nv sv:Value)(st:dw)(w:World)(hf:ap t w F S wv ev nv sv st)(hS:∀ k,w.heap.size<=k->S k)(hlen:st.elses.length<=1000)
  (hw:st.want≠[]) (hr:st.want.length<=10) (hsz:(t.extract p.1 p.2).size<=400) (hl1:st.nums.length<=1000) (hl2:st.sorts.length<=1000):
  Calls prog 51 #[.pointer (some ⟨F,0,none⟩),.agg #[.string (t.extract p.1 p.2),.int .i64 p.1]] w fun e w'=>e=.returned (.bool (fW (ao t p) p st).2) /\
   ((fW (ao t p) p st).2=true->∃ wv' ev' nv' sv',ap t w' F S wv' ev' nv' sv' (fW (ao t p) p st).1)/\Fr S w w':=by
 cases he:st.want with
 | nil=>exact absurd he hw
 | cons m r=>
  have A1:r.length<=10:=by rw[he]at hr;simp at hr;omega
  have e0:fW (ao t p) p st=if m=0\/m=1 then fU (ao t p) m st
   else if m=6 then ({st with elses:=st.next::st.elses,want:=[0]},ao t p==dK)
   else if m=2 then ({st with want:=r},decide (0<=cA (ao t p)))
   else ({st with want:=r,nums:=st.nums++[p],sorts:=st.sorts++[m]},decide (0<=bm (ao t p))):=by
   unfold fW;rw[he]
  rw[e0];by_cases h01:m=0\/m=1
  .rw[if_pos h01];refine(Co t _ F p.1 S wv ev nv sv st w hf hS hlen m r he A1 h01).mono fun e w' h=>⟨h.1,fun h'=>?_,h.2.2⟩;obtain⟨a,b,A0⟩:=h.2.1 h';exact⟨a,b,nv,sv,A0⟩
  .rw[if_neg h01];by_cases h6:m=6
   .rw[if_pos h6];subst h6;refine(om t _ F p.1 S wv ev nv sv st w hf hS hlen r he A1).mono fun e w' h=>⟨h.1,fun _=>?_,h.2.2⟩;obtain⟨a,b,A0⟩:=h.2.1;exact⟨a,b,nv,sv,A0⟩
   .rw[if_neg h6];by_cases h2:m=2
    .rw[if_pos h2];subst h2;refine(qt t _ F p.1 S wv ev nv sv st w hf hS r he A1).mono fun e w' h=>⟨h.1,fun _=>?_,h.2.2⟩;obtain⟨a,b,A0⟩:=h.2.1;exact⟨a,b,nv,sv,A0⟩
    .rw[if_neg h2];refine(qu t _ F p.1 S wv ev nv sv st w hf hS m r he A1 (by simp;omega) (by simp;omega) (by simp;omega) (by simp;omega) p rfl rfl hsz hl1 hl2).mono fun e w' h=>⟨h.1,fun _=>h.2.1,h.2.2⟩
theorem yH (t:ByteArray):∀ (ws:List (Nat×Nat)) (i:Nat) (hi:i<ws.length),
  (jl t ws)[i*2]?=some (.string (t.extract ws[i].1 ws[i].2))/\(jl t ws)[i*2+1]?=some (.int .i64 ws[i].1):=by
 intro ws;induction ws with
 | nil=>intro i hi;simp at hi
 | cons p r ih=>
  intro i hi;cases i with
  | zero=>simp[jl,qe]
  | succ i=>
   have:=ih i (by simpa using hi);simp only[jl,List.flatMap_cons,qe]at this ⊢;rw[show(i+1)*2=i*2+1+1 from by omega];simpa using this
theorem vB {t:ByteArray}{w:World}{B:Nat}{v:Value}{ws:List (Nat×Nat)}(h:w.ownsRow B 129 2 v ws.length (jl t ws)):
  ∃ a cap L,v=.slice a ws.length cap/\ws.length<=cap/\(0<ws.length->a=some ⟨L,0,none⟩/\B<=L/\L<w.heap.size/\aP t w L 0 ws):=by
 rcases h.2 with ⟨rfl,h0⟩|⟨g,cap,cur,rfl,hb,hg,hn,hm,hs,ht⟩
 .exact⟨none,0,0,by rw[h0],by omega,by omega⟩
 .refine⟨_,cap,g,rfl,hn,fun _=>⟨rfl,hb,ak hg,fun i hi=>?_⟩⟩;have hc:=h.cells (g:=g) rfl;have e1:=yH t ws i hi;have c1:=hc _ _ e1.1;have c2:=hc _ _ e1.2;rw[Addr.add_lit]at c1 c2;exact⟨c1,by simpa[Nat.add_assoc] using c2⟩
theorem aP.keep {t:ByteArray}{w w':World}{b off:Nat}{ws:List (Nat×Nat)}(h:aP t w b off ws)(hk:w'.heap[b]?=w.heap[b]?):aP t w' b off ws:=fun i hi=>by
 obtain⟨h1,h2⟩:=h i hi;exact⟨(World.cell?_of_block hk).trans h1,(World.cell?_of_block hk).trans h2⟩
theorem qj (t:ByteArray)(w:World)(ht:t.size<=400):
  Calls prog 22 #[.string t] w fun e w'=>∃ a cap L,e=.returned (.slice a (dC t.data.toList).length cap)/\(dC t.data.toList).length<=cap /\
   (0<(dC t.data.toList).length->a=some ⟨L,0,none⟩/\w.heap.size<=L/\L<w'.heap.size/\aP t w' L 0 (dC t.data.toList))/\Below w.heap.size w w':=
 (BN t w ht).mono fun e w' ⟨v,he,ho,hb⟩=>by
  obtain⟨a,cap,L,hv,hc,hw⟩:=vB ho;exact⟨a,cap,L,by rw[he,hv],hc,hw,hb⟩
theorem kf {k:IntKind}{a b c d:Int}(h1:a=c)(h2:b=d):Ending.returned (.tuple #[.int k a,.int k b])=.returned (.tuple #[.int k c,.int k d]):=by rw[h1,h2]
theorem zF (t:ByteArray)(w w1:World)(S:Nat->Prop)(hS:S (w.heap.size+1))(hS':S w.heap.size)
  (hb:∀ k,k<w.heap.size+2->w1.heap[k]?=((w.alloc (.cells #[.int .i64 0] 3)).alloc (.cells #[.slice (some ⟨w.heap.size,0,none⟩) 1 1,.slice none 0 0,.bool false,.slice none 0 0,.slice none 0 0] 126)).heap[k]?):
  ap t w1 (w.heap.size+1) S (.slice (some ⟨w.heap.size,0,none⟩) 1 1) (.slice none 0 0) (.slice none 0 0) (.slice none 0 0) ik:=by
 refine⟨?_,hS,?_,Qg _ _ _ _,Qg _ _ _ _,Qg _ _ _ _,?_,?_,?_,?_,?_⟩
 .rw[hb _ (by omega),ey];rfl
 .refine⟨by simp[ik,iH],.inr ⟨w.heap.size,1,#[.int .i64 0],rfl,by omega,?_,by simp[ik],by unfold maxLen;omega,rfl,by simp[ik,iH]⟩⟩;rw[hb _ (by omega),q9 _ _ _ (by simp),v8]
 .intro k hk;simp[Value.ownBlock]at hk;subst hk;exact hS'
 iterate 3
  .intro k hk;simp[Value.ownBlock]at hk
 .intro k hk e;simp[Value.ownBlock]at e
theorem rR (t:ByteArray)(w:World)(ht:t.size<=400):
  Calls prog 21 #[.string t] w fun e w'=>e=.returned (.tuple #[.int .i64 (iW t).1,.int .i64 (iW t).2])/\Below w.heap.size w w':=by
 have C3:=tV t.data.toList;have D3:=ky t.data.toList;have C0:Hid (iW t=match kp t (dC t.data.toList) ik with|.inr a=>(2,(a:Int))|.inl st=>nU t st):=rfl
 go_enter func21,ntmps21
 go_wp2_with fail
 refine(qj t _ ht).mono ?_;rintro e w1 ⟨a,E8,L,rfl,E3,B6,B0⟩;generalize dC t.data.toList=ws at *;have B5:((w.alloc (.cells #[.int .i64 0] 3)).alloc (.cells #[.slice (some ⟨w.heap.size,0,none⟩) 1 1,.slice none 0 0,.bool false,.slice none 0 0,.slice none 0 0] 126)).heap.size=w.heap.size+2:=by simp
 have hs1:=B0.size;rw[B5]at hs1;have HW:Hid (0<ws.length->a=some ⟨L,0,none⟩/\w.heap.size+2<=L/\L<w1.heap.size/\aP t w1 L 0 ws):=by rw[B5]at B6;exact B6
 have B8:Hid (ap t w1 (w.heap.size+1) (fun k=>w.heap.size<=k/\(0<ws.length->k≠L)) (.slice (some ⟨w.heap.size,0,none⟩) 1 1) (.slice none 0 0) (.slice none 0 0) (.slice none 0 0) ik):=
  zF t w w1 _ ⟨by omega,fun h=>by have:=(HW.out h).2.1;omega⟩ ⟨by omega,fun h=>by have:=(HW.out h).2.1;omega⟩ (fun k hk=>B0.block k (by omega))
 have B7:Hid (Below w.heap.size w w1):=(((v7 _ _).alloc (v9 _) _).alloc (by simp) _).trans (B0.mono (by omega));have D5:Hid (∀ p∈ws,p.1<p.2/\p.2<=t.size):=fun p hp=>by
   have h1:=C3 p hp;have e1:t.data.toList.length=t.size:=by simp
   rw[e1]at h1;exact h1
 have E6:ws.length<=t.size:=by simpa using D3
 clear B6 B5 B0 C3 D3;go_wp2_with fail
 go_loopw [6] (fun i wr=>∃ (k:Nat) (st:dw) (wv ev nv sv:Value),k<=ws.length/\i=.int .i64 k/\ap t wr (w.heap.size+1) (fun k=>w.heap.size<=k/\(0<ws.length->k≠L)) wv ev nv sv st /\
   Fr (fun k=>w.heap.size<=k/\(0<ws.length->k≠L)) w1 wr/\kR st k/\kp t (ws.drop k) st=kp t ws ik)
  (fun i _=>ws.length - (intOf i).toNat)
 case atStart=>exact⟨0,ik,_,_,_,_,Qa _,rfl,B8,Fr.refl _ _,kR.init,rfl⟩
 case round=>
  obtain⟨k,st,wv,ev,nv,sv,hk,rfl,hf,hF,A4,A1⟩:=hrel;have HF:=ah hf;have E7:=hF.size;clear hf B8;by_cases hlt:k<ws.length
  .obtain⟨ha,F0,E0,A9⟩:=HW (by omega);have D4:aP t wr L 0 ws:=A9.keep (hF.block L E0 (fun h=>h.2 (by omega) rfl));obtain⟨C4,B1⟩:=D4 k hlt;rw[Nat.zero_add]at C4 B1;rw[lu ws k hlt,kp]at A1;have E1:=D5 ws[k] (Qb hlt);have B4:(t.extract ws[k].1 ws[k].2).size<=400:=by simp;omega
   have C1:=ah A1;have A5:=ah A4;have B9:=ah hF;clear A1 D4 A9 A4 hF E1;rw[ha];go_wp2_with fail
   refine(EO t (w.heap.size+1) ws[k] _ wv ev nv sv st _ HF (fun q hq=>⟨by omega,fun _=>by omega⟩) (by have:=A5.out.elses;omega) A5.out.want.ne A5.out.short B4 (by have:=A5.out.nums;omega) (by have:=A5.out.nums;have:=A5.same;omega)).mono ?_;rintro e w2 ⟨rfl,C8,C2⟩;have A7:Hid (_/\_):=And.intro C8 C2;clear C8 C2;have F9:=A7.2.size;have E2:w2.cell? ⟨L,k*2+1,none⟩=some (.int .i64 ws[k].1):=by
    rw[A7.2.cell (p:=⟨L,k*2+1,none⟩) (by show L < _;omega) (fun h=>h.2 (by omega) rfl)];exact B1
   cases hr2:(fW (ao t ws[k]) ws[k] st).2 with
   | true=>
    have A3:Hid (kp t (ws.drop (k+1)) (fW (ao t ws[k]) ws[k] st).1=kp t ws ik):=by have:=C1.out;rw[if_pos hr2]at this;exact this
    have D7:=ah hr2;clear hr2;go_wp2_with fail
    go_roundw;case rel=>
     obtain⟨x1,x2,x3,x4,hx⟩:=A7.1 D7;exact⟨k+1,_,x1,x2,x3,x4,by omega,by go_num,hx,B9.out.trans A7.out.2,A5.out.read,A3.out⟩
    case measure=>simp[intOf];omega
   | false=>
    have A3:Hid (iW t=(2,(ws[k].1:Int))):=by
     have:=C1.out;rw[if_neg (by rw[hr2];simp)]at this;rw[C0,<- this];rfl
    clear hr2;go_wp2_with fail
    go_region;go_wp2
    go_ret2;refine⟨kf (by rw[A3]) (by rw[A3]),?_⟩;have q:=(B9.trans A7.2).mono (T:=fun k=>w.heap.size<=k) (fun k _ h=>h.1);exact B7.trans ((q.below (by omega)).drew)
  .obtain rfl:k=ws.length:=by omega
   rw[List.drop_length,kp]at A1;have D6:Hid (iW t=nU t st):=by rw[C0,<- A1];rfl
   cases hwant:st.want with
   | nil=>exact absurd hwant A4.want.ne
   | cons m r=>
    obtain⟨g,B3,rfl,hg,F2,F5⟩:=HF.top hwant;have F8:r.length<=10:=by have:=A4.short;rw[hwant]at this;simp at this;omega
    have A8:nU t st=if 0<st.elses.length\/1<m then (2,(t.size:Int)) else jE t st.nums st.sorts:=by unfold nU;rw[hwant];rfl
    have E5:∃ a1 c1,ev=.slice a1 st.elses.length c1:=by
     rcases HF.elses.2 with ⟨h1,h2⟩|⟨g1,c1,cur,h1,_⟩
     .exact⟨none,0,by rw[h1,h2]⟩
     .exact⟨_,_,h1⟩
    obtain⟨a1,c1,rfl⟩:=E5;have C4:wr.cell? ⟨w.heap.size+1,0,none⟩=some (.slice (some ⟨g,0,none⟩) (r.length+1) B3):=(ag HF.blk).trans rfl;have B1:wr.cell? ⟨w.heap.size+1,1,none⟩=some (.slice a1 st.elses.length c1):=(ag HF.blk).trans rfl;have C5:wr.cell? ⟨w.heap.size+1,3,none⟩=some nv:=(ag HF.blk).trans rfl;have C6:wr.cell? ⟨w.heap.size+1,4,none⟩=some sv:=(ag HF.blk).trans rfl;have B2:Hid (iW t=if 0<st.elses.length\/1<m then (2,(t.size:Int)) else jE t st.nums st.sorts):=D6.trans A8;have A6:Hid (Below w.heap.size w wr):=B7.trans ((hF.mono (T:=fun k=>w.heap.size<=k) (fun k _ h=>h.1)).below (by omega));have A5:=ah A4;have F4:=A4.elses;have F7:=A4.nums;have G0:=A4.same;clear A8 A4 A1 hF hwant;by_cases h1:0<st.elses.length
    .have HE:Hid (iW t=(2,(t.size:Int))):=B2.trans (if_pos (.inl h1));go_wp2_with fail
     go_region;go_wp2_with fail
     go_ret2;exact⟨kf (by rw[HE]) (by rw[HE]),A6.drew⟩
    .have D8:st.elses.length=0:=by omega
     rw[D8]at B1;by_cases h2:1<m
     .have HE:Hid (iW t=(2,(t.size:Int))):=B2.trans (if_pos (.inr h2));go_wp2_with fail
      go_region;go_wp2_with fail
      go_ret2;exact⟨kf (by rw[HE]) (by rw[HE]),A6.drew⟩
     .have HE:Hid (iW t=jE t st.nums st.sorts):=B2.trans (if_neg (by omega));have F6:m<=1:=by omega
      obtain⟨an,cn,N,D0,F1,hN⟩:=vB HF.nums;obtain⟨al,cl,M,D2,hM⟩:∃ al cl M,sv=.slice al st.sorts.length cl/\(0<st.sorts.length->al=some ⟨M,0,none⟩/\∀ (j:Nat) (hj:j<st.sorts.length),wr.cell? ⟨M,j,none⟩=some (.int .i64 st.sorts[j])):=by
       rcases HF.sorts.2 with ⟨h1,h2⟩|⟨g1,c1,cur,h1,_⟩
       .exact⟨none,0,0,by rw[h1,h2],by omega⟩
       .exact⟨_,_,g1,h1,fun _=>⟨rfl,fun j hj=>mi HF.sorts h1 (by simp[iH,hj])⟩⟩
      rw[D0]at C5;rw[D2]at C6;have HN:Hid (0<st.nums.length->an=some ⟨N,0,none⟩/\aP t wr N 0 st.nums):=fun h=>⟨(hN h).1,(hN h).2.2.2⟩;have HM:=ah hM;clear hN hM D0 D2 h1 h2;go_wp2_with fail
      go_region;go_wp2_with fail
      go_loop [9] (fun i=>∃ j:Nat,j<=st.nums.length/\i=.int .i64 j/\jE t (st.nums.drop j) (st.sorts.drop j)=jE t st.nums st.sorts) (fun i=>st.nums.length - (intOf i).toNat)
      case atStart=>exact⟨0,Qa _,rfl,rfl⟩
      case round=>
       obtain⟨j,hj,rfl,A0⟩:=hrel;by_cases hlt2:j<st.nums.length
       .obtain⟨ea,A9⟩:=HN (by omega);obtain⟨eb,D1⟩:=HM (by omega);have C9:j<st.sorts.length:=by omega
        obtain⟨C7,E4⟩:=A9 j hlt2;rw[Nat.zero_add]at C7 E4;have F3:=D1 j C9;rw[lu _ j hlt2,lu _ j C9,jE]at A0;have B4:(t.extract st.nums[j].1 st.nums[j].2).size<=400:=by simp;omega
        obtain⟨s,hs⟩:∃ s,s=t.extract st.nums[j].1 st.nums[j].2:=⟨_,rfl⟩;have hb:ao t st.nums[j]=s.data.toList:=by rw[hs];rfl
        rw[hb]at A0;rw[<- hs]at C7 B4;clear A9 D1 hb hs;rw[ea]at C5;rw[eb]at C6;by_cases hA:bm s.data.toList<1
        .rw[if_pos (.inl hA)]at A0;have A2:=ah A0;clear A0;go_wp2_with (first|(go_at_call 52;refine(ke _ _ (by unfold maxLen;omega)).mono ?_;rintro e w' ⟨rfl,rfl⟩)|(go_at_call 53;refine(sJ _ _).mono ?_;rintro e w' ⟨rfl,rfl⟩))
         go_region;go_wp2
         go_ret2;exact⟨kf (by rw[HE,<- A2]) (by rw[HE,<- A2]),A6.drew.drew⟩
        .by_cases hB:mZ st.sorts[j]<bm s.data.toList
         .rw[if_pos (.inr hB)]at A0;have A2:=ah A0;have D9:1<=bm s.data.toList:=by omega
          clear A0 hA;go_wp2_with (first|(go_at_call 52;refine(ke _ _ (by unfold maxLen;omega)).mono ?_;rintro e w' ⟨rfl,rfl⟩)|(go_at_call 53;refine(sJ _ _).mono ?_;rintro e w' ⟨rfl,rfl⟩))
          go_region;go_wp2
          go_ret2;exact⟨kf (by rw[HE,<- A2]) (by rw[HE,<- A2]),A6.drew.drew⟩
         .rw[if_neg (by omega)]at A0;have A2:=ah A0;have D9:1<=bm s.data.toList:=by omega
          have E9:bm s.data.toList<=mZ st.sorts[j]:=by omega
          clear A0 hA hB;go_wp2_with (first|(go_at_call 52;refine(ke _ _ (by unfold maxLen;omega)).mono ?_;rintro e w' ⟨rfl,rfl⟩)|(go_at_call 53;refine(sJ _ _).mono ?_;rintro e w' ⟨rfl,rfl⟩))
          go_round;case rel=>exact⟨j+1,by omega,by go_num,A2.out⟩
          case measure=>simp[intOf];omega
       .rw[List.drop_of_length_le (by omega)]at A0;have A2:=ah A0;clear A0;go_wp2_with fail
        go_ret2;have e0:jE t [] (st.sorts.drop j)=(0,0):=by simp[jE]
        exact⟨kf (by rw[HE,<- A2,e0]) (by rw[HE,<- A2,e0]),A6.drew⟩
def iq (t:ByteArray)(h:Hd)(u:Value×Value):List Value:=
 [.string (t.extract h.p.1 h.p.2),.int .i64 h.key,.int .i64 h.n,.int .i64 h.m,u.1,u.2,.int .i64 h.p.1]
def iV (t:ByteArray){T:Type}(xs:List ((Hd×T×T)×(Value×Value))):List Value:=xs.flatMap fun x=>iq t x.1.1 x.2
def ai (t:ByteArray)(w:World)(X:Nat->Prop):(d:Nat)->Value->af d->Prop
 | 0,v,_=>∃ a cap,v=.slice a 0 cap
 | d+1,v,l=>∃ xs:List ((Hd×af d×af d)×(Value×Value)),l=xs.map Prod.fst/\w.ownsRow 0 133 7 v xs.length (iV t xs)/\mz X v /\
   (∀ x∈xs,ai t w X d x.2.1 x.1.2.1/\ai t w X d x.2.2 x.1.2.2)/\(∀ x∈xs,x.2.1.oneCell'=true/\x.2.2.oneCell'=true)
theorem ai.keep {t:ByteArray}{w w':World}{X:Nat->Prop}(h:∀ k,X k->w'.heap[k]?=w.heap[k]?):∀ (d:Nat) (v:Value) (l:af d),ai t w X d v l->ai t w' X d v l:=by
 intro d;induction d with
 | zero=>intro v l hl;exact hl
 | succ d ih=>
  intro v l hl;obtain⟨xs,h1,h2,h3,h4,h5⟩:=hl;exact⟨xs,h1,aT h2 (fun k hk=>h k (h3 k hk)),h3,fun x hx=>⟨ih _ _ (h4 x hx).1,ih _ _ (h4 x hx).2⟩,h5⟩
theorem ai.mono {t:ByteArray}{w:World}{X Y:Nat->Prop}(h:∀ k,X k->Y k):∀ (d:Nat) (v:Value) (l:af d),ai t w X d v l->ai t w Y d v l:=by
 intro d;induction d with
 | zero=>intro v l hl;exact hl
 | succ d ih=>
  intro v l hl;obtain⟨xs,h1,h2,h3,h4,h5⟩:=hl;exact⟨xs,h1,h2,fun k hk=>h k (h3 k hk),fun x hx=>⟨ih _ _ (h4 x hx).1,ih _ _ (h4 x hx).2⟩,h5⟩
theorem ai.nil (t:ByteArray)(w:World)(X:Nat->Prop)(d:Nat):ai t w X d (.slice none 0 0) (cm d):=by
 cases d with
 | zero=>exact⟨none,0,rfl⟩
 | succ d=>exact⟨[],rfl,Qg _ _ _ _,fun k hk=>by simp[Value.ownBlock]at hk,by simp,by simp⟩
theorem ai.one {t:ByteArray}{w:World}{X:Nat->Prop}{d:Nat}{v:Value}{l:af d}(h:ai t w X d v l):∃ a n cap,v=.slice a n cap:=by
 cases d with
 | zero=>obtain⟨a,cap,h⟩:=h;exact⟨a,0,cap,h⟩
 | succ d=>
  obtain⟨xs,h1,h2,h3,h4,h5⟩:=h;rcases h2.2 with ⟨h6,_⟩|⟨g,cap,cur,h6,_⟩
  .exact⟨_,_,_,h6⟩
  .exact⟨_,_,_,h6⟩
theorem yR (t:ByteArray){T:Type}(xs:List ((Hd×T×T)×(Value×Value)))(x:(Hd×T×T)×(Value×Value)):iV t (xs++[x])=iV t xs++iq t x.1.1 x.2:=by
 simp[iV]
theorem Tryz.infoStmt:(prog.info? 133).map (fun i=>(i.zero,i.size,i.bytes))=some (some (.agg #[.string ByteArray.empty,.int .i64 0,.int .i64 0,.int .i64 0,.slice none 0 0,.slice none 0 0,.int .i64 0]),7,96):=by kernel_rfl
theorem aP.sub {t:ByteArray}{w:World}{b off:Nat}{ws:List (Nat×Nat)}(h:aP t w b off ws)(i n:Nat)(us:List (Nat×Nat))(hu:us=(ws.drop i).take n):aP t w b (off+i*2) us:=by
 subst hu;intro j hj;simp at hj;obtain⟨h1,h2⟩:=h (i+j) (by omega);have e:((ws.drop i).take n)[j]=ws[i+j]:=by simp
 rw[e];exact⟨by rw[show off+i*2+j*2=off+(i+j)*2 from by omega];exact h1,by rw[show off+i*2+j*2+1=off+(i+j)*2+1 from by omega];exact h2⟩
theorem yQ (t:ByteArray){T:Type}:∀ (xs:List ((Hd×T×T)×(Value×Value))) (i:Nat) (hi:i<xs.length) (j:Nat) (_:j<7),
  (iV t xs)[i*7+j]?=(iq t xs[i].1.1 xs[i].2)[j]?:=by
 intro xs;induction xs with
 | nil=>intro i hi;simp at hi
 | cons x r ih=>
  intro i hi j hj;have hl:(iq t x.1.1 x.2).length=7:=rfl;cases i with
  | zero=>
   simp only[iV,List.flatMap_cons,Nat.zero_mul,Nat.zero_add,List.getElem_cons_zero];rw[List.getElem?_append_left (by omega)]
  | succ i=>
   have:=ih i (by simpa using hi) j hj;simp only[iV,List.flatMap_cons,List.getElem_cons_succ]at this ⊢;rw[List.getElem?_append_right (by omega),show(i+1)*7+j - (iq t x.1.1 x.2).length=i*7+j from by omega];exact this
theorem ai.open {t:ByteArray}{w:World}{X:Nat->Prop}{d:Nat}{v:Value}{l:af (d+1)}(h:ai t w X (d+1) v l):
  ∃ (xs:List ((Hd×af d×af d)×(Value×Value))) (a:Option Addr) (cap g:Nat),l=xs.map Prod.fst/\v=.slice a xs.length cap/\(0<xs.length->a=some ⟨g,0,none⟩) /\
   (∀ (i:Nat) (hi:i<xs.length),w.cell? ⟨g,i*7,none⟩=some (.string (t.extract xs[i].1.1.p.1 xs[i].1.1.p.2))/\w.cell? ⟨g,i*7+1,none⟩=some (.int .i64 xs[i].1.1.key) /\
    w.cell? ⟨g,i*7+2,none⟩=some (.int .i64 xs[i].1.1.n)/\w.cell? ⟨g,i*7+3,none⟩=some (.int .i64 xs[i].1.1.m)/\w.cell? ⟨g,i*7+4,none⟩=some xs[i].2.1 /\
    w.cell? ⟨g,i*7+5,none⟩=some xs[i].2.2/\w.cell? ⟨g,i*7+6,none⟩=some (.int .i64 xs[i].1.1.p.1)) /\
   (∀ (i:Nat) (hi:i<xs.length),ai t w X d xs[i].2.1 xs[i].1.2.1/\ai t w X d xs[i].2.2 xs[i].1.2.2):=by
 obtain⟨xs,h1,h2,h3,h4,h5⟩:=h;rcases h2.2 with ⟨rfl,h0⟩|⟨g,cap,cur,rfl,hb,hg,hn,hm,hs,ht⟩
 .exact⟨xs,none,0,0,h1,by rw[h0],by omega,fun i hi=>by omega,fun i hi=>h4 _ (Qb hi)⟩
 .refine⟨xs,_,cap,g,h1,rfl,fun _=>rfl,fun i hi=>?_,fun i hi=>h4 _ (Qb hi)⟩;have hc:=h2.cells (g:=g) rfl;have key:∀ (j:Nat) (u:Value),j<7->(iq t xs[i].1.1 xs[i].2)[j]?=some u->w.cell? ⟨g,i*7+j,none⟩=some u:=fun j u hj hu=>by
   have:=hc (i*7+j) u (by rw[yQ t xs i hi j hj];exact hu);rwa [Addr.add_lit,Nat.zero_add]at this
  exact⟨key 0 _ (by omega) rfl,key 1 _ (by omega) rfl,key 2 _ (by omega) rfl,key 3 _ (by omega) rfl,key 4 _ (by omega) rfl,key 5 _ (by omega) rfl,key 6 _ (by omega) rfl⟩
def rJ (t:ByteArray)(d:Nat):Prop:=
 ∀ (v:Value) (tr:af d) (n:Int) (X:Nat->Prop) (w:World),ai t w X d v tr->io t d tr->bv d tr<=400->1<=n->n<=64 ->
  Calls prog 25 #[v,.int .i64 n] w fun e w'=>e=.returned (.int .i64 (fI t d tr n))/\w'=w
theorem Dt {n m:Int}(h1:1<=n)(h2:n<=64)(h3:1<=m)(h4:m<=9):1<=n*m/\n*m<=576:=by
 have h:m=1\/m=2\/m=3\/m=4\/m=5\/m=6\/m=7\/m=8\/m=9:=by omega
 rcases h with rfl|rfl|rfl|rfl|rfl|rfl|rfl|rfl|rfl <;> omega
theorem ph {α:Type}(f:α->Nat):∀ (l:List α) (x:α),x∈l->f x<=(l.map f).sum:=by
 intro l;induction l with
 | nil=>intro x h;simp at h
 | cons y r ih=>
  intro x h;simp only[List.mem_cons]at h;rcases h with rfl|h
  .simp
  .have:=ih x h;simp;omega
theorem tP {α:Type}(f:α->Nat)(hf:∀ x,1<=f x):∀ (l:List α),l.length<=(l.map f).sum:=by
 intro l;induction l with
 | nil=>simp
 | cons y r ih=>have:=hf y;simp;omega
theorem Av (a:Option Addr)(cap:Nat)(n:Int)(w:World):
  Calls prog 25 #[.slice a 0 cap,.int .i64 n] w fun e w'=>e=.returned (.int .i64 (-1))/\w'=w:=by
 go_enter func25,ntmps25
 go_wp2_with fail
 go_loop [5] (fun i=>i=.int .i64 0) (fun _=>0)
 case atStart=>rfl
 case round=>
  subst hrel;go_wp2_with fail
  go_ret;exact⟨rfl,rfl⟩
theorem BX (t:ByteArray)(d:Nat)(ih:rJ t d):rJ t (d+1):=by
 intro v tr n X w htr hok hsz hn1 hn2;obtain⟨xs,a,B4,g,hl,hv,ha,A2,A3⟩:=htr.open;subst hv;have B3:xs.length<=400:=by
  have:=tP (fun x:Hd×af d×af d=>1+bv d x.2.1+bv d x.2.2) (fun x=>by omega) tr.list;have e:tr.list.length=xs.length:=by rw[hl];exact List.length_map ..
  have e2:bv (d+1) tr=(tr.list.map fun x:Hd×af d×af d=>1+bv d x.2.1+bv d x.2.2).sum:=rfl;omega
 have B2:Hid (∀ (i:Nat) (hi:i<xs.length),io t d xs[i].1.2.1/\io t d xs[i].1.2.2/\(ao t xs[i].1.1.p=ch->1<=xs[i].1.1.n/\xs[i].1.1.n<=9)/\bv d xs[i].1.2.1<=400/\bv d xs[i].1.2.2<=400):=by
  intro i hi;have hm:xs[i].1∈tr.list:=by rw[hl];exact List.mem_map.2 ⟨xs[i],Qb hi,rfl⟩
  have h1:=hok _ hm;have h2:=ph (fun x:Hd×af d×af d=>1+bv d x.2.1+bv d x.2.2) tr.list _ hm;have e2:bv (d+1) tr=(tr.list.map fun x:Hd×af d×af d=>1+bv d x.2.1+bv d x.2.2).sum:=rfl;exact⟨h1.2.2.2.2.2.1,h1.2.2.2.2.2.2,h1.2.2.2.2.1,by omega,by omega⟩
 have HT:Hid (fI t (d+1) tr n=kj t (fI t d) (xs.map Prod.fst) n):=by show _=_;rw[fI,hl]
 have HC:Hid (∀ (i:Nat) (hi:i<xs.length),w.cell? ⟨g,i*7,none⟩=some (.string (t.extract xs[i].1.1.p.1 xs[i].1.1.p.2))/\w.cell? ⟨g,i*7+1,none⟩=some (.int .i64 xs[i].1.1.key) /\
    w.cell? ⟨g,i*7+2,none⟩=some (.int .i64 xs[i].1.1.n)/\w.cell? ⟨g,i*7+3,none⟩=some (.int .i64 xs[i].1.1.m)/\w.cell? ⟨g,i*7+4,none⟩=some xs[i].2.1 /\
    w.cell? ⟨g,i*7+5,none⟩=some xs[i].2.2/\w.cell? ⟨g,i*7+6,none⟩=some (.int .i64 xs[i].1.1.p.1)):=A2
 have HS:=ah A3;have HA:=ah ha;clear hl hok hsz A2 A3 ha htr;go_enter func25,ntmps25
 go_wp2_with fail
 go_loop [5] (fun i=>∃ k:Nat,k<=xs.length/\i=.int .i64 k/\kj t (fI t d) ((xs.drop k).map Prod.fst) n=kj t (fI t d) (xs.map Prod.fst) n) (fun i=>xs.length - (intOf i).toNat)
 case atStart=>exact⟨0,Qa _,rfl,rfl⟩
 case round=>
  obtain⟨k,hk,rfl,A0⟩:=hrel;by_cases hlt:k<xs.length
  .have ha:=HA (by omega);obtain⟨c0,_,c2,_,c4,c5,c6⟩:=HC k hlt;obtain⟨ta,tb⟩:=HS.out k hlt;obtain⟨oa,ob,A6,za,zb⟩:=B2 k hlt;rw[lu xs k hlt,List.map_cons,kj]at A0;obtain⟨va,B0⟩:∃ u,u=xs[k].2.1:=⟨_,rfl⟩;obtain⟨vb,B1⟩:∃ u,u=xs[k].2.2:=⟨_,rfl⟩;obtain⟨s,hs⟩:∃ s,s=t.extract xs[k].1.1.p.1 xs[k].1.1.p.2:=⟨_,rfl⟩;obtain⟨N,hN⟩:∃ N,N=xs[k].1.1.n:=⟨_,rfl⟩;have A9:ao t xs[k].1.1.p=s.data.toList:=by rw[hs];rfl
   rw[<- B0]at c4 ta;rw[<- B1]at c5 tb;rw[<- hs]at c0;rw[<- hN]at c2 A6 A0;rw[A9]at A6 A0;clear B0 B1 hs hN A9;subst ha;have A5:Hid (ai t w X d va xs[k].1.2.1):=ta;have A8:Hid (ai t w X d vb xs[k].1.2.2):=tb;have A4:Hid (io t d xs[k].1.2.1):=oa;have A7:Hid (io t d xs[k].1.2.2):=ob;clear ta tb oa ob;by_cases hrp:s.data.toList=ch
   .rw[if_pos hrp]at A0;obtain⟨o1,o2⟩:=A6 hrp;have hb:=Dt hn1 hn2 o1 o2;have e0:(s.toList==[114,101,112,101,97,116])=true:=du hrp;clear A6 hrp;by_cases h64:64<n*N
    .rw[if_pos h64]at A0;have HR:=ah A0;clear A0;go_wp2_with fail
     go_ret;exact⟨dO (by rw[HT,<- HR]),rfl⟩
    .rw[if_neg h64]at A0;have A1:n*N<=64:=by omega
     obtain⟨P,hP⟩:∃ P,P=fI t d xs[k].1.2.1 (n*N):=⟨_,rfl⟩;obtain⟨R,hR⟩:∃ R,R=fI t d xs[k].1.2.2 (n*N):=⟨_,rfl⟩;rw[<- hP,<- hR]at A0;have HP:=ah hP;have HQ:=ah hR;clear hP hR;by_cases hp:0<=P
     .rw[if_pos hp]at A0;have HR:=ah A0;clear A0;go_wp2_with fail
      refine(ih va _ _ X _ A5 A4 za (by omega) A1).mono ?_;rw[<- HP];rintro e w' ⟨rfl,rfl⟩;go_wp2_with fail
      go_ret;exact⟨dO (by rw[HT,<- HR]),rfl⟩
     .rw[if_neg hp]at A0;by_cases hq:0<=R
      .rw[if_pos hq]at A0;have HR:=ah A0;clear A0;go_wp2_with fail
       refine(ih va _ _ X _ A5 A4 za (by omega) A1).mono ?_;rw[<- HP];rintro e w' ⟨rfl,rfl⟩;go_wp2_with fail
       refine(ih vb _ _ X _ A8 A7 zb (by omega) A1).mono ?_;rw[<- HQ];rintro e w' ⟨rfl,rfl⟩;go_wp2_with fail
       go_ret;exact⟨dO (by rw[HT,<- HR]),rfl⟩
      .rw[if_neg hq]at A0;have HR:=ah A0;clear A0;go_wp2_with fail
       refine(ih va _ _ X _ A5 A4 za (by omega) A1).mono ?_;rw[<- HP];rintro e w' ⟨rfl,rfl⟩;go_wp2_with fail
       refine(ih vb _ _ X _ A8 A7 zb (by omega) A1).mono ?_;rw[<- HQ];rintro e w' ⟨rfl,rfl⟩;go_wp2_with fail
       go_round;case rel=>exact⟨k+1,by omega,by go_num,HR.out⟩
       case measure=>simp[intOf];omega
   .rw[if_neg hrp]at A0;have e0:(s.toList==[114,101,112,101,97,116])=false:=bg hrp;clear A6 hrp;obtain⟨P,hP⟩:∃ P,P=fI t d xs[k].1.2.1 (n):=⟨_,rfl⟩;obtain⟨R,hR⟩:∃ R,R=fI t d xs[k].1.2.2 (n):=⟨_,rfl⟩;rw[<- hP,<- hR]at A0;have HP:=ah hP;have HQ:=ah hR;clear hP hR;by_cases hp:0<=P
    .rw[if_pos hp]at A0;have HR:=ah A0;clear A0;go_wp2_with fail
     refine(ih va _ _ X _ A5 A4 za hn1 hn2).mono ?_;rw[<- HP];rintro e w' ⟨rfl,rfl⟩;go_wp2_with fail
     go_ret;exact⟨dO (by rw[HT,<- HR]),rfl⟩
    .rw[if_neg hp]at A0;by_cases hq:0<=R
     .rw[if_pos hq]at A0;have HR:=ah A0;clear A0;go_wp2_with fail
      refine(ih va _ _ X _ A5 A4 za hn1 hn2).mono ?_;rw[<- HP];rintro e w' ⟨rfl,rfl⟩;go_wp2_with fail
      refine(ih vb _ _ X _ A8 A7 zb hn1 hn2).mono ?_;rw[<- HQ];rintro e w' ⟨rfl,rfl⟩;go_wp2_with fail
      go_ret;exact⟨dO (by rw[HT,<- HR]),rfl⟩
     .rw[if_neg hq]at A0;have HR:=ah A0;clear A0;go_wp2_with fail
      refine(ih va _ _ X _ A5 A4 za hn1 hn2).mono ?_;rw[<- HP];rintro e w' ⟨rfl,rfl⟩;go_wp2_with fail
      refine(ih vb _ _ X _ A8 A7 zb hn1 hn2).mono ?_;rw[<- HQ];rintro e w' ⟨rfl,rfl⟩;go_wp2_with fail
      go_round;case rel=>exact⟨k+1,by omega,by go_num,HR.out⟩
      case measure=>simp[intOf];omega
  .rw[List.drop_of_length_le (by omega)]at A0;have HR:=ah A0;clear A0;go_wp2_with fail
   go_ret;exact⟨dO (by rw[HT,<- HR];rfl),rfl⟩
theorem Do (t:ByteArray)(d:Nat):rJ t d:=by
 induction d with
 | zero=>
  intro v tr n X w htr _ _ _ _;obtain⟨a,A0,rfl⟩:=htr;exact Av a A0 n w
 | succ d ih=>exact BX t d ih
theorem uS {t:ByteArray}{w:World}{d:Nat}{v:Value}{l:af d}{X:Nat->Prop}(o:Obj)(h:ai t w X d v l)(hX:∀ k,X k->k<w.heap.size):ai t (w.alloc o) X d v l:=
 ai.keep (fun k hk=>q9 _ _ _ (hX k hk)) d v l h
theorem rr (a b:Int)(w:World)(ha:a<=4000000000000000000)(hb:b<=4000000000000000000):
  Calls prog 57 #[.int .i64 a,.int .i64 b] w fun e w'=>e=.returned (.int .i64 (bV a b))/\w'=w:=by
 by_cases h:a<0
 .go_enter func57,ntmps57
  go_wp2
  go_ret;exact⟨dO (by rw[bV,if_pos (by omega)]),rfl⟩
 .by_cases h2:b<0
  .go_enter func57,ntmps57
   go_wp2
   go_ret;exact⟨dO (by rw[bV,if_pos (by omega)]),rfl⟩
  .go_enter func57,ntmps57
   go_wp2
   go_ret;exact⟨dO (by rw[bV,if_neg (by omega)]),rfl⟩
def vW (t:ByteArray)(d:Nat):Prop:=
 ∀ (v:Value) (tr:af d) (X:Nat->Prop) (w:World),ai t w X d v tr->io t d tr->bv d tr<=400->d<=5 ->
  Calls prog 26 #[v] w fun e w'=>e=.returned (.tuple #[.int .i64 (bE t d tr).1,.int .i64 (bE t d tr).2])/\Below w.heap.size w w'
def xA (t:ByteArray)(d:Nat):Prop:=
 ∀ (h:Hd) (va vb:Value) (A B:af d) (X:Nat->Prop) (w:World),ai t w X d va A->ai t w X d vb B->(∀ k,X k->k<w.heap.size)->io t d A->io t d B->bv d A<=400->bv d B<=400 ->
  0<=h.n->h.n<=999->0<=h.m->h.m<=6->(ao t h.p=ch->1<=h.n/\h.n<=9) ->
  Calls prog 56 #[.agg #[.string (t.extract h.p.1 h.p.2),.int .i64 h.key,.int .i64 h.n,.int .i64 h.m,va,vb,.int .i64 h.p.1]] w fun e w'=>
   e=.returned (.tuple #[.int .i64 (eD t h (bE t d A) (bE t d B)).1,.int .i64 (eD t h (bE t d A) (bE t d B)).2])/\Below w.heap.size w w'
theorem CH (t:ByteArray)(d:Nat)(hd:d<=5)(ih:vW t d):xA t d:=by
 intro h va vb A B X w ta tb hX oa ob za zb hn0 hn9 hm0 hm6 hrep;obtain⟨s,hs⟩:∃ s,s=t.extract h.p.1 h.p.2:=⟨_,rfl⟩;have B0:ao t h.p=s.data.toList:=by rw[hs];rfl
 rw[<- hs];rw[B0]at hrep;have ba:=lY (kT t d A oa) za hd;have bb:=lY (kT t d B ob) zb hd;obtain⟨a,hA⟩:∃ a,a=bE t d A:=⟨_,rfl⟩;obtain⟨b,hB⟩:∃ b,b=bE t d B:=⟨_,rfl⟩;have HO:Hid (eD t h (bE t d A) (bE t d B)=if s.data.toList=eJ then (h.n,-1) else if s.data.toList=eX then (-1,0) else if s.data.toList=eA then (0,-1)
   else if s.data.toList=ch then gR h.n.toNat (0,-1) a
   else (cu (bV (fO h.n (h.m - 1).toNat - 1) a.1) (bV (fO h.n (h.m - 1).toNat) b.1),cu (bV (fO h.n (h.m - 1).toNat - 1) a.2) (bV (fO h.n (h.m - 1).toNat) b.2))):=by
  show _=_;rw[eD,B0,hA,hB]
 obtain⟨N,hN⟩:∃ N,N=h.n:=⟨_,rfl⟩;obtain⟨M,hM⟩:∃ M,M=h.m:=⟨_,rfl⟩;rw[<- hN]at hn0 hn9 hrep HO;rw[<- hM]at hm0 hm6 HO;rw[<- hN,<- hM];rw[<- hA]at ba;rw[<- hB]at bb;obtain⟨B7,B8,B9,C0⟩:=ba;obtain⟨C6,C7,C8,C9⟩:=bb;have HA:=ah hA;have HB:=ah hB;have B2:Hid (ai t w X d va A):=ta;have B6:Hid (ai t w X d vb B):=tb;have A9:=ah hX;have B1:Hid (io t d A):=oa;have B5:Hid (io t d B):=ob;obtain⟨aa,na,ca,C4⟩:=ta.one;obtain⟨ab,nb,cb,C5⟩:=tb.one;clear hA hB B0 hs hN hM ta tb hX oa ob;subst C4;subst C5;by_cases k1:s.data.toList=eJ
 .have HR:Hid (_=_):=HO.trans (if_pos k1);have e1:(s.toList==[119,97,105,116])=true:=du k1;clear k1 hrep;go_enter func56,ntmps56
  go_wp2_with fail
  go_ret2;exact⟨kf (by rw[HR]) (by rw[HR]),(v7 _ _).alloc (v9 _) _⟩
 have A5:Hid (_=_):=HO.trans (if_neg k1);have e1:(s.toList==[119,97,105,116])=false:=bg k1;by_cases k2:s.data.toList=eX
 .have HR:Hid (_=_):=A5.trans (if_pos k2);have e2:(s.toList==[115,116,111,112])=true:=du k2;clear k1 k2 hrep;go_enter func56,ntmps56
  go_wp2_with fail
  go_ret2;exact⟨kf (by rw[HR]) (by rw[HR]),(v7 _ _).alloc (v9 _) _⟩
 have A6:Hid (_=_):=A5.trans (if_neg k2);have e2:(s.toList==[115,116,111,112])=false:=bg k2;by_cases k3:s.data.toList=eA
 .have HR:Hid (_=_):=A6.trans (if_pos k3);have e3:(s.toList==[115,101,110,100])=true:=du k3;clear k1 k2 k3 hrep;go_enter func56,ntmps56
  go_wp2_with fail
  go_ret2;exact⟨kf (by rw[HR]) (by rw[HR]),(v7 _ _).alloc (v9 _) _⟩
 have A7:Hid (_=_):=A6.trans (if_neg k3);have e3:(s.toList==[115,101,110,100])=false:=bg k3;by_cases k4:s.data.toList=ch
 .have HR:Hid (_=_):=A7.trans (if_pos k4);have e4:(s.toList==[114,101,112,101,97,116])=true:=du k4;obtain⟨r1,r2⟩:=hrep k4;clear k1 k2 k3 k4 hrep HO A5 A6 A7;go_enter func56,ntmps56
  go_wp2_with fail
  refine(ih _ A X _ ?_ B1 za hd).mono ?_
  .exact uS _ B2 A9
  rw[<- HA];rintro e w1 ⟨rfl,A0⟩;have A3:(w.alloc (.cells #[.string s,.int .i64 h.key,.int .i64 N,.int .i64 M,.slice aa na ca,.slice ab nb cb,.int .i64 h.p.1] 133)).heap.size=w.heap.size+1:=by simp
  rw[A3]at A0;have A1:w1.heap[w.heap.size]?=some (.cells #[.string s,.int .i64 h.key,.int .i64 N,.int .i64 M,.slice aa na ca,.slice ab nb cb,.int .i64 h.p.1] 133):=(A0.block _ (by omega)).trans (v8 _ _);have C1:w1.cell? ⟨w.heap.size,0,none⟩=some (.string s):=(ag A1).trans rfl;have C2:w1.cell? ⟨w.heap.size,2,none⟩=some (.int .i64 N):=(ag A1).trans rfl;have A4:Hid (Below w.heap.size w w1):=((v7 _ _).alloc (v9 _) _).trans (A0.mono (by omega));clear A1 A0 A3;go_wp2_with fail
  go_loop [6,7,8] (fun x y i=>∃ (j:Nat) (p q:Int),j<=N.toNat/\i=.int .i64 j/\x=.int .i64 p/\y=.int .i64 q/\-1<=p/\p<=j*10000000000000/\-1<=q/\q<=j*10000000000000/\gR (N.toNat - j) (p,q) a=gR N.toNat (0,-1) a) (fun _ _ i=>N.toNat - (intOf i).toNat)
  case atStart=>exact⟨0,0,-1,by omega,rfl,rfl,rfl,by omega,by omega,by omega,by omega,rfl⟩
  case round=>
   obtain⟨j,p,q,hj,rfl,rfl,rfl,p1,p2,q1,q2,hr⟩:=hrel;by_cases hlt:j<N.toNat
   .have A2:(j:Int)<N:=by omega
    rw[show N.toNat - j=(N.toNat - (j+1))+1 from by omega,gR]at hr;have A8:=ah hr;clear hr;go_wp2_with (first|(go_at_call 57;refine(rr _ _ _ (by omega) (by omega)).mono ?_;rintro e w' ⟨rfl,rfl⟩)|(go_at_call 27;refine(pE _ _ _).mono ?_;rintro e w' ⟨rfl,rfl⟩))
    go_round;case rel=>
     have s1:=bn.step (acc:=(p,q)) (a:=a) (c:=j*10000000000000) (e:=10000000000000) ⟨p1,p2,q1,q2⟩ ⟨B7,B8,B9,C0⟩ (by omega) (by omega);exact⟨j+1,_,_,by omega,by go_num,rfl,rfl,s1.1,by have:=s1.2.1;simp only at this;omega,s1.2.2.1,by have:=s1.2.2.2;simp only at this;omega,A8.out⟩
    case measure=>simp[intOf];omega
   .have A2:¬ (j:Int)<N:=by omega
    rw[show N.toNat - j=0 from by omega,gR]at hr;have A8:=ah hr;clear hr hlt;go_wp2_with fail
    go_ret2;exact⟨kf (by rw[HR,<- A8]) (by rw[HR,<- A8]),A4⟩
 .have HR:Hid (_=_):=A7.trans (if_neg k4);have e4:(s.toList==[114,101,112,101,97,116])=false:=bg k4;clear k1 k2 k3 k4 hrep HO A5 A6 A7;have ht:=pI N hn0 hn9 (M - 1).toNat (by omega);go_enter func56,ntmps56
  go_wp2_with fail
  refine(ih _ A X _ ?_ B1 za hd).mono ?_
  .exact uS _ B2 A9
  rw[<- HA];rintro e w1 ⟨rfl,A0⟩;have A3:(w.alloc (.cells #[.string s,.int .i64 h.key,.int .i64 N,.int .i64 M,.slice aa na ca,.slice ab nb cb,.int .i64 h.p.1] 133)).heap.size=w.heap.size+1:=by simp
  rw[A3]at A0;have hs1:=A0.size;rw[A3]at hs1;have A1:w1.heap[w.heap.size]?=some (.cells #[.string s,.int .i64 h.key,.int .i64 N,.int .i64 M,.slice aa na ca,.slice ab nb cb,.int .i64 h.p.1] 133):=(A0.block _ (by omega)).trans (v8 _ _);have C1:w1.cell? ⟨w.heap.size,0,none⟩=some (.string s):=(ag A1).trans rfl;have C2:w1.cell? ⟨w.heap.size,2,none⟩=some (.int .i64 N):=(ag A1).trans rfl;have D0:w1.cell? ⟨w.heap.size,3,none⟩=some (.int .i64 M):=(ag A1).trans rfl;have D1:w1.cell? ⟨w.heap.size,5,none⟩=some (.slice ab nb cb):=(ag A1).trans rfl;have A4:Hid (Below w.heap.size w w1):=((v7 _ _).alloc (v9 _) _).trans (A0.mono (by omega));clear A1 A0 A3;go_wp2_with fail
  go_loop [9,10] (fun x i=>∃ (j:Nat),j<=(M - 1).toNat/\i=.int .i64 ((j:Int)+1)/\x=.int .i64 (fO N j)) (fun _ i=>10 - (intOf i).toNat)
  case atStart=>exact⟨0,by omega,rfl,rfl⟩
  case round=>
   obtain⟨j,hj,rfl,rfl⟩:=hrel;have C3:=pI N hn0 hn9 j (by omega);by_cases hlt:j<(M - 1).toNat
   .have A2:(j:Int)+1<M:=by omega
    go_wp2_with fail
    go_round;case rel=>exact⟨j+1,by omega,by go_num,by rw[fO]⟩
    case measure=>simp[intOf];omega
   .have A2:¬ (j:Int)+1<M:=by omega
    obtain rfl:j=(M - 1).toNat:=by omega
    obtain⟨T,hT⟩:∃ T,T=fO N (M - 1).toNat:=⟨_,rfl⟩;rw[<- hT]at C3 ht HR;rw[<- hT];clear hT hlt hj;go_wp2_with fail
    refine(ih _ B X _ ?_ B5 zb hd).mono ?_
    .exact ai.keep (fun k hk=>A4.block k (A9 k hk)) d _ _ B6
    rw[<- HB];rintro e w2 ⟨rfl,B3⟩;have B4:Hid (Below w.heap.size w w2):=A4.trans (B3.mono (by omega));clear B3;go_wp2_with (first|(go_at_call 57;refine(rr _ _ _ (by omega) (by omega)).mono ?_;rintro e w' ⟨rfl,rfl⟩)|(go_at_call 27;refine(pE _ _ _).mono ?_;rintro e w' ⟨rfl,rfl⟩))
    go_ret2;exact⟨kf (by rw[HR]) (by rw[HR]),B4⟩
theorem BG {t:ByteArray}{w:World}{X:Nat->Prop}:∀ (d:Nat) (v:Value) (l:af d),ai t w X d v l->ai t w (fun k=>X k/\k<w.heap.size) d v l:=by
 intro d;induction d with
 | zero=>intro v l hl;exact hl
 | succ d ih=>
  intro v l hl;obtain⟨xs,h1,h2,h3,h4,h5⟩:=hl;exact⟨xs,h1,h2,fun k hk=>⟨h3 k hk,by obtain⟨c,hc⟩:=ax h2 hk;exact ak hc⟩,fun x hx=>⟨ih _ _ (h4 x hx).1,ih _ _ (h4 x hx).2⟩,h5⟩
theorem zM (a:Option Addr)(cap:Nat)(w:World):
  Calls prog 26 #[.slice a 0 cap] w fun e w'=>e=.returned (.tuple #[.int .i64 0,.int .i64 (-1)])/\w'=w:=by
 go_enter func26,ntmps26
 go_wp2_with fail
 go_loop [4,5,6] (fun x y i=>x=.int .i64 0/\y=.int .i64 (-1)/\i=.int .i64 0) (fun _ _ _=>0)
 case atStart=>exact⟨rfl,rfl,rfl⟩
 case round=>
  obtain⟨rfl,rfl,rfl⟩:=hrel;go_wp2_with fail
  go_ret2;exact⟨rfl,rfl⟩
theorem AW (t:ByteArray)(d:Nat)(hd1:d+1<=5)(ih:xA t d)(v:Value)(tr:af (d+1))(X0:Nat->Prop)(w:World)(htr0:ai t w X0 (d+1) v tr)(hok:io t (d+1) tr)(hsz:bv (d+1) tr<=400):
  Calls prog 26 #[v] w fun e w'=>e=.returned (.tuple #[.int .i64 (bE t (d+1) tr).1,.int .i64 (bE t (d+1) tr).2])/\Below w.heap.size w w':=by
 have A5:=BG (d+1) v tr htr0;obtain⟨X,A4⟩:∃ X:Nat->Prop,X=fun k=>X0 k/\k<w.heap.size:=⟨_,rfl⟩;rw[<- A4]at A5;have HX:Hid (∀ k,X k->k<w.heap.size):=by rw[A4];exact fun k hk=>hk.2
 obtain⟨xs,a,C6,g,hl,hv,ha,A1,A2⟩:=A5.open;subst hv;have e2:bv (d+1) tr=(tr.list.map fun x:Hd×af d×af d=>1+bv d x.2.1+bv d x.2.2).sum:=rfl;have e3:tr.list=xs.map Prod.fst:=hl;have B6:xs.length<=400:=by
  have:=tP (fun x:Hd×af d×af d=>1+bv d x.2.1+bv d x.2.2) (fun x=>by omega) tr.list;have e:tr.list.length=xs.length:=by rw[e3];exact List.length_map ..
  omega
 have A7:Hid (∀ (i:Nat) (hi:i<xs.length),io t d xs[i].1.2.1/\io t d xs[i].1.2.2/\(ao t xs[i].1.1.p=ch->1<=xs[i].1.1.n/\xs[i].1.1.n<=9)/\bv d xs[i].1.2.1<=400/\bv d xs[i].1.2.2<=400 /\
   0<=xs[i].1.1.n/\xs[i].1.1.n<=999/\0<=xs[i].1.1.m/\xs[i].1.1.m<=6):=by
  intro i hi;have hm:xs[i].1∈tr.list:=by rw[hl];exact List.mem_map.2 ⟨xs[i],Qb hi,rfl⟩
  have h1:=hok _ hm;have h2:=ph (fun x:Hd×af d×af d=>1+bv d x.2.1+bv d x.2.2) tr.list _ hm;exact⟨h1.2.2.2.2.2.1,h1.2.2.2.2.2.2,h1.2.2.2.2.1,by omega,by omega,h1.1,h1.2.1,h1.2.2.1,h1.2.2.2.1⟩
 obtain⟨F,A3⟩:∃ F:(Hd×af d×af d)×(Value×Value)->Int×Int,F=fun x=>eD t x.1.1 (bE t d x.1.2.1) (bE t d x.1.2.2):=⟨_,rfl⟩;have HT:Hid (bE t (d+1) tr=fJ (0,-1) (xs.map F)):=by
  show _=_;rw[bE,hl,A3];show fJ (0,-1) ((xs.map Prod.fst).map _)=_;rw[List.map_map];rfl
 have B3:Hid (∀ k,bn (fJ (0,-1) ((xs.take k).map F)) 10000000000000):=by
  intro k;have hp:=lH d;have:=rp (kQ (d+1)) (by have:=lH (d+1);omega) F (fun x=>1+bv d x.1.2.1+bv d x.1.2.2) (xs.take k) (0,-1) 0
   (fun x hx=>by
    have B7:=List.mem_of_mem_take hx;have h:=hok x.1 (by rw[hl];exact List.mem_map.2 ⟨x,B7,rfl⟩);rw[nC,A3];exact ow t x.1.1 _ _ _ _ _ hp (kT t d _ h.2.2.2.2.2.1) (kT t d _ h.2.2.2.2.2.2) h.1 h.2.1 h.2.2.2.1 h.2.2.2.2.1) ⟨by simp,by simp,by simp,by simp⟩ (by omega)
  rw[Int.zero_add]at this;refine lY this ?_ hd1;have h1:=uD (fun x:(Hd×af d×af d)×(Value×Value)=>1+bv d x.1.2.1+bv d x.1.2.2) xs k;have h2:(xs.map fun x:(Hd×af d×af d)×(Value×Value)=>1+bv d x.1.2.1+bv d x.1.2.2).sum=bv (d+1) tr:=by
   rw[e2,e3,List.map_map];rfl
  omega
 have B4:Hid (∀ (k:Nat) (hk:k<xs.length),bn (F xs[k]) 10000000000000):=by
  intro k hk;obtain⟨h1,h2,h3,h4,h5,h6,h7,h8,h9⟩:=A7 k hk;have hm:xs[k].1∈tr.list:=by rw[hl];exact List.mem_map.2 ⟨xs[k],Qb hk,rfl⟩
  have C7:=ph (fun x:Hd×af d×af d=>1+bv d x.2.1+bv d x.2.2) tr.list _ hm;have:=ow t xs[k].1.1 _ _ _ _ _ (lH d) (kT t d _ h1) (kT t d _ h2) h6 h7 h9 h3;rw[<- nC]at this;rw[A3];exact lY this (by omega) hd1
 have B5:Hid (∀ (k:Nat) (hk:k<xs.length),F xs[k]=eD t xs[k].1.1 (bE t d xs[k].1.2.1) (bE t d xs[k].1.2.2)):=by intro k hk;rw[A3]
 have HC:Hid (∀ (i:Nat) (hi:i<xs.length),w.cell? ⟨g,i*7,none⟩=some (.string (t.extract xs[i].1.1.p.1 xs[i].1.1.p.2))/\w.cell? ⟨g,i*7+1,none⟩=some (.int .i64 xs[i].1.1.key) /\
    w.cell? ⟨g,i*7+2,none⟩=some (.int .i64 xs[i].1.1.n)/\w.cell? ⟨g,i*7+3,none⟩=some (.int .i64 xs[i].1.1.m)/\w.cell? ⟨g,i*7+4,none⟩=some xs[i].2.1 /\
    w.cell? ⟨g,i*7+5,none⟩=some xs[i].2.2/\w.cell? ⟨g,i*7+6,none⟩=some (.int .i64 xs[i].1.1.p.1)):=A1
 have HS:=ah A2;have HA:=ah ha;clear hl hok hsz A1 A2 ha A5 htr0 A4 A3 e2 e3;go_enter func26,ntmps26
 go_wp2_with fail
 go_loopw [4,5,6] (fun x y i wr=>∃ k:Nat,k<=xs.length/\i=.int .i64 k/\x=.int .i64 (fJ (0,-1) ((xs.take k).map F)).1/\y=.int .i64 (fJ (0,-1) ((xs.take k).map F)).2/\Below w.heap.size w wr) (fun _ _ i _=>xs.length - (intOf i).toNat)
 case atStart=>exact⟨0,Qa _,rfl,rfl,rfl,v7 _ _⟩
 case round=>
  obtain⟨k,hk,rfl,rfl,rfl,A0⟩:=hrel;by_cases hlt:k<xs.length
  .have ha:=HA (by omega);obtain⟨c0,c1,c2,c3,c4,c5,c6⟩:=HC k hlt;have hg:g<w.heap.size:=World.block_lt_of_cell? w _ c0;obtain⟨ta,tb⟩:=HS.out k hlt;obtain⟨o1,o2,o3,o4,o5,o6,o7,o8,o9⟩:=A7 k hlt;obtain⟨aa,na,ca,B0⟩:=ta.one;obtain⟨ab,nb,cb,B1⟩:=tb.one;rw[B0]at c4 ta;rw[B1]at c5 tb;have keep:∀ (j:Nat) (u:Value),w.cell? ⟨g,j,none⟩=some u->wr.cell? ⟨g,j,none⟩=some u:=fun j u hj=>(A0.cell (p:=⟨g,j,none⟩) hg).trans hj;obtain⟨h,hh⟩:∃ h,h=xs[k].1.1:=⟨_,rfl⟩;rw[<- hh]at c0 c1 c2 c3 c6 o3 o6 o7 o8 o9;obtain⟨s,hs⟩:∃ s,s=t.extract h.p.1 h.p.2:=⟨_,rfl⟩;rw[<- hs]at c0;have d0:=keep _ _ c0;have d1:=keep _ _ c1;have d2:=keep _ _ c2;have d3:=keep _ _ c3;have d4:=keep _ _ c4;have d5:=keep _ _ c5;have d6:=keep _ _ c6;have HH:Hid (h=xs[k].1.1/\s=t.extract h.p.1 h.p.2):=And.intro hh hs;have HO:=@ih h (.slice aa na ca) (.slice ab nb cb) xs[k].1.2.1 xs[k].1.2.2 X wr;have A6:Hid (Calls prog 56 #[.agg #[.string s,.int .i64 h.key,.int .i64 h.n,.int .i64 h.m,.slice aa na ca,.slice ab nb cb,.int .i64 h.p.1]] wr fun e w'=>
     e=.returned (.tuple #[.int .i64 (F xs[k]).1,.int .i64 (F xs[k]).2])/\Below wr.heap.size wr w'):=by
    have:=HO (ai.keep (fun j hj=>A0.block j (HX j hj)) d _ _ ta) (ai.keep (fun j hj=>A0.block j (HX j hj)) d _ _ tb) (fun j hj=>by have:=HX j hj;have:=A0.size;omega) o1 o2 o4 o5 o6 o7 o8 o9 o3;rw[B5 k hlt,<- hh,hs];exact this
   have b1:=B4 k hlt;have b2:=B3 k;obtain⟨P,hP⟩:∃ P,P=fJ (0,-1) ((xs.take k).map F):=⟨_,rfl⟩;obtain⟨Q,hQ⟩:∃ Q,Q=F xs[k]:=⟨_,rfl⟩;have A8:Hid (fJ (0,-1) ((xs.take (k+1)).map F)=(bV P.1 Q.1,cu P.2 (bV P.1 Q.2))):=by
    show _=_;rw[Qd hlt,List.map_append,List.map_singleton,vf,hP,hQ]
   rw[<- hP]at b2;rw[<- hP];rw[<- hQ]at b1 A6;obtain⟨B8,B9,C0,C1⟩:=b1;obtain⟨C2,C3,C4,C5⟩:=b2;have HB:=ah A0;have hsz:=A0.size;clear HO keep c0 c1 c2 c3 c4 c5 c6 hh hs ta tb B0 B1 hP hQ o1 o2 o3 o4 o5 o6 o7 o8 o9 A0;subst ha;go_wp2_with fail
   refine(A6).mono ?_;rintro e w1 ⟨rfl,A9⟩;have B2:Hid (Below w.heap.size w w1):=HB.trans (A9.mono hsz);clear A9;go_wp2_with (first|(go_at_call 57;refine(rr _ _ _ (by omega) (by omega)).mono ?_;rintro e w' ⟨rfl,rfl⟩)|(go_at_call 27;refine(pE _ _ _).mono ?_;rintro e w' ⟨rfl,rfl⟩))
   go_roundw;case rel=>exact⟨k+1,by omega,by go_num,by rw[A8.out],by rw[A8.out],B2.out⟩
   case measure=>simp[intOf];omega
  .have hE:xs.take k=xs:=Qe (by omega);rw[hE];clear hE;go_wp2_with fail
   go_ret2;exact⟨kf (by rw[HT]) (by rw[HT]),A0⟩
theorem BM (t:ByteArray)(d:Nat):vW t d:=by
 induction d with
 | zero=>
  intro v tr X w htr _ _ _;obtain⟨a,A0,rfl⟩:=htr;refine(zM a A0 w).mono fun e w' h=>⟨h.1,?_⟩;rw[h.2];exact v7 _ _
 | succ d ih=>
  intro v tr X w htr hok hsz hd;exact AW t d hd (CH t d (by omega) ih) v tr X w htr hok hsz
end Go.Proofs.YtmmmnghiegajmaaGreat
