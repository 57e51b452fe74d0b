import Derived.Test.YtmmmnghiegajmaaGreatM06
import Derived.Test.YtmmmnghiegajmaaGreatM04
set_option maxHeartbeats 2000000
namespace Go.Proofs.YtmmmnghiegajmaaGreat
open Go.RowKit Go.Proofs.Herald
theorem FormAt.popWant {t:ByteArray}{w:World}{F:Nat}{S:Nat->Prop}{ev nv sv:Value}{st:FSt}{g cap:Nat}{m:Int}{r:List Int}(hf:FormAt t w F S (.slice (some ⟨g,0,none⟩) (r.length+1) cap) ev nv sv st)(he:st.want=m::r):
  FormAt t (w.setCell ⟨F,0,none⟩ (.slice (some ⟨g,0,none⟩) r.length cap)) F S (.slice (some ⟨g,0,none⟩) r.length cap) ev nv sv {st with want:=r}:=by
 have other:∀ k,k≠F->(w.setCell ⟨F,0,none⟩ (.slice (some ⟨g,0,none⟩) r.length cap)).heap[k]?=w.heap[k]?:=fun k hk=>Below.heap_setCell _ _ _ _ hk
 have own:∀ {e:TypeId} {sz:Nat} {v:Value} {n:Nat} {xs:List Value},e≠126->w.ownsRow 0 e sz v n xs->(w.setCell ⟨F,0,none⟩ (.slice (some ⟨g,0,none⟩) r.length cap)).ownsRow 0 e sz v n xs:=fun he ho=>
  zaj ho (fun k hk=>by obtain ⟨c,hc⟩:=zad ho hk;exact other k (zac hc hf.blk he))
 have hel:=own (by decide) hf.want
 refine ⟨by rw [zah _ hf.blk];rfl,hf.inF,?_,own (by decide) hf.elses,own (by decide) hf.nums,own (by decide) hf.sorts,hf.wS,hf.eS,hf.nS,hf.sS,hf.apart⟩
 refine ⟨by simp [zbP],.inr ?_⟩
 rcases hel.2 with ⟨h1,_⟩|⟨g',cap',cur,hv,hb,hg,hn,hm,hs,ht⟩
 .cases h1
 .simp at hv
  obtain ⟨rfl,h2,rfl⟩:=hv
  rw [he] at hn ht
  refine ⟨g,cap,cur,rfl,hb,hg,by show r.length<=_;simp at hn;omega,hm,hs,?_⟩
  simp only [Nat.mul_one] at ht ⊢
  have:cur.toList.take r.length=(cur.toList.take (m::r).length).take r.length:=by rw [List.take_take];congr 1;simp
  rw [this,ht]
  simp [zbP]
theorem FormAt.top {t:ByteArray}{w:World}{F:Nat}{S:Nat->Prop}{wv ev nv sv:Value}{st:FSt}{m:Int}{r:List Int}(hf:FormAt t w F S wv ev nv sv st)(he:st.want=m::r):
  ∃ g cap,wv=.slice (some ⟨g,0,none⟩) (r.length+1) cap/\w.cell? ⟨g,r.length,none⟩=some (.int .i64 m)/\r.length+1<=cap/\g<w.heap.size:=by
 obtain ⟨g,cap,hv,_,hlt⟩:=hf.want.form (by rw [he];simp)
 have hv':wv=.slice (some ⟨g,0,none⟩) (r.length+1) cap:=by rw [hv,he];rfl
 refine ⟨g,cap,hv',zdY hf.want hv (by rw [he];simp [zbP]),?_,hlt⟩
 rw [hv'] at hf
 exact (zdh hf.want).1
theorem zmq (t s:ByteArray)(F:Nat)(at0:Int)(S:Nat->Prop)(wv ev nv sv:Value)(st:FSt)(w:World)(hf:FormAt t w F S wv ev nv sv st)(hS:∀ k,w.heap.size<=k->S k)(hlen:st.elses.length<=1000)
  (m:Int) (r:List Int) (he:st.want=m::r) (hr:r.length<=10) (hm:m=0\/m=1):
  Calls Tryz.prog 51 #[.pointer (some ⟨F,0,none⟩),.agg #[.string s,.int .i64 at0]] w fun e w'=>e=.returned (.bool (zcp s.data.toList m st).2) /\
   ((zcp s.data.toList m st).2=true->∃ wv' ev',FormAt t w' F S wv' ev' nv sv (zcp s.data.toList m st).1)/\Fr S w w':=by
 obtain ⟨g,cap,rfl,hg,hcp,hgl⟩:=hf.top he
 have hc1:w.cell? ⟨F,0,none⟩=some (.slice (some ⟨g,0,none⟩) (r.length+1) cap):=(zaa hf.blk).trans rfl
 have hFl:=zae hf.blk
 clear he
 rcases hm with rfl|rfl
 all_goals
  go_enter Tryz.func51,Tryz.ntmps51
  go_wp2
  go_region
  go_wp2_with fail
  refine (zng t s F at0 _ S (.slice (some ⟨g,0,none⟩) (r.length+1) cap) ev nv sv st _ ?_ ?_ hlen).mono ?_
  .exact (hf.alloc _).drew
  .intro k hk;exact hS k (by simp at hk;omega)
  rintro e w1 ⟨rfl,h1,hF1⟩
  go_wp2
  go_ret
  exact ⟨rfl,h1,(((Fr.refl S w).alloc _).drew).trans hF1⟩
theorem zeh (t s:ByteArray)(F:Nat)(at0:Int)(S:Nat->Prop)(wv ev nv sv:Value)(st:FSt)(w:World)(hf:FormAt t w F S wv ev nv sv st)(hS:∀ k,w.heap.size<=k->S k)(hlen:st.elses.length<=1000)
  (r:List Int) (he:st.want=6::r) (hr:r.length<=10):
  Calls Tryz.prog 51 #[.pointer (some ⟨F,0,none⟩),.agg #[.string s,.int .i64 at0]] w fun e w'=>e=.returned (.bool (s.data.toList==zbV)) /\
   (∃ wv' ev',FormAt t w' F S wv' ev' nv sv {st with elses:=st.next::st.elses,want:=[0]})/\Fr S w w':=by
 obtain ⟨g,cap,rfl,hg,hcp,hgl⟩:=hf.top he
 have hc1:w.cell? ⟨F,0,none⟩=some (.slice (some ⟨g,0,none⟩) (r.length+1) cap):=(zaa hf.blk).trans rfl
 have hFl:=zae hf.blk
 have hc2:w.cell? ⟨F,1,none⟩=some ev:=(zaa hf.blk).trans rfl
 have hc3:w.cell? ⟨F,2,none⟩=some (.bool st.next):=(zaa hf.blk).trans rfl
 have HV:Hid (ev.ownBlock≠some F):=fun e=>by obtain ⟨cur,hc⟩:=zad hf.elses e;exact zac hc hf.blk (by decide) rfl
 have HF:Hid (FormAt t (w.alloc (.cells #[.string s,.int .i64 at0] 129)) F (fun k=>S k/\k≠w.heap.size) (.slice (some ⟨g,0,none⟩) (r.length+1) cap) ev nv sv st):=(hf.guard _ (Nat.le_refl _)).alloc _
 have hsz:(w.alloc (.cells #[.string s,.int .i64 at0] 129)).heap.size=w.heap.size+1:=by simp
 have HB:Hid ((w.alloc (.cells #[.string s,.int .i64 at0] 129)).heap[w.heap.size]?=some (.cells #[.string s,.int .i64 at0] 129 (0,0))):=heap_alloc_new _ _
 have hel:(w.alloc (.cells #[.string s,.int .i64 at0] 129)).ownsRow 0 4 1 ev st.elses.length (zdo st.elses.reverse):=hf.elses.alloc _
 have hbox:ev.ownBlock≠some w.heap.size:=fun e=>by obtain ⟨cur,hc⟩:=zad hf.elses e;have:=zae hc;omega
 have HE:Hid ((s.toList==[123])=(s.data.toList==zbV)):=by rw [ByteArray.toList_eq];rfl
 clear he hf
 go_enter Tryz.func51,Tryz.ntmps51
 go_wp2
 go_region
 go_wp2
 go_region_law (refine ze2 _ rfl (.tmp 32) (.tmp 37) 124 rfl 4 _ 1 1 Tryz.underlying124 Tryz.infoBool rfl (by decide) (by decide) ev _ _ (w.heap.size+1) [.bool st.next] (by rfl) (by exact hel.alloc _) (by exact zaw _ _ _) (by rfl) rfl (by simp [Value.oneCell']) (by omega) ?_;intro g1 cap1 w1 hown1 hgrow hat hlt;have hc1:w1.cell? ⟨F,1,none⟩=some ev:=(zaa (zal (OneMore.alloc _ _).drew.drew hgrow HF.out.blk HV.out)).trans rfl;have hf1:w1.frozen? ⟨F,1,none⟩=false:=zab (zal (OneMore.alloc _ _).drew.drew hgrow HF.out.blk HV.out))
 all_goals
  obtain ⟨p1,p2⟩:=HF.out.push_elses st.next rfl (OneMore.alloc _ _).drew.drew hown1 hgrow hat (fun k hk=>⟨hS k (by omega),by omega⟩)
  have hB1:=zal (OneMore.alloc _ _).drew.drew hgrow HB.out hbox
  have hs1:=zdI (OneMore.alloc _ _).drew.drew hgrow
  have hB2:(w1.setCell ⟨F,1,none⟩ (.slice (some ⟨g1,0,none⟩) (st.elses.length+1) cap1)).heap[w.heap.size]?=some (.cells #[.string s,.int .i64 at0] 129 (0,0)):=by
   rw [Below.heap_setCell _ _ _ _ (by have:=HF.out.inF.2;exact fun e=>this e.symm)];exact hB1
  have HP:Hid (_/\_/\_):=And.intro p1 (And.intro p2 hB2)
  clear p1 p2 hB1 hB2 hc1 hf1 hel
  go_wp2_with fail
  refine (zda t F w1.heap.size 1 1 (fun k=>S k/\k≠w.heap.size) (.slice (some ⟨g,0,none⟩) (r.length+1) cap) (.slice (some ⟨g1,0,none⟩) (st.elses.length+1) cap1) nv sv {st with elses:=st.next::st.elses} [0] _ ?_ ?_ ?_ rfl (by decide)).mono ?_
  .exact HP.out.1.alloc _
  .intro k hk;simp [World.setCell] at hk;exact ⟨hS k (by omega),by omega⟩
  .exact zaY _ _ _ (zaq _ _ _)
  rintro e w2 ⟨rfl,wv2,hf2,hF2⟩
  have hB3:w2.heap[w.heap.size]?=some (.cells #[.string s,.int .i64 at0] 129 (0,0)):=by
   rw [hF2.block w.heap.size (by simp [World.setCell];omega) (by simp)]
   rw [Below.heap_alloc _ _ _ (by simp [World.setCell];omega)]
   exact HP.out.2.2
  have hb3:w2.cell? ⟨w.heap.size,0,none⟩=some (.string s):=(zaa hB3).trans rfl
  have HP2:Hid (_/\_):=And.intro hf2 hF2
  clear hf2 hF2 hB3
  go_wp2
  go_ret
  refine ⟨by rw [<- HE.out];rfl,⟨_,_,HP2.out.1.mono (fun k hk=>hk.1)⟩,?_⟩
  have q1:=HP.out.2.1.mono (T:=S) (fun k _ hk=>hk.1)
  have q2:=HP2.out.2.mono (T:=S) (fun k _ hk=>hk.1)
  exact ((Fr.refl S w).alloc _).trans (q1.trans (((Fr.refl S _).alloc _).trans q2))
theorem zgN (t s:ByteArray)(F:Nat)(at0:Int)(S:Nat->Prop)(wv ev nv sv:Value)(st:FSt)(w:World)(hf:FormAt t w F S wv ev nv sv st)(_hS:∀ k,w.heap.size<=k->S k)
  (r:List Int) (he:st.want=2::r) (hr:r.length<=10):
  Calls Tryz.prog 51 #[.pointer (some ⟨F,0,none⟩),.agg #[.string s,.int .i64 at0]] w fun e w'=>e=.returned (.bool (decide (0<=zcx s.data.toList))) /\
   (∃ wv' ev',FormAt t w' F S wv' ev' nv sv {st with want:=r})/\Fr S w w':=by
 obtain ⟨g,cap,rfl,hg,hcp,hgl⟩:=hf.top he
 have hc1:w.cell? ⟨F,0,none⟩=some (.slice (some ⟨g,0,none⟩) (r.length+1) cap):=(zaa hf.blk).trans rfl
 have hFl:=zae hf.blk
 have hz:w.frozen? ⟨F,0,none⟩=false:=zab hf.blk
 have HP:Hid (FormAt t ((w.setCell ⟨F,0,none⟩ (.slice (some ⟨g,0,none⟩) r.length cap)).alloc (.cells #[.string s,.int .i64 at0] 129)) F S (.slice (some ⟨g,0,none⟩) r.length cap) ev nv sv {st with want:=r}):=(hf.popWant he).alloc _
 have HI:Hid (S F):=hf.inF
 have hne:w.heap.size≠F:=by omega
 clear he hf
 go_enter Tryz.func51,Tryz.ntmps51
 go_wp2
 go_region
 go_wp2
 go_region
 go_wp2_with (go_at_call 54;refine (zem _ _).mono ?_;rintro e w' ⟨rfl,rfl⟩)
 go_ret
 exact ⟨rfl,⟨_,_,HP.out.keep (fun _ _=>rfl)⟩,((((Fr.refl S w).setCell ⟨F,0,none⟩ (.inl HI.out) _).alloc _).drew).drew⟩
theorem zgO (t s:ByteArray)(F:Nat)(at0:Int)(S:Nat->Prop)(wv ev nv sv:Value)(st:FSt)(w:World)(hf:FormAt t w F S wv ev nv sv st)(hS:∀ k,w.heap.size<=k->S k)
  (m:Int) (r:List Int) (he:st.want=m::r) (hr:r.length<=10) (hm0:(m==0)=false) (hm1:(m==1)=false) (hm6:(m==6)=false) (hm2:(m==2)=false) (p:Nat×Nat) (hs:s=t.extract p.1 p.2) (hat0:at0=p.1) (hsz:s.size<=400) (hl1:st.nums.length<=1000) (hl2:st.sorts.length<=1000):
  Calls Tryz.prog 51 #[.pointer (some ⟨F,0,none⟩),.agg #[.string s,.int .i64 at0]] w fun e w'=>e=.returned (.bool (decide (0<=zbx s.data.toList))) /\
   (∃ wv' ev' nv' sv',FormAt t w' F S wv' ev' nv' sv' {st with want:=r,nums:=st.nums++[p],sorts:=st.sorts++[m]})/\Fr S w w':=by
 obtain ⟨g,cap,rfl,hg,hcp,hgl⟩:=hf.top he
 have hc1:w.cell? ⟨F,0,none⟩=some (.slice (some ⟨g,0,none⟩) (r.length+1) cap):=(zaa hf.blk).trans rfl
 have hFl:=zae hf.blk
 have hz:w.frozen? ⟨F,0,none⟩=false:=zab hf.blk
 have HP:Hid (FormAt t ((w.setCell ⟨F,0,none⟩ (.slice (some ⟨g,0,none⟩) r.length cap)).alloc (.cells #[.string s,.int .i64 at0] 129)) F (fun k=>S k/\k≠w.heap.size) (.slice (some ⟨g,0,none⟩) r.length cap) ev nv sv {st with want:=r}):=((hf.guard _ (Nat.le_refl _)).popWant he).alloc _
 have HI:Hid (S F):=hf.inF
 have hne:w.heap.size≠F:=by omega
 have hc4:w.cell? ⟨F,3,none⟩=some nv:=(zaa hf.blk).trans rfl
 have hc5:w.cell? ⟨F,4,none⟩=some sv:=(zaa hf.blk).trans rfl
 have HB:Hid (((w.setCell ⟨F,0,none⟩ (.slice (some ⟨g,0,none⟩) r.length cap)).alloc (.cells #[.string s,.int .i64 at0] 129)).heap[w.heap.size]?=some (.cells #[.string s,.int .i64 at0] 129 (0,0))):=by
  exact zaY _ _ _ (zaq _ _ _)
 have hn1:nv.ownBlock≠some w.heap.size:=fun e=>by obtain ⟨cur,hc⟩:=zad hf.nums e;have:=zae hc;omega
 have hn2:sv.ownBlock≠some w.heap.size:=fun e=>by obtain ⟨cur,hc⟩:=zad hf.sorts e;have:=zae hc;omega
 have HV:Hid (nv.ownBlock≠some F):=fun e=>by obtain ⟨cur,hc⟩:=zad hf.nums e;exact zac hc hf.blk (by decide) rfl
 have HV2:Hid (sv.ownBlock≠some F):=fun e=>by obtain ⟨cur,hc⟩:=zad hf.sorts e;exact zac hc hf.blk (by decide) rfl
 have hw1s:((w.setCell ⟨F,0,none⟩ (.slice (some ⟨g,0,none⟩) r.length cap)).alloc (.cells #[.string s,.int .i64 at0] 129)).heap.size=w.heap.size+1:=by simp
 have hnu:((w.setCell ⟨F,0,none⟩ (.slice (some ⟨g,0,none⟩) r.length cap)).alloc (.cells #[.string s,.int .i64 at0] 129)).ownsRow 0 129 2 nv st.nums.length (zbz t st.nums):=HP.out.nums
 have HS0:Hid (s=t.extract p.1 p.2/\at0=p.1):=And.intro hs hat0
 clear he hf hs hat0
 go_enter Tryz.func51,Tryz.ntmps51
 go_wp2
 go_region
 go_wp2
 go_region
 go_wp2
 go_region_law (refine ze2 _ rfl (.tmp 85) (.tmp 87) 69 rfl 129 _ 2 24 Tryz.underlying69 Tryz.infoWord rfl (by decide) (by decide) nv _ _ (w.heap.size+1) [.string s,.int .i64 at0] (by rfl) (by exact hnu.alloc _) (by exact zaY _ _ _ hw1s) (by rfl) rfl (zdm _ _) (by omega) ?_;intro g1 cap1 w1 hown1 hgrow hat hlt;have hc1:w1.cell? ⟨F,3,none⟩=some nv:=(zaa (zal (OneMore.alloc _ _).drew.drew.drew hgrow HP.out.blk HV.out)).trans rfl;have hf1:w1.frozen? ⟨F,3,none⟩=false:=zab (zal (OneMore.alloc _ _).drew.drew.drew hgrow HP.out.blk HV.out))
 all_goals
  obtain ⟨p1,p2⟩:=HP.out.push_nums p rfl (OneMore.alloc _ _).drew.drew.drew (by rw [<- HS0.out.1,<- HS0.out.2];exact hown1) hgrow hat (fun k hk=>⟨hS k (by omega),by omega⟩)
  have hB1:=zal (OneMore.alloc _ _).drew.drew.drew hgrow HB.out hn1
  have hs1:=zdI (OneMore.alloc _ _).drew.drew.drew hgrow
  have hB2:(w1.setCell ⟨F,3,none⟩ (.slice (some ⟨g1,0,none⟩) (st.nums.length+1) cap1)).heap[w.heap.size]?=some (.cells #[.string s,.int .i64 at0] 129 (0,0)):=by
   rw [Below.heap_setCell _ _ _ _ hne];exact hB1
  have hc6:w1.cell? ⟨F,4,none⟩=some sv:=(zaa (zal (OneMore.alloc _ _).drew.drew.drew hgrow HP.out.blk HV.out)).trans rfl
  have hsu:=p1.sorts
  have HQ:Hid (_/\_/\_):=And.intro p1 (And.intro p2 hB2)
  have hsz2:(w1.setCell ⟨F,3,none⟩ (.slice (some ⟨g1,0,none⟩) (st.nums.length+1) cap1)).heap.size=w1.heap.size:=zaq _ _ _
  clear p1 p2 hB1 hB2 hown1 hgrow hat hc5
  go_wp2_with (at_builtin;refine za7 _ rfl (.tmp 95) (.tmp 97) 123 rfl 3 _ 1 8 Tryz.underlying123 Tryz.infoInt rfl (by decide) (by decide) sv _ _ w1.heap.size [.int .i64 m] (by rfl) (by exact hsu.alloc _) (by exact zaY _ _ _ hsz2) (by rfl) rfl (by simp [Value.oneCell']) (by simpa using Nat.le_trans hl2 (by omega)) ?_)
  intro g2 cap2 w2 hown2 hgrow2 hat2 hlt2
  obtain ⟨q1,q2⟩:=HQ.out.1.push_sorts m rfl (OneMore.alloc _ _) hown2 hgrow2 (by simpa using hat2) (fun k hk=>⟨hS k (by omega),by omega⟩)
  have hB3:=zal (OneMore.alloc _ _) hgrow2 HQ.out.2.2 hn2
  have hF2:=zal (OneMore.alloc _ _) hgrow2 HQ.out.1.blk HV2.out
  have hc7:w2.cell? ⟨F,4,none⟩=some sv:=(zaa hF2).trans rfl
  have hf7:w2.frozen? ⟨F,4,none⟩=false:=zab hF2
  have hb7:w2.cell? ⟨w.heap.size,0,none⟩=some (.string s):=(zaa hB3).trans rfl
  have HR:Hid (_/\_):=And.intro q1 q2
  clear q1 q2 hB3 hF2 hown2 hgrow2 hat2
  go_wp2_with (go_at_call 52;refine (zdy _ _ (by unfold maxLen;omega)).mono ?_;rintro e w' ⟨rfl,rfl⟩)
  go_ret
  refine ⟨rfl,⟨_,_,_,_,HR.out.1.mono (fun k hk=>hk.1)⟩,?_⟩
  have r1:=HQ.out.2.1.mono (T:=S) (fun k _ hk=>hk.1)
  have r2:=HR.out.2.mono (T:=S) (fun k _ hk=>hk.1)
  exact (((Fr.refl S w).setCell ⟨F,0,none⟩ (.inl HI.out) _).alloc _).trans (r1.trans r2)
theorem zoX (t:ByteArray)(F:Nat)(p:Nat×Nat)(S:Nat->Prop)(wv ev nv sv:Value)(st:FSt)(w:World)(hf:FormAt t w F S wv ev nv sv st)(hS:∀ k,w.heap.size<=k->S k)(hlen:st.elses.length<=1000)
  (hw:st.want≠[]) (hr:st.want.length<=10) (hsz:(t.extract p.1 p.2).size<=400) (hl1:st.nums.length<=1000) (hl2:st.sorts.length<=1000):
  Calls Tryz.prog 51 #[.pointer (some ⟨F,0,none⟩),.agg #[.string (t.extract p.1 p.2),.int .i64 p.1]] w fun e w'=>e=.returned (.bool (zds (zaf t p) p st).2) /\
   ((zds (zaf t p) p st).2=true->∃ wv' ev' nv' sv',FormAt t w' F S wv' ev' nv' sv' (zds (zaf t p) p st).1)/\Fr S w w':=by
 cases he:st.want with
 | nil=>exact absurd he hw
 | cons m r=>
  have hr':r.length<=10:=by rw [he] at hr;simp at hr;omega
  have e0:zds (zaf t p) p st=if m=0\/m=1 then zcp (zaf t p) m st
   else if m=6 then ({st with elses:=st.next::st.elses,want:=[0]},zaf t p==zbV)
   else if m=2 then ({st with want:=r},decide (0<=zcx (zaf t p)))
   else ({st with want:=r,nums:=st.nums++[p],sorts:=st.sorts++[m]},decide (0<=zbx (zaf t p))):=by
   unfold zds;rw [he]
  rw [e0]
  by_cases h01:m=0\/m=1
  .rw [if_pos h01]
   refine (zmq t _ F p.1 S wv ev nv sv st w hf hS hlen m r he hr' h01).mono fun e w' h=>⟨h.1,fun h'=>?_,h.2.2⟩
   obtain ⟨a,b,hab⟩:=h.2.1 h'
   exact ⟨a,b,nv,sv,hab⟩
  .rw [if_neg h01]
   by_cases h6:m=6
   .rw [if_pos h6]
    subst h6
    refine (zeh t _ F p.1 S wv ev nv sv st w hf hS hlen r he hr').mono fun e w' h=>⟨h.1,fun _=>?_,h.2.2⟩
    obtain ⟨a,b,hab⟩:=h.2.1
    exact ⟨a,b,nv,sv,hab⟩
   .rw [if_neg h6]
    by_cases h2:m=2
    .rw [if_pos h2]
     subst h2
     refine (zgN t _ F p.1 S wv ev nv sv st w hf hS r he hr').mono fun e w' h=>⟨h.1,fun _=>?_,h.2.2⟩
     obtain ⟨a,b,hab⟩:=h.2.1
     exact ⟨a,b,nv,sv,hab⟩
    .rw [if_neg h2]
     refine (zgO t _ F p.1 S wv ev nv sv st w hf hS m r he hr' (by simp;omega) (by simp;omega) (by simp;omega) (by simp;omega) p rfl rfl hsz hl1 hl2).mono fun e w' h=>⟨h.1,fun _=>h.2.1,h.2.2⟩
open Go.RowKit Go.Proofs.Herald
theorem zhP (t:ByteArray):∀ (ws:List (Nat×Nat)) (i:Nat) (hi:i<ws.length),
  (zbz t ws)[i*2]?=some (.string (t.extract ws[i].1 ws[i].2))/\(zbz t ws)[i*2+1]?=some (.int .i64 ws[i].1):=by
 intro ws
 induction ws with
 | nil=>intro i hi;simp at hi
 | cons p r ih=>
  intro i hi
  cases i with
  | zero=>simp [zbz,zf4]
  | succ i=>
   have:=ih i (by simpa using hi)
   simp only [zbz,List.flatMap_cons,zf4] at this ⊢
   rw [show (i+1)*2=i*2+1+1 from by omega]
   simpa using this
theorem zjy {t:ByteArray}{w:World}{B:Nat}{v:Value}{ws:List (Nat×Nat)}(h:w.ownsRow B 129 2 v ws.length (zbz t ws)):
  ∃ a cap L,v=.slice a ws.length cap/\ws.length<=cap/\(0<ws.length->a=some ⟨L,0,none⟩/\B<=L/\L<w.heap.size/\WordsAt t w L 0 ws):=by
 rcases h.2 with ⟨rfl,h0⟩|⟨g,cap,cur,rfl,hb,hg,hn,hm,hs,ht⟩
 .exact ⟨none,0,0,by rw [h0],by omega,by omega⟩
 .refine ⟨_,cap,g,rfl,hn,fun _=>⟨rfl,hb,zae hg,fun i hi=>?_⟩⟩
  have hc:=h.cells (g:=g) rfl
  have e1:=zhP t ws i hi
  have c1:=hc _ _ e1.1
  have c2:=hc _ _ e1.2
  rw [Addr.add_lit] at c1 c2
  exact ⟨c1,by simpa [Nat.add_assoc] using c2⟩
theorem WordsAt.keep {t:ByteArray}{w w':World}{b off:Nat}{ws:List (Nat×Nat)}(h:WordsAt t w b off ws)(hk:w'.heap[b]?=w.heap[b]?):WordsAt t w' b off ws:=fun i hi=>by
 obtain ⟨h1,h2⟩:=h i hi
 exact ⟨(World.cell?_of_block hk).trans h1,(World.cell?_of_block hk).trans h2⟩
theorem zgG (t:ByteArray)(w:World)(ht:t.size<=400):
  Calls Tryz.prog 22 #[.string t] w fun e w'=>∃ a cap L,e=.returned (.slice a (za2 t.data.toList).length cap)/\(za2 t.data.toList).length<=cap /\
   (0<(za2 t.data.toList).length->a=some ⟨L,0,none⟩/\w.heap.size<=L/\L<w'.heap.size/\WordsAt t w' L 0 (za2 t.data.toList))/\Below w.heap.size w w':=
 (zmP t w ht).mono fun e w' ⟨v,he,ho,hb⟩=>by
  obtain ⟨a,cap,L,hv,hc,hw⟩:=zjy ho
  exact ⟨a,cap,L,by rw [he,hv],hc,hw,hb⟩
theorem zdA {k:IntKind}{a b c d:Int}(h1:a=c)(h2:b=d):Ending.returned (.tuple #[.int k a,.int k b])=.returned (.tuple #[.int k c,.int k d]):=by rw [h1,h2]
theorem zkl (t:ByteArray)(w w1:World)(S:Nat->Prop)(hS:S (w.heap.size+1))(hS':S w.heap.size)
  (hb:∀ k,k<w.heap.size+2->w1.heap[k]?=((w.alloc (.cells #[.int .i64 0] 3)).alloc (.cells #[.slice (some ⟨w.heap.size,0,none⟩) 1 1,.slice none 0 0,.bool false,.slice none 0 0,.slice none 0 0] 126)).heap[k]?):
  FormAt t w1 (w.heap.size+1) S (.slice (some ⟨w.heap.size,0,none⟩) 1 1) (.slice none 0 0) (.slice none 0 0) (.slice none 0 0) zeb:=by
 refine ⟨?_,hS,?_,World.ownsRow_nil _ _ _ _,World.ownsRow_nil _ _ _ _,World.ownsRow_nil _ _ _ _,?_,?_,?_,?_,?_⟩
 .rw [hb _ (by omega),zaw];rfl
 .refine ⟨by simp [zeb,zbP],.inr ⟨w.heap.size,1,#[.int .i64 0],rfl,by omega,?_,by simp [zeb],by unfold maxLen;omega,rfl,by simp [zeb,zbP]⟩⟩
  rw [hb _ (by omega),Below.heap_alloc _ _ _ (by simp),heap_alloc_new]
 .intro k hk;simp [Value.ownBlock] at hk;subst hk;exact hS'
 .intro k hk;simp [Value.ownBlock] at hk
 .intro k hk;simp [Value.ownBlock] at hk
 .intro k hk;simp [Value.ownBlock] at hk
 .intro k hk e;simp [Value.ownBlock] at e
theorem zgm (t:ByteArray)(w:World)(ht:t.size<=400):
  Calls Tryz.prog 21 #[.string t] w fun e w'=>e=.returned (.tuple #[.int .i64 (zcF t).1,.int .i64 (zcF t).2])/\Below w.heap.size w w':=by
 have hbo:=zf5 t.data.toList
 have hwl:=zbr t.data.toList
 have HR0:Hid (zcF t=match zlA t (za2 t.data.toList) zeb with|.inr a=>(2,(a:Int))|.inl st=>zqg t st):=rfl
 go_enter Tryz.func21,Tryz.ntmps21
 go_wp2_with fail
 refine (zgG t _ ht).mono ?_
 rintro e w1 ⟨a,cap,L,rfl,hcap,hws,hb1⟩
 generalize za2 t.data.toList=ws at *
 have hsz:((w.alloc (.cells #[.int .i64 0] 3)).alloc (.cells #[.slice (some ⟨w.heap.size,0,none⟩) 1 1,.slice none 0 0,.bool false,.slice none 0 0,.slice none 0 0] 126)).heap.size=w.heap.size+2:=by simp
 have hs1:=hb1.size
 rw [hsz] at hs1
 have HW:Hid (0<ws.length->a=some ⟨L,0,none⟩/\w.heap.size+2<=L/\L<w1.heap.size/\WordsAt t w1 L 0 ws):=by rw [hsz] at hws;exact hws
 have HF0:Hid (FormAt t w1 (w.heap.size+1) (fun k=>w.heap.size<=k/\(0<ws.length->k≠L)) (.slice (some ⟨w.heap.size,0,none⟩) 1 1) (.slice none 0 0) (.slice none 0 0) (.slice none 0 0) zeb):=
  zkl t w w1 _ ⟨by omega,fun h=>by have:=(HW.out h).2.1;omega⟩ ⟨by omega,fun h=>by have:=(HW.out h).2.1;omega⟩ (fun k hk=>hb1.block k (by omega))
 have HB1:Hid (Below w.heap.size w w1):=(((Below.refl _ _).alloc (Nat.le_refl _) _).alloc (by simp) _).trans (hb1.mono (by omega))
 have HBO:Hid (∀ p∈ws,p.1<p.2/\p.2<=t.size):=fun p hp=>by
   have h1:=hbo p hp;have e1:t.data.toList.length=t.size:=by simp
   rw [e1] at h1;exact h1
 have hwl':ws.length<=t.size:=by simpa using hwl
 clear hws hsz hb1 hbo hwl
 go_wp2_with fail
 go_loopw [6] (fun i wr=>∃ (k:Nat) (st:FSt) (wv ev nv sv:Value),k<=ws.length/\i=.int .i64 k/\FormAt t wr (w.heap.size+1) (fun k=>w.heap.size<=k/\(0<ws.length->k≠L)) wv ev nv sv st /\
   Fr (fun k=>w.heap.size<=k/\(0<ws.length->k≠L)) w1 wr/\OkF st k/\zlA t (ws.drop k) st=zlA t ws zeb)
  (fun i _=>ws.length - (intOf i).toNat)
 case atStart=>exact ⟨0,zeb,_,_,_,_,Nat.zero_le _,rfl,HF0.out,Fr.refl _ _,OkF.init,rfl⟩
 case round=>
  obtain ⟨k,st,wv,ev,nv,sv,hk,rfl,hf,hF,hok,hrun⟩:=hrel
  have HF:=zHd hf
  have hws1:=hF.size
  clear hf HF0
  by_cases hlt:k<ws.length
  .obtain ⟨ha,hL1,hL2,hwa⟩:=HW.out (by omega)
   have hwr:WordsAt t wr L 0 ws:=hwa.keep (hF.block L hL2 (fun h=>h.2 (by omega) rfl))
   obtain ⟨hc1,hc2⟩:=hwr k hlt
   rw [Nat.zero_add] at hc1 hc2
   rw [zbT ws k hlt,zlA] at hrun
   have hbk:=HBO.out ws[k] (List.getElem_mem hlt)
   have hsk:(t.extract ws[k].1 ws[k].2).size<=400:=by simp;omega
   have HRN:=zHd hrun
   have HOK:=zHd hok
   have HFr:=zHd hF
   clear hrun hwr hwa hok hF hbk
   rw [ha]
   go_wp2_with fail
   refine (zoX t (w.heap.size+1) ws[k] _ wv ev nv sv st _ HF.out (fun q hq=>⟨by omega,fun _=>by omega⟩) (by have:=HOK.out.elses;omega) HOK.out.want.ne HOK.out.short hsk (by have:=HOK.out.nums;omega) (by have:=HOK.out.nums;have:=HOK.out.same;omega)).mono ?_
   rintro e w2 ⟨rfl,hf2,hF2⟩
   have HP2:Hid (_/\_):=And.intro hf2 hF2
   clear hf2 hF2
   have hs2:=HP2.out.2.size
   have hc2':w2.cell? ⟨L,k*2+1,none⟩=some (.int .i64 ws[k].1):=by
    rw [HP2.out.2.cell (p:=⟨L,k*2+1,none⟩) (by show L < _;omega) (fun h=>h.2 (by omega) rfl)];exact hc2
   cases hr2:(zds (zaf t ws[k]) ws[k] st).2 with
   | true=>
    have HRN2:Hid (zlA t (ws.drop (k+1)) (zds (zaf t ws[k]) ws[k] st).1=zlA t ws zeb):=by have:=HRN.out;rw [if_pos hr2] at this;exact this
    have HR2:=zHd hr2
    clear hr2
    go_wp2_with fail
    go_roundw
    case rel=>
     obtain ⟨x1,x2,x3,x4,hx⟩:=HP2.out.1 HR2.out
     exact ⟨k+1,_,x1,x2,x3,x4,by omega,by go_num,hx,HFr.out.trans HP2.out.2,HOK.out.read,HRN2.out⟩
    case measure=>simp [intOf];omega
   | false=>
    have HRN2:Hid (zcF t=(2,(ws[k].1:Int))):=by
     have:=HRN.out;rw [if_neg (by rw [hr2];simp)] at this
     rw [HR0.out,<- this];rfl
    clear hr2
    go_wp2_with fail
    go_region
    go_wp2
    go_ret2
    refine ⟨zdA (by rw [HRN2.out]) (by rw [HRN2.out]),?_⟩
    have q:=(HFr.out.trans HP2.out.2).mono (T:=fun k=>w.heap.size<=k) (fun k _ h=>h.1)
    exact HB1.out.trans ((q.below (by omega)).drew)
  .obtain rfl:k=ws.length:=by omega
   rw [List.drop_length,zlA] at hrun
   have HFM:Hid (zcF t=zqg t st):=by rw [HR0.out,<- hrun];rfl
   cases hwant:st.want with
   | nil=>exact absurd hwant hok.want.ne
   | cons m r=>
    obtain ⟨g,cap2,rfl,hg,hcp,hgl⟩:=HF.out.top hwant
    have hrl:r.length<=10:=by have:=hok.short;rw [hwant] at this;simp at this;omega
    have hend:zqg t st=if 0<st.elses.length\/1<m then (2,(t.size:Int)) else zfT t st.nums st.sorts:=by unfold zqg;rw [hwant];rfl
    have hev:∃ a1 c1,ev=.slice a1 st.elses.length c1:=by
     rcases HF.out.elses.2 with ⟨h1,h2⟩|⟨g1,c1,cur,h1,_⟩
     .exact ⟨none,0,by rw [h1,h2]⟩
     .exact ⟨_,_,h1⟩
    obtain ⟨a1,c1,rfl⟩:=hev
    have hc1:wr.cell? ⟨w.heap.size+1,0,none⟩=some (.slice (some ⟨g,0,none⟩) (r.length+1) cap2):=(zaa HF.out.blk).trans rfl
    have hc2:wr.cell? ⟨w.heap.size+1,1,none⟩=some (.slice a1 st.elses.length c1):=(zaa HF.out.blk).trans rfl
    have hc3:wr.cell? ⟨w.heap.size+1,3,none⟩=some nv:=(zaa HF.out.blk).trans rfl
    have hc4:wr.cell? ⟨w.heap.size+1,4,none⟩=some sv:=(zaa HF.out.blk).trans rfl
    have HEN:Hid (zcF t=if 0<st.elses.length\/1<m then (2,(t.size:Int)) else zfT t st.nums st.sorts):=HFM.out.trans hend
    have HBW:Hid (Below w.heap.size w wr):=HB1.out.trans ((hF.mono (T:=fun k=>w.heap.size<=k) (fun k _ h=>h.1)).below (by omega))
    have HOK:=zHd hok
    have hel:=hok.elses
    have hnl:=hok.nums
    have hsl:=hok.same
    clear hend hok hrun hF hwant
    by_cases h1:0<st.elses.length
    .have HE:Hid (zcF t=(2,(t.size:Int))):=HEN.out.trans (if_pos (.inl h1))
     go_wp2_with fail
     go_region
     go_wp2_with fail
     go_ret2
     exact ⟨zdA (by rw [HE.out]) (by rw [HE.out]),HBW.out.drew⟩
    .have h1':st.elses.length=0:=by omega
     rw [h1'] at hc2
     by_cases h2:1<m
     .have HE:Hid (zcF t=(2,(t.size:Int))):=HEN.out.trans (if_pos (.inr h2))
      go_wp2_with fail
      go_region
      go_wp2_with fail
      go_ret2
      exact ⟨zdA (by rw [HE.out]) (by rw [HE.out]),HBW.out.drew⟩
     .have HE:Hid (zcF t=zfT t st.nums st.sorts):=HEN.out.trans (if_neg (by omega))
      have hm1:m<=1:=by omega
      obtain ⟨an,cn,N,hnv,hcn,hN⟩:=zjy HF.out.nums
      obtain ⟨al,cl,M,hsv,hM⟩:∃ al cl M,sv=.slice al st.sorts.length cl/\(0<st.sorts.length->al=some ⟨M,0,none⟩/\∀ (j:Nat) (hj:j<st.sorts.length),wr.cell? ⟨M,j,none⟩=some (.int .i64 st.sorts[j])):=by
       rcases HF.out.sorts.2 with ⟨h1,h2⟩|⟨g1,c1,cur,h1,_⟩
       .exact ⟨none,0,0,by rw [h1,h2],by omega⟩
       .exact ⟨_,_,g1,h1,fun _=>⟨rfl,fun j hj=>zdY HF.out.sorts h1 (by simp [zbP,hj])⟩⟩
      rw [hnv] at hc3
      rw [hsv] at hc4
      have HN:Hid (0<st.nums.length->an=some ⟨N,0,none⟩/\WordsAt t wr N 0 st.nums):=fun h=>⟨(hN h).1,(hN h).2.2.2⟩
      have HM:=zHd hM
      clear hN hM hnv hsv h1 h2
      go_wp2_with fail
      go_region
      go_wp2_with fail
      go_loop [9] (fun i=>∃ j:Nat,j<=st.nums.length/\i=.int .i64 j/\zfT t (st.nums.drop j) (st.sorts.drop j)=zfT t st.nums st.sorts) (fun i=>st.nums.length - (intOf i).toNat)
      case atStart=>exact ⟨0,Nat.zero_le _,rfl,rfl⟩
      case round=>
       obtain ⟨j,hj,rfl,hnf⟩:=hrel
       by_cases hlt2:j<st.nums.length
       .obtain ⟨ea,hwa⟩:=HN.out (by omega)
        obtain ⟨eb,hsa⟩:=HM.out (by omega)
        have hjs:j<st.sorts.length:=by omega
        obtain ⟨hd1,hd2⟩:=hwa j hlt2
        rw [Nat.zero_add] at hd1 hd2
        have hd3:=hsa j hjs
        rw [zbT _ j hlt2,zbT _ j hjs,zfT] at hnf
        have hsk:(t.extract st.nums[j].1 st.nums[j].2).size<=400:=by simp;omega
        obtain ⟨s,hs⟩:∃ s,s=t.extract st.nums[j].1 st.nums[j].2:=⟨_,rfl⟩
        have hb:zaf t st.nums[j]=s.data.toList:=by rw [hs];rfl
        rw [hb] at hnf
        rw [<- hs] at hd1 hsk
        clear hwa hsa hb hs
        rw [ea] at hc3
        rw [eb] at hc4
        by_cases hA:zbx s.data.toList<1
        .rw [if_pos (.inl hA)] at hnf
         have HNF:=zHd hnf
         clear hnf
         go_wp2_with (first|(go_at_call 52;refine (zdy _ _ (by unfold maxLen;omega)).mono ?_;rintro e w' ⟨rfl,rfl⟩)|(go_at_call 53;refine (zix _ _).mono ?_;rintro e w' ⟨rfl,rfl⟩))
         go_region
         go_wp2
         go_ret2
         exact ⟨zdA (by rw [HE.out,<- HNF.out]) (by rw [HE.out,<- HNF.out]),HBW.out.drew.drew⟩
        .by_cases hB:zkE st.sorts[j]<zbx s.data.toList
         .rw [if_pos (.inr hB)] at hnf
          have HNF:=zHd hnf
          have hA':1<=zbx s.data.toList:=by omega
          clear hnf hA
          go_wp2_with (first|(go_at_call 52;refine (zdy _ _ (by unfold maxLen;omega)).mono ?_;rintro e w' ⟨rfl,rfl⟩)|(go_at_call 53;refine (zix _ _).mono ?_;rintro e w' ⟨rfl,rfl⟩))
          go_region
          go_wp2
          go_ret2
          exact ⟨zdA (by rw [HE.out,<- HNF.out]) (by rw [HE.out,<- HNF.out]),HBW.out.drew.drew⟩
         .rw [if_neg (by omega)] at hnf
          have HNF:=zHd hnf
          have hA':1<=zbx s.data.toList:=by omega
          have hB':zbx s.data.toList<=zkE st.sorts[j]:=by omega
          clear hnf hA hB
          go_wp2_with (first|(go_at_call 52;refine (zdy _ _ (by unfold maxLen;omega)).mono ?_;rintro e w' ⟨rfl,rfl⟩)|(go_at_call 53;refine (zix _ _).mono ?_;rintro e w' ⟨rfl,rfl⟩))
          go_round
          case rel=>exact ⟨j+1,by omega,by go_num,HNF.out⟩
          case measure=>simp [intOf];omega
       .rw [List.drop_of_length_le (by omega)] at hnf
        have HNF:=zHd hnf
        clear hnf
        go_wp2_with fail
        go_ret2
        have e0:zfT t [] (st.sorts.drop j)=(0,0):=by simp [zfT]
        exact ⟨zdA (by rw [HE.out,<- HNF.out,e0]) (by rw [HE.out,<- HNF.out,e0]),HBW.out.drew⟩
open Go.RowKit Go.Proofs.Herald
def zbw (t:ByteArray)(h:Hd)(u:Value×Value):List Value:=
 [.string (t.extract h.p.1 h.p.2),.int .i64 h.key,.int .i64 h.n,.int .i64 h.m,u.1,u.2,.int .i64 h.p.1]
def zbt (t:ByteArray){T:Type}(xs:List ((Hd×T×T)×(Value×Value))):List Value:=xs.flatMap fun x=>zbw t x.1.1 x.2
def TreeAt (t:ByteArray)(w:World)(X:Nat->Prop):(d:Nat)->Value->Tree d->Prop
 | 0,v,_=>∃ a cap,v=.slice a 0 cap
 | d+1,v,l=>∃ xs:List ((Hd×Tree d×Tree d)×(Value×Value)),l=xs.map Prod.fst/\w.ownsRow 0 133 7 v xs.length (zbt t xs)/\InS X v /\
   (∀ x∈xs,TreeAt t w X d x.2.1 x.1.2.1/\TreeAt t w X d x.2.2 x.1.2.2)/\(∀ x∈xs,x.2.1.oneCell'=true/\x.2.2.oneCell'=true)
theorem TreeAt.keep {t:ByteArray}{w w':World}{X:Nat->Prop}(h:∀ k,X k->w'.heap[k]?=w.heap[k]?):∀ (d:Nat) (v:Value) (l:Tree d),TreeAt t w X d v l->TreeAt t w' X d v l:=by
 intro d
 induction d with
 | zero=>intro v l hl;exact hl
 | succ d ih=>
  intro v l hl
  obtain ⟨xs,h1,h2,h3,h4,h5⟩:=hl
  exact ⟨xs,h1,zaj h2 (fun k hk=>h k (h3 k hk)),h3,fun x hx=>⟨ih _ _ (h4 x hx).1,ih _ _ (h4 x hx).2⟩,h5⟩
theorem TreeAt.mono {t:ByteArray}{w:World}{X Y:Nat->Prop}(h:∀ k,X k->Y k):∀ (d:Nat) (v:Value) (l:Tree d),TreeAt t w X d v l->TreeAt t w Y d v l:=by
 intro d
 induction d with
 | zero=>intro v l hl;exact hl
 | succ d ih=>
  intro v l hl
  obtain ⟨xs,h1,h2,h3,h4,h5⟩:=hl
  exact ⟨xs,h1,h2,fun k hk=>h k (h3 k hk),fun x hx=>⟨ih _ _ (h4 x hx).1,ih _ _ (h4 x hx).2⟩,h5⟩
theorem TreeAt.nil (t:ByteArray)(w:World)(X:Nat->Prop)(d:Nat):TreeAt t w X d (.slice none 0 0) (zcn d):=by
 cases d with
 | zero=>exact ⟨none,0,rfl⟩
 | succ d=>exact ⟨[],rfl,World.ownsRow_nil _ _ _ _,fun k hk=>by simp [Value.ownBlock] at hk,by simp,by simp⟩
theorem TreeAt.one {t:ByteArray}{w:World}{X:Nat->Prop}{d:Nat}{v:Value}{l:Tree d}(h:TreeAt t w X d v l):∃ a n cap,v=.slice a n cap:=by
 cases d with
 | zero=>obtain ⟨a,cap,h⟩:=h;exact ⟨a,0,cap,h⟩
 | succ d=>
  obtain ⟨xs,h1,h2,h3,h4,h5⟩:=h
  rcases h2.2 with ⟨h6,_⟩|⟨g,cap,cur,h6,_⟩
  .exact ⟨_,_,_,h6⟩
  .exact ⟨_,_,_,h6⟩
theorem zhf (t:ByteArray){T:Type}(xs:List ((Hd×T×T)×(Value×Value)))(x:(Hd×T×T)×(Value×Value)):zbt t (xs++[x])=zbt t xs++zbw t x.1.1 x.2:=by
 simp [zbt]
theorem Tryz.infoStmt:(Tryz.prog.info? 133).map (fun i=>(i.zero,i.size,i.bytes))=some (some (.agg #[.string ByteArray.empty,.int .i64 0,.int .i64 0,.int .i64 0,.slice none 0 0,.slice none 0 0,.int .i64 0]),7,96):=by kernel_rfl
theorem WordsAt.sub {t:ByteArray}{w:World}{b off:Nat}{ws:List (Nat×Nat)}(h:WordsAt t w b off ws)(i n:Nat)(us:List (Nat×Nat))(hu:us=(ws.drop i).take n):WordsAt t w b (off+i*2) us:=by
 subst hu
 intro j hj
 simp at hj
 obtain ⟨h1,h2⟩:=h (i+j) (by omega)
 have e:((ws.drop i).take n)[j]=ws[i+j]:=by simp
 rw [e]
 exact ⟨by rw [show off+i*2+j*2=off+(i+j)*2 from by omega];exact h1,by rw [show off+i*2+j*2+1=off+(i+j)*2+1 from by omega];exact h2⟩
end Go.Proofs.YtmmmnghiegajmaaGreat
