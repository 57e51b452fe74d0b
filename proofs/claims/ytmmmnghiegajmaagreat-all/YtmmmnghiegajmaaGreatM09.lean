import Derived.Test.YtmmmnghiegajmaaGreatM08
import Derived.Test.YtmmmnghiegajmaaGreatM06
set_option maxHeartbeats 4000000
set_option maxRecDepth 20000
open Go.RowKit Go.Proofs.Herald Go.Proofs.Tryz
namespace Go.Proofs.YtmmmnghiegajmaaGreat
theorem Tryz.infoProcP:(prog.info? 144).map (fun i=>(i.zero,i.size,i.bytes))=some (some (.pointer none),1,8):=by kernel_rfl
def fy (L:List (Nat×Int)):List Value:=L.map fun x=>Value.pointer (some ⟨x.1,0,none⟩)
structure cj (w:World)(pv:Value)(L:List (Nat×Int)):Prop where
 own:w.ownsRow 0 144 1 pv L.length (fy L)
 ids:∀ x∈L,∃ cs,w.heap[x.1]?=some (.cells cs 147)/\cs[0]?=some (.int .i64 x.2)
theorem au.setPv {w:World}{S Q P R:Nat}{cv:Md}{pv:Value}{rec:ByteArray}{now last:Int}{qv:Nat->Value}{qs:Nat->List aj}{p:Pr}(h:au w S Q P R cv pv rec now last qv qs p)(v:Value):
  au (w.setCell ⟨S,5,none⟩ v) S Q P R cv v rec now last qv qs p:=by
 refine⟨?_,?_,fun d hd=>aT (h.oB d hd) fun b hb=>?_,h.dis,?_,?_,h.rl⟩
 .rw[cG _ h.sB];rfl
 .rw[q8 _ _ _ _ (aA h.qB h.sB (by decide))];exact h.qB
 .obtain⟨c,hc⟩:=ax (h.oB d hd) hb;exact q8 _ _ _ _ (aA hc h.sB (by decide))
 .rw[q8 _ _ _ _ (aA h.pB h.sB (by decide))];exact h.pB
 .rw[q8 _ _ _ _ (aA h.rB h.sB (by decide))];exact h.rB
theorem xC (S Q P R:Nat)(cv:Md)(pv:Value)(rec:ByteArray)(now last:Int)(qv:Nat->Value)(qs:Nat->List aj)(p:Pr)(L:List (Nat×Int))(w:World)(h:au w S Q P R cv pv rec now last qv qs p)(hP:cj w pv L)(hl:L.length<=1000):
  Calls prog 77 #[.pointer (some ⟨S,0,none⟩),.pointer (some ⟨P,0,none⟩)] w fun e w'=>e=.returned (.tuple #[]) /\
   ∃ v,au w' S Q P R cv v rec now last qv qs p/\w'.ownsRow 0 144 1 v (L.filter (fun x=>x.2 != p.id)).length (fy (L.filter (fun x=>x.2 != p.id)))/\(∀ b,v.ownBlock=some b->w.heap.size<=b)/\Fr (fun k=>k=S) w w':=by
 obtain⟨a,A5,hv⟩:=bD hP.own;subst hv;have c5:w.cell? ⟨S,5,none⟩=some (.slice a L.length A5):=(ag h.sB).trans rfl;have p0:w.cell? ⟨P,0,none⟩=some (.int .i64 p.id):=(ag h.pB).trans rfl;have HO:Hid (w.ownsRow 0 144 1 (.slice a L.length A5) L.length (fy L)):=hP.own;have HI:Hid (∀ x∈L,x.1<w.heap.size/\w.cell? ⟨x.1,0,none⟩=some (.int .i64 x.2)):=fun x hx=>by
  obtain⟨cs,h1,h2⟩:=hP.ids x hx;exact⟨ak h1,(ag h1).trans h2⟩
 have HH:=ah h;have A4:Hid (S<w.heap.size/\P<w.heap.size):=⟨ak h.sB,ak h.pB⟩;clear h hP;obtain⟨f,hf⟩:∃ f:Nat×Int->Bool,f=fun x=>x.2 != p.id:=⟨_,rfl⟩;rw[<- hf];have HF:=ah hf;clear hf;go_enter func77,ntmps77
 go_wp2_with fail
 go_loopw [4,5] (fun v i wr=>∃ k:Nat,k<=L.length/\i=.int .i64 k/\Hid (wr.ownsRow w.heap.size 144 1 v ((L.take k).filter f).length (fy ((L.take k).filter f)))/\Hid (Below w.heap.size w wr)) (fun _ i _=>L.length - (intOf i).toNat)
 case atStart=>exact⟨0,Qa _,rfl,Qg _ _ _ _,v7 _ _⟩
 case round=>
  obtain⟨k,hk,rfl,HV,HB⟩:=hrel;rw[<- HB.cell (p:=⟨S,5,none⟩) A4.1]at c5;rw[<- HB.cell (p:=⟨P,0,none⟩) A4.2]at p0;obtain⟨F,hF⟩:∃ F,F=(L.take k).filter f:=⟨_,rfl⟩;rw[<- hF]at HV;have B2:F.length<=1000:=by rw[hF];have:=List.length_filter_le f (L.take k);simp at this;omega
  by_cases hlt:k<L.length
  .have A1:Hid (f L[k]=true->(L.take (k+1)).filter f=F++[L[k]]):=fun h=>by
    rw[Qd hlt,List.filter_append,<- hF];simp[h]
   have A0:Hid (f L[k]=false->(L.take (k+1)).filter f=F):=fun h=>by
    rw[Qd hlt,List.filter_append,<- hF];simp[h]
   obtain⟨g,A9,hv,_,A6⟩:=HO.form (by omega);simp at hv;obtain⟨rfl,rfl⟩:=hv;have e0:w.cell? ⟨g,k,none⟩=some (.pointer (some ⟨L[k].1,0,none⟩)):=mi HO rfl (by unfold fy;simp[hlt]);rw[<- HB.cell (p:=⟨g,k,none⟩) A6]at e0;have hi:=HI L[k] (Qb hlt);have e1:=hi.2;rw[<- HB.cell (p:=⟨L[k].1,0,none⟩) hi.1]at e1;clear hF A6 hi;have A3:Hid (f L[k]=(L[k].2 != p.id)):=by show _=_;rw[HF]
   generalize L[k]=x at *;obtain⟨x1,x2⟩:=x;dsimp only at e0 e1;by_cases hr:x2=p.id
   .have b1:(x2 != p.id)=false:=by simpa using hr
    have HE:Hid ((L.take (k+1)).filter f=F):=A0 (A3.trans b1);clear hr A1 A0;go_wp2_with fail
    go_region;all_goals
     go_wp2_with fail
     go_roundw;case rel=>exact⟨k+1,by omega,by go_num,by rw[HE.out];exact HV,HB.drew⟩
     case measure=>simp[intOf];omega
   .have b1:(x2 != p.id)=true:=by simpa using hr
    have HE:Hid ((L.take (k+1)).filter f=F++[(x1,x2)]):=A1 (A3.trans b1);clear hr A1 A0;go_wp2_with fail
    go_region;all_goals
     go_wp2_with (at_builtin;refine gN _ rfl (.tmp 32) (.tmp 40) 57 rfl 144 _ 1 8 underlying57 Tryz.infoProcP rfl (by decide) (by decide) u4 F.length 1 (fy F) wr.heap.size [.pointer (some ⟨x1,0,none⟩)] (by rfl) (by exact(bZ HV).alloc _) (by exact v8 _ _) (by rfl) rfl (by simp[Value.oneCell']) (by decide) (by omega) ?_)
     intro v2 w2 hown2 ha2;have A2:=iF (w0:=w) (B:=w.heap.size) (HB.alloc HB.size _).drew (by have:=HB.size;simp;omega) (HV.out.alloc _) hown2 ha2;replace hown2:=A2.2;have A8:Hid (w2.ownsRow w.heap.size 144 1 v2 ((L.take (k+1)).filter f).length (fy ((L.take (k+1)).filter f))):=by
      rw[HE,List.length_append];unfold fy;rw[List.map_append];exact hown2
     have A7:Hid (Below w.heap.size w w2):=A2.1;clear hown2 ha2 A2;go_wp2_with fail
     go_roundw;case rel=>exact⟨k+1,by omega,by go_num,A8,A7⟩
     case measure=>simp[intOf];omega
  .have HE:Hid (F=L.filter f):=by show _=_;rw[hF,Qe (by omega)]
   have z:wr.frozen? ⟨S,5,none⟩=false:=aC ((HH.below HB).sB);clear hF;obtain⟨av,B1,B0⟩:=bD HV;subst B0;go_wp2_with fail
   go_end0;refine⟨rfl,_,(HH.below HB).setPv _,?_,fun b hb=>(cS HV hb).1,?_⟩
   .rw[<- HE];exact aT (bZ HV) fun b hb=>by
     obtain⟨c,hc⟩:=ax (bZ HV) hb;exact q8 _ _ _ _ (aA hc (HH.below HB).sB (by decide))
   .exact((Fr.of_below HB).mono (T:=fun k=>k=S) fun j hj hs=>by omega).setCell ⟨S,5,none⟩ (Or.inl rfl) _
def il (S Q P R:Nat)(v:Value)(k:Nat):Prop:=k=P\/k=Q\/k=R\/k=S\/v.ownBlock=some k
theorem qI {α:Type}(f:Nat->α)(d:Nat)(a b:α):bL (bL f d a) d b=bL f d b:=by
 funext k;by_cases h:k=d
 .subst h;rw[ec,ec]
 .rw[eH _ _ h,eH _ _ h,eH _ _ h]
theorem cj.after {w w':World}{S Q P R:Nat}{cv cv':Md}{pv pl pv':Value}{rec rec':ByteArray}{now last now' last':Int}{qv qv':Nat->Value}{qs qs':Nat->List aj}{p p':Pr}{L:List (Nat×Int)}{d:Nat}(h:cj w pl L)(hc:au w S Q P R cv pv rec now last qv qs p)(hc':au w' S Q P R cv' pv' rec' now' last' qv' qs' p')(hid:p'.id=p.id)(hd:d<3)(f:Fr (il S Q P R (qv d)) w w'):cj w' pl L:=by
 refine⟨aT h.own fun b hb=>?_,fun x hx=>?_⟩
 .obtain⟨c,A0⟩:=ax h.own hb;refine f.block b (ak A0) ?_;rintro(hk|hk|hk|hk|hk)
  .exact aA A0 hc.pB (by decide) hk
  .exact aA A0 hc.qB (by decide) hk
  .exact aA A0 hc.rB (by decide) hk
  .exact aA A0 hc.sB (by decide) hk
  .obtain⟨c2,A1⟩:=ax (hc.oB d hd) hk;exact aA A0 A1 (by decide) rfl
 .obtain⟨cs,h1,h2⟩:=h.ids x hx;by_cases hP:x.1=P
  .refine⟨_,by rw[hP];exact hc'.pB,?_⟩;rw[hP,hc.pB]at h1;cases h1
   rw[hid];exact h2
  .refine⟨cs,(f.block x.1 (ak h1) ?_).trans h1,h2⟩;rintro(hk|hk|hk|hk|hk)
   .exact hP hk
   .exact aA h1 hc.qB (by decide) hk
   .exact aA h1 hc.rB (by decide) hk
   .exact aA h1 hc.sB (by decide) hk
   .obtain⟨c2,A1⟩:=ax (hc.oB d hd) hk;exact aA h1 A1 (by decide) rfl
structure Rs where
 P:Nat
 R:Nat
 yv:Value
 nv:Value
 p:Pr
structure Sd where
 tx:Bool
 pg:Value
 code:Value
def Sd.md (s:Sd)(yv nv:Value):Md:=⟨s.tx,s.pg,s.code,yv,nv⟩
def oO (w:World)(x:Rs):Prop:=
 w.heap[x.P]?=some (.cells #[.int .i64 x.p.id,.int .i64 x.p.dev,.int .i64 x.p.sent,.int .i64 x.p.til,.int .i64 x.p.num,x.yv,x.nv,.slice (some ⟨x.R,0,none⟩) 12 12,.int .i64 x.p.tow,.int .i64 x.p.els] 147) /\
 w.heap[x.R]?=some (.cells (x.p.regs.map fun z=>Value.int .i64 z).toArray 3 (0,0))/\x.p.regs.length=12
def dz (rs:List Rs):List (Nat×Int):=rs.map fun x=>(x.P,x.p.id)
def de (S Q:Nat)(pv:Value)(qv:Nat->Value)(rs:List Rs)(k:Nat):Prop:=
 k=S\/k=Q\/(∃ d,d<3/\(qv d).ownBlock=some k)\/pv.ownBlock=some k\/∃ x∈rs,k=x.P\/k=x.R
structure bN (w:World)(S Q:Nat)(s:Sd)(pv:Value)(rec:ByteArray)(now last:Int)(qv:Nat->Value)(qs:Nat->List aj)(rs:List Rs):Prop where
 sB:w.heap[S]?=some (.cells #[.bool s.tx,s.pg,s.code,.int .i64 now,.int .i64 last,pv,.slice (some ⟨Q,0,none⟩) 3 3,.string rec] 60)
 qB:w.heap[Q]?=some (.cells #[qv 0,qv 1,qv 2] 99)
 oB:∀ d,d<3->w.ownsRow 0 87 4 (qv d) (qs d).length (bA (qs d))
 dis:∀ d e b,d<3->e<3->(qv d).ownBlock=some b->(qv e).ownBlock=some b->d=e
 lB:w.ownsRow 0 144 1 pv rs.length (fy (dz rs))
 rB:∀ x∈rs,oO w x
 nd:rs.Pairwise fun x y=>x.P≠y.P/\x.R≠y.R/\x.p.id≠y.p.id
theorem bN.sort {w:World}{S Q:Nat}{s:Sd}{pv:Value}{rec:ByteArray}{now last:Int}{qv:Nat->Value}{qs:Nat->List aj}{rs:List Rs}(h:bN w S Q s pv rec now last qv qs rs){k:Nat}(hk:de S Q pv qv rs k):
  ∃ c t,w.heap[k]?=some (.cells c t (0,0))/\(t=60\/t=99\/t=87\/t=144\/t=147\/t=3):=by
 rcases hk with rfl|rfl|⟨d,hd,hk⟩|hk|⟨x,hx,rfl|rfl⟩
 .exact⟨_,_,h.sB,.inl rfl⟩
 .exact⟨_,_,h.qB,.inr (.inl rfl)⟩
 .obtain⟨c,hc⟩:=ax (h.oB d hd) hk;exact⟨_,_,hc,.inr (.inr (.inl rfl))⟩
 .obtain⟨c,hc⟩:=ax h.lB hk;exact⟨_,_,hc,.inr (.inr (.inr (.inl rfl)))⟩
 .exact⟨_,_,(h.rB x hx).1,.inr (.inr (.inr (.inr (.inl rfl))))⟩
 .exact⟨_,_,(h.rB x hx).2.1,.inr (.inr (.inr (.inr (.inr rfl))))⟩
theorem bN.lt {w:World}{S Q:Nat}{s:Sd}{pv:Value}{rec:ByteArray}{now last:Int}{qv:Nat->Value}{qs:Nat->List aj}{rs:List Rs}(h:bN w S Q s pv rec now last qv qs rs){k:Nat}(hk:de S Q pv qv rs k):k<w.heap.size:=by
 obtain⟨c,t,hc,_⟩:=h.sort hk;exact ak hc
theorem bN.keep {w w':World}{S Q:Nat}{s:Sd}{pv:Value}{rec:ByteArray}{now last:Int}{qv:Nat->Value}{qs:Nat->List aj}{rs:List Rs}(h:bN w S Q s pv rec now last qv qs rs)(hk:∀ k,de S Q pv qv rs k->w'.heap[k]?=w.heap[k]?):bN w' S Q s pv rec now last qv qs rs:=
 ⟨(hk S (.inl rfl)).trans h.sB,(hk Q (.inr (.inl rfl))).trans h.qB,fun d hd=>aT (h.oB d hd) fun b hb=>hk b (.inr (.inr (.inl ⟨d,hd,hb⟩))),h.dis,aT h.lB fun b hb=>hk b (.inr (.inr (.inr (.inl hb)))),
  fun x hx=>⟨(hk x.P (.inr (.inr (.inr (.inr ⟨x,hx,.inl rfl⟩))))).trans (h.rB x hx).1,(hk x.R (.inr (.inr (.inr (.inr ⟨x,hx,.inr rfl⟩))))).trans (h.rB x hx).2.1,(h.rB x hx).2.2⟩,h.nd⟩
theorem bN.setS {w w':World}{S Q:Nat}{s:Sd}{pv:Value}{rec rec':ByteArray}{now last now' last':Int}{qv:Nat->Value}{qs:Nat->List aj}{rs:List Rs}(h:bN w S Q s pv rec now last qv qs rs)
  (hS:w'.heap[S]?=some (.cells #[.bool s.tx,s.pg,s.code,.int .i64 now',.int .i64 last',pv,.slice (some ⟨Q,0,none⟩) 3 3,.string rec'] 60)) (hk:∀ k,de S Q pv qv rs k->k≠S->w'.heap[k]?=w.heap[k]?):bN w' S Q s pv rec' now' last' qv qs rs:=by
 have ne:∀ {k:Nat} {c:Array Value} {t:TypeId},w.heap[k]?=some (.cells c t (0,0))->t≠60->k≠S:=fun hc ht=>aA hc h.sB ht;refine⟨hS,(hk Q (.inr (.inl rfl)) (ne h.qB (by decide))).trans h.qB,fun d hd=>aT (h.oB d hd) fun b hb=>?_,h.dis,aT h.lB fun b hb=>?_,fun x hx=>⟨?_,?_,(h.rB x hx).2.2⟩,h.nd⟩
 .obtain⟨c,hc⟩:=ax (h.oB d hd) hb;exact hk b (.inr (.inr (.inl ⟨d,hd,hb⟩))) (ne hc (by decide))
 .obtain⟨c,hc⟩:=ax h.lB hb;exact hk b (.inr (.inr (.inr (.inl hb)))) (ne hc (by decide))
 .exact(hk x.P (.inr (.inr (.inr (.inr ⟨x,hx,.inl rfl⟩)))) (ne (h.rB x hx).1 (by decide))).trans (h.rB x hx).1
 .exact(hk x.R (.inr (.inr (.inr (.inr ⟨x,hx,.inr rfl⟩)))) (ne (h.rB x hx).2.1 (by decide))).trans (h.rB x hx).2.1
theorem bN.core {w:World}{S Q:Nat}{s:Sd}{pv:Value}{rec:ByteArray}{now last:Int}{qv:Nat->Value}{qs:Nat->List aj}{rs:List Rs}(h:bN w S Q s pv rec now last qv qs rs){x:Rs}(hx:x∈rs):au w S Q x.P x.R (s.md x.yv x.nv) pv rec now last qv qs x.p:=
 ⟨h.sB,h.qB,h.oB,h.dis,(h.rB x hx).1,(h.rB x hx).2.1,(h.rB x hx).2.2⟩
theorem bN.procs {w:World}{S Q:Nat}{s:Sd}{pv:Value}{rec:ByteArray}{now last:Int}{qv:Nat->Value}{qs:Nat->List aj}{rs:List Rs}(h:bN w S Q s pv rec now last qv qs rs):cj w pv (dz rs):=by
 refine⟨by unfold dz;rw[List.length_map];exact h.lB,fun x hx=>?_⟩;obtain⟨y,hy,rfl⟩:=List.mem_map.mp hx;exact⟨_,(h.rB y hy).1,rfl⟩
theorem yz {rs:List Rs}(h:rs.Pairwise fun x y=>x.P≠y.P/\x.R≠y.R/\x.p.id≠y.p.id){x y:Rs}(hx:x∈rs)(hy:y∈rs):y=x\/(y.P≠x.P/\y.R≠x.R/\y.p.id≠x.p.id):=by
 obtain⟨i,hi,rfl⟩:=List.getElem_of_mem hx;obtain⟨j,hj,rfl⟩:=List.getElem_of_mem hy;rw[List.pairwise_iff_getElem]at h;rcases Nat.lt_trichotomy i j with hij|hij|hij
 .obtain⟨h1,h2,h3⟩:=h i j hi hj hij;exact .inr ⟨h1.symm,h2.symm,h3.symm⟩
 .subst hij;exact .inl rfl
 .exact .inr (h j i hj hi hij)
def mq (rs:List Rs)(x:Rs)(done:Bool):List Rs:=if done then rs.filter (fun y=>y.p.id != x.p.id) else rs.map (fun y=>if y.p.id=x.p.id then x else y)
structure fS (w w':World)(S Q:Nat)(s:Sd)(pv:Value)(rec:ByteArray)(now last:Int)(qv:Nat->Value)(qs:Nat->List aj)(L:List (Nat×Int))(x:Rs)(d:Nat)(q:List aj)(x':Rs)(done:Bool)(v pv':Value):Prop where
 core:au w' S Q x.P x.R (s.md x'.yv x'.nv) pv' rec now last (bL qv d v) (bL qs d q) x'.p
 hP:x'.P=x.P
 hR:x'.R=x.R
 id:x'.p.id=x.p.id
 hv:∀ b,v.ownBlock=some b->(qv d).ownBlock=some b\/w.heap.size<=b
 stay:done=false->pv'=pv
 gone:done=true->w'.ownsRow 0 144 1 pv' (L.filter (fun y=>y.2 != x'.p.id)).length (fy (L.filter (fun y=>y.2 != x'.p.id)))/\∀ b,pv'.ownBlock=some b->w.heap.size<=b
 fr:Fr (il S Q x.P x.R (qv d)) w w'
theorem bN.after {w w':World}{S Q:Nat}{s:Sd}{pv:Value}{rec:ByteArray}{now last:Int}{qv:Nat->Value}{qs:Nat->List aj}{rs:List Rs}{x x':Rs}{d:Nat}{q':List aj}{done:Bool}{v pv':Value}(h:bN w S Q s pv rec now last qv qs rs)(hx:x∈rs)(hd:d<3)
  (ho:fS w w' S Q s pv rec now last qv qs (dz rs) x d q' x' done v pv'):
  bN w' S Q s pv' rec now last (bL qv d v) (bL qs d q') (mq rs x' done)/\Fr (de S Q pv qv rs) w w'/\∀ k,de S Q pv' (bL qv d v) (mq rs x' done) k->de S Q pv qv rs k\/w.heap.size<=k:=by
 obtain⟨hC,hP,hR,A3,hv,B0,A9,hF⟩:=ho;have hc:=h.core hx;have A7:=h.procs.after hc hC A3 hd hF;have A6:Fr (de S Q pv qv rs) w w':=hF.mono fun k _ hk=>by
  rcases hk with rfl|rfl|rfl|rfl|hk
  .exact .inr (.inr (.inr (.inr ⟨x,hx,.inl rfl⟩)))
  .exact .inr (.inl rfl)
  .exact .inr (.inr (.inr (.inr ⟨x,hx,.inr rfl⟩)))
  .exact .inl rfl
  .exact .inr (.inr (.inl ⟨d,hd,hk⟩))
 have hq:∀ k,(∃ e,e<3/\((bL qv d v) e).ownBlock=some k)->de S Q pv qv rs k\/w.heap.size<=k:=by
  rintro k ⟨e,he,hb⟩;by_cases hed:e=d
  .subst hed;rw[ec]at hb;rcases hv k hb with h1|h1
   .exact .inl (.inr (.inr (.inl ⟨e,he,h1⟩)))
   .exact .inr h1
  .rw[eH _ _ hed]at hb;exact .inl (.inr (.inr (.inl ⟨e,he,hb⟩)))
 have A4:∀ y∈rs,y.p.id≠x.p.id->oO w' y:=fun y hy hne=>by
  rcases yz h.nd hx hy with hyx|⟨h1,h2,_⟩
  .exact absurd (by rw[hyx]) hne
  .obtain⟨b1,b2,b3⟩:=h.rB y hy;refine⟨(hF.block y.P (ak b1) ?_).trans b1,(hF.block y.R (ak b2) ?_).trans b2,b3⟩
   .rintro(hk|hk|hk|hk|hk)
    .exact h1 hk
    .exact aA b1 hc.qB (by decide) hk
    .exact aA b1 hc.rB (by decide) hk
    .exact aA b1 hc.sB (by decide) hk
    .obtain⟨c2,A5⟩:=ax (hc.oB d hd) hk;exact aA b1 A5 (by decide) rfl
   .rintro(hk|hk|hk|hk|hk)
    .exact aA b2 hc.pB (by decide) hk
    .exact aA b2 hc.qB (by decide) hk
    .exact h2 hk
    .exact aA b2 hc.sB (by decide) hk
    .obtain⟨c2,A5⟩:=ax (hc.oB d hd) hk;exact aA b2 A5 (by decide) rfl
 cases done with
 | false=>
  obtain rfl:=B0 rfl;have A0:∀ y∈rs,y.p.id=x'.p.id->y=x:=fun y hy hh=>by
   rcases yz h.nd hx hy with hyx|⟨_,_,h3⟩
   .exact hyx
   .exact absurd (hh.trans A3) h3
  have A8:oO w' x':=by
   refine⟨?_,?_,hC.rl⟩
   .rw[hP,hR];exact hC.pB
   .rw[hR];exact hC.rB
  have A1:dz (rs.map fun y=>if y.p.id=x'.p.id then x' else y)=dz rs:=by
   unfold dz;rw[List.map_map];refine List.map_congr_left fun y hy=>?_;simp only[Function.comp];split
   .next hh=>rw[A0 y hy hh,hP,A3]
   .rfl
  have e0:mq rs x' false=rs.map fun y=>if y.p.id=x'.p.id then x' else y:=rfl;rw[e0];refine⟨⟨hC.sB,hC.qB,hC.oB,hC.dis,?_,fun y' hy'=>?_,?_⟩,A6,fun k hk=>?_⟩
  .rw[A1,List.length_map];have:=A7.own;unfold dz at this ⊢;rw[List.length_map]at this;exact this
  .obtain⟨y,hy,rfl⟩:=List.mem_map.mp hy';split
   .exact A8
   .next hh=>exact A4 y hy fun hh2=>hh (hh2.trans A3.symm)
  .rw[List.pairwise_map];refine List.Pairwise.imp_of_mem (fun {y z} hy hz hyz=>?_) h.nd;have e:∀ u∈rs,((if u.p.id=x'.p.id then x' else u).P=u.P)/\((if u.p.id=x'.p.id then x' else u).R=u.R)/\((if u.p.id=x'.p.id then x' else u).p.id=u.p.id):=fun u hu=>by
    split
    .next hh=>rw[A0 u hu hh];exact⟨hP,hR,A3⟩
    .exact⟨rfl,rfl,rfl⟩
   rw[(e y hy).1,(e y hy).2.1,(e y hy).2.2,(e z hz).1,(e z hz).2.1,(e z hz).2.2];exact hyz
  .rcases hk with rfl|rfl|hk|hk|⟨y',hy',hk⟩
   .exact .inl (.inl rfl)
   .exact .inl (.inr (.inl rfl))
   .exact hq k hk
   .exact .inl (.inr (.inr (.inr (.inl hk))))
   .obtain⟨y,hy,rfl⟩:=List.mem_map.mp hy';left;refine .inr (.inr (.inr (.inr ⟨y,hy,?_⟩)));by_cases hh:y.p.id=x'.p.id
    .rw[if_pos hh,hP,hR,<- A0 y hy hh]at hk;exact hk
    .rw[if_neg hh]at hk;exact hk
 | true=>
  have hl:=A9 rfl;have A1:(dz rs).filter (fun y=>y.2 != x'.p.id)=dz (rs.filter fun y=>y.p.id != x'.p.id):=by
   unfold dz;rw[List.filter_map];rfl
  rw[A1]at hl;have e0:mq rs x' true=rs.filter fun y=>y.p.id != x'.p.id:=rfl;rw[e0];have A2:∀ y∈rs.filter (fun y=>y.p.id != x'.p.id),y∈rs/\y.p.id≠x.p.id:=fun y hy=>by
   obtain⟨h1,h2⟩:=List.mem_filter.mp hy;exact⟨h1,fun hh=>by simp[hh,A3]at h2⟩
  refine⟨⟨hC.sB,hC.qB,hC.oB,hC.dis,?_,fun y hy=>A4 y (A2 y hy).1 (A2 y hy).2,h.nd.filter _⟩,A6,fun k hk=>?_⟩
  .have:=hl.1;unfold dz at this ⊢;rw[List.length_map]at this;exact this
  .rcases hk with rfl|rfl|hk|hk|⟨y,hy,hk⟩
   .exact .inl (.inl rfl)
   .exact .inl (.inr (.inl rfl))
   .exact hq k hk
   .exact .inr (hl.2 k hk)
   .exact .inl (.inr (.inr (.inr (.inr ⟨y,(A2 y hy).1,hk⟩))))
def iL (o:Option (Nat×Int)):Value:=.pointer (o.map fun x=>⟨x.1,0,none⟩)
theorem xZ (S:Nat)(pv:Value)(L:List (Nat×Int))(id:Int)(w:World)(h5:w.cell? ⟨S,5,none⟩=some pv)(hP:cj w pv L)(hl:L.length<=1000):
  Calls prog 73 #[.pointer (some ⟨S,0,none⟩),.int .i64 id] w fun e w'=>e=.returned (iL (L.find? fun x=>x.2==id))/\aG w w':=by
 obtain⟨a,A2,hv⟩:=bD hP.own;subst hv;have HO:Hid (w.ownsRow 0 144 1 (.slice a L.length A2) L.length (fy L)):=hP.own;have HI:Hid (∀ x∈L,w.cell? ⟨x.1,0,none⟩=some (.int .i64 x.2)):=fun x hx=>by
  obtain⟨cs,h1,h2⟩:=hP.ids x hx;exact(ag h1).trans h2
 clear hP;generalize hR:iL (L.find? fun x=>x.2==id)=RR;have HR:=ah hR;clear hR;go_enter func73,ntmps73
 go_wp2_with fail
 go_loopw [5] (fun i wr=>∃ k:Nat,k<=L.length/\i=.int .i64 k/\Hid (aG w wr)/\Hid (∀ x∈L.take k,¬ x.2=id)) (fun i _=>L.length - (intOf i).toNat)
 case atStart=>exact⟨0,Qa _,rfl,aG.refl _,fun x hx=>absurd hx (by simp)⟩
 case round=>
  obtain⟨k,hk,rfl,HS,HT⟩:=hrel;rw[<- HS.out.cell]at h5;by_cases hlt:k<L.length
  .obtain⟨g,A3,hv,_,A4⟩:=HO.form (by omega);simp at hv;obtain⟨rfl,rfl⟩:=hv;have e0:w.cell? ⟨g,k,none⟩=some (.pointer (some ⟨L[k].1,0,none⟩)):=mi HO rfl (by unfold fy;simp[hlt]);have e1:=HI L[k] (Qb hlt);rw[<- HS.out.cell]at e0 e1;have A0:Hid (L[k].2=id->.pointer (some ⟨L[k].1,0,none⟩)=RR):=fun h=>by
    rw[<- HR,Ey L id k hlt HT h];rfl
   have A1:Hid (¬ L[k].2=id->∀ x∈L.take (k+1),¬ x.2=id):=fun h x hx=>by
    rw[Qd hlt]at hx;rcases List.mem_append.mp hx with hx|hx
    .exact HT x hx
    .simp at hx;rw[hx];exact h
   clear A4;generalize L[k]=x at *;obtain⟨x1,x2⟩:=x;dsimp only at e0 e1;by_cases hr:x2=id
   .have b1:(x2==id)=true:=by simpa using hr
    have HY:Hid (_=_):=A0 hr;clear hr A0 A1;go_wp2_with fail
    go_ret;rw[<- HY];exact⟨rfl,HS.out⟩
   .have b1:(x2==id)=false:=by simpa using hr
    have HN:Hid (∀ x∈L.take (k+1),¬ x.2=id):=A1 hr;clear hr A0 A1;go_wp2_with fail
    go_roundw;case rel=>exact⟨k+1,by omega,by go_num,HS,HN⟩
    case measure=>simp[intOf];omega
  .have HE:Hid (.pointer none=RR):=by
    show _=_;have h:=HT.out;rw[Qe (by omega)]at h;rw[<- HR,List.find?_eq_none.mpr (fun x hx=>by simpa using h x hx)];rfl
   go_wp2_with fail
   go_ret;rw[<- HE];exact⟨rfl,HS.out⟩
theorem GN (S:Nat)(pv:Value)(L:List (Nat×Int))(en:Int)(w:World)(h5:w.cell? ⟨S,5,none⟩=some pv)(hO:w.ownsRow 0 144 1 pv L.length (fy L))(hI:∀ x∈L,w.cell? ⟨x.1,3,none⟩=some (.int .i64 x.2))(hl:L.length<=1000):
  Calls prog 70 #[.pointer (some ⟨S,0,none⟩),.int .i64 en] w fun e w'=>e=.returned (iL (ju en L))/\aG w w':=by
 obtain⟨a,A2,hv⟩:=bD hO;subst hv;have HO:=ah hO;have HI:=ah hI;clear hO hI;generalize hR:ju en L=RR;have HR:=ah hR;clear hR;go_enter func70,ntmps70
 go_wp2_with fail
 go_loopw [5,6] (fun best i wr=>∃ (k:Nat) (o:Option (Nat×Int)),k<=L.length/\i=.int .i64 k/\best=iL o/\Hid (aG w wr)/\Hid (ju en (L.take k)=o)/\Hid (∀ b,o=some b->b∈L)) (fun _ i _=>L.length - (intOf i).toNat)
 case atStart=>exact⟨0,none,Qa _,rfl,rfl,aG.refl _,rfl,fun b hb=>by cases hb⟩
 case round=>
  obtain⟨k,o,hk,rfl,rfl,HS,HT,HM⟩:=hrel;rw[<- HS.out.cell]at h5;by_cases hlt:k<L.length
  .obtain⟨g,A0,hv,_,A1⟩:=HO.form (by omega);simp at hv;obtain⟨rfl,rfl⟩:=hv;have e0:w.cell? ⟨g,k,none⟩=some (.pointer (some ⟨L[k].1,0,none⟩)):=mi HO rfl (by unfold fy;simp[hlt]);have e1:=HI L[k] (Qb hlt);rw[<- HS.out.cell]at e0 e1;have HN:Hid (ju en (L.take (k+1))=lf en o L[k]):=by show _=_;rw[Df hlt,HT]
   have HX:Hid (∀ b,(some L[k]:Option (Nat×Int))=some b->b∈L):=fun b hb=>by cases hb;exact Qb hlt
   clear A1;generalize L[k]=x at *;obtain⟨x1,x2⟩:=x;dsimp only at e0 e1;by_cases hle:x2<=en
   .cases o with
    | none=>
     have HE:Hid (ju en (L.take (k+1))=some (x1,x2)):=by show _=_;rw[HN];unfold lf;rw[if_pos hle]
     unfold iL;simp only[Option.map];go_wp2_with fail
     go_region;all_goals
      go_wp2_with fail
      go_roundw;case rel=>exact⟨k+1,some (x1,x2),by omega,by go_num,rfl,HS.out.drew,HE,HX⟩
      case measure=>simp[intOf];omega
    | some b=>
     obtain⟨b1,b2⟩:=b;have f1:=HI (b1,b2) (HM _ rfl);dsimp only at f1;rw[<- HS.out.cell]at f1;unfold iL;simp only[Option.map];by_cases hbt:x2<b2
     .have HE:Hid (ju en (L.take (k+1))=some (x1,x2)):=by show _=_;rw[HN];unfold lf;rw[if_pos hle];exact if_pos hbt
      go_wp2_with fail
      go_region;all_goals
       go_wp2_with fail
       go_roundw;case rel=>exact⟨k+1,some (x1,x2),by omega,by go_num,rfl,HS.out.drew,HE,HX⟩
       case measure=>simp[intOf];omega
     .have HE:Hid (ju en (L.take (k+1))=some (b1,b2)):=by show _=_;rw[HN];unfold lf;rw[if_pos hle];exact if_neg hbt
      go_wp2_with fail
      go_region;all_goals
       go_wp2_with fail
       go_roundw;case rel=>exact⟨k+1,some (b1,b2),by omega,by go_num,rfl,HS.out.drew,HE,HM⟩
       case measure=>simp[intOf];omega
   .have HE:Hid (ju en (L.take (k+1))=o):=by show _=_;rw[HN];unfold lf;rw[if_neg hle]
    have A3:decide (x2<=en)=false:=by simpa using hle
    clear hle;cases o with
    | none=>
     unfold iL;simp only[Option.map];go_wp2_with fail
     go_region;all_goals
      go_wp2_with fail
      go_roundw;case rel=>exact⟨k+1,none,by omega,by go_num,rfl,HS.out.drew,HE,HM⟩
      case measure=>simp[intOf];omega
    | some b=>
     unfold iL;simp only[Option.map];go_wp2_with fail
     go_region;all_goals
      go_wp2_with fail
      go_roundw;case rel=>exact⟨k+1,some b,by omega,by go_num,rfl,HS.out.drew,HE,HM⟩
      case measure=>simp[intOf];omega
  .have HE:Hid (o=RR):=by
    show _=_;rw[<- HT,<- HR,Qe (by omega)]
   go_wp2_with fail
   go_ret;rw[<- HE];exact⟨rfl,HS.out⟩
end Go.Proofs.YtmmmnghiegajmaaGreat
namespace Go.Proofs.Herald
def cT (t:ByteArray){T:Type}(sub:T->Nat->Nat->List am)(x:Hd×T×T)(rep base:Nat):List am:=
 if ao t x.1.p=eA then [⟨1,x.1.key,0,0⟩]
 else if ao t x.1.p=eJ then [⟨2,x.1.n,0,0⟩]
 else if ao t x.1.p=eX then [⟨0,0,0,0⟩]
 else if ao t x.1.p=dV then
  ⟨3,x.1.key,x.1.n,((base+2+(sub x.2.1 rep (base+1)).length:Nat):Int)⟩::(sub x.2.1 rep (base+1) ++
   ⟨8,0,0,((base+2+(sub x.2.1 rep (base+1)).length+(sub x.2.2 rep (base+2+(sub x.2.1 rep (base+1)).length)).length:Nat):Int)⟩::sub x.2.2 rep (base+2+(sub x.2.1 rep (base+1)).length))
 else if ao t x.1.p=dL then
  ⟨4,4,x.1.m,0⟩::⟨4,5,x.1.n,0⟩::⟨6,x.1.key,5,((base+6+(sub x.2.2 rep (base+5)).length:Nat):Int)⟩::⟨5,5,0,0⟩::⟨7,4,0,((base+2:Nat):Int)⟩::(sub x.2.2 rep (base+5) ++
   ⟨8,0,0,((base+6+(sub x.2.2 rep (base+5)).length+(sub x.2.1 rep (base+6+(sub x.2.2 rep (base+5)).length)).length:Nat):Int)⟩::sub x.2.1 rep (base+6+(sub x.2.2 rep (base+5)).length))
 else if ao t x.1.p=ch then
  ⟨4,(rep:Nat),x.1.n,0⟩::(sub x.2.1 (rep+1) (base+1)++[⟨7,(rep:Nat),0,((base+1:Nat):Int)⟩])
 else []
def ez (t:ByteArray){T:Type}(sub:T->Nat->Nat->List am):List (Hd×T×T)->Nat->Nat->List am
 | [],_,_=>[]
 | x::r,rep,base=>cT t sub x rep base++ez t sub r rep (base+(cT t sub x rep base).length)
def bh (t:ByteArray):(d:Nat)->af d->Nat->Nat->List am
 | 0,_,_,_=>[]
 | d+1,l,rep,base=>ez t (bh t d) l rep base
theorem Da (t:ByteArray)(d rep base:Nat):bh t d (cm d) rep base=[]:=by cases d <;> rfl
theorem pX {t:ByteArray}{T:Type}(sub:T->Nat->Nat->List am)(x:Hd×T×T)(rep base:Nat)(h:ao t x.1.p=eA):cT t sub x rep base=[⟨1,x.1.key,0,0⟩]:=by
 unfold cT;rw[h];rfl
theorem pZ {t:ByteArray}{T:Type}(sub:T->Nat->Nat->List am)(x:Hd×T×T)(rep base:Nat)(h:ao t x.1.p=eJ):cT t sub x rep base=[⟨2,x.1.n,0,0⟩]:=by
 unfold cT;rw[h];rfl
theorem pY {t:ByteArray}{T:Type}(sub:T->Nat->Nat->List am)(x:Hd×T×T)(rep base:Nat)(h:ao t x.1.p=eX):cT t sub x rep base=[⟨0,0,0,0⟩]:=by
 unfold cT;rw[h];rfl
theorem qz {t:ByteArray}{T:Type}(sub:T->Nat->Nat->List am)(x:Hd×T×T)(rep base:Nat)(h:ao t x.1.p=dV):cT t sub x rep base =
  ⟨3,x.1.key,x.1.n,((base+2+(sub x.2.1 rep (base+1)).length:Nat):Int)⟩::(sub x.2.1 rep (base+1) ++
   ⟨8,0,0,((base+2+(sub x.2.1 rep (base+1)).length+(sub x.2.2 rep (base+2+(sub x.2.1 rep (base+1)).length)).length:Nat):Int)⟩::sub x.2.2 rep (base+2+(sub x.2.1 rep (base+1)).length)):=by
 unfold cT;rw[h];rfl
theorem mO {t:ByteArray}{T:Type}(sub:T->Nat->Nat->List am)(x:Hd×T×T)(rep base:Nat)(h:ao t x.1.p=dL):cT t sub x rep base =
  ⟨4,4,x.1.m,0⟩::⟨4,5,x.1.n,0⟩::⟨6,x.1.key,5,((base+6+(sub x.2.2 rep (base+5)).length:Nat):Int)⟩::⟨5,5,0,0⟩::⟨7,4,0,((base+2:Nat):Int)⟩::(sub x.2.2 rep (base+5) ++
   ⟨8,0,0,((base+6+(sub x.2.2 rep (base+5)).length+(sub x.2.1 rep (base+6+(sub x.2.2 rep (base+5)).length)).length:Nat):Int)⟩::sub x.2.1 rep (base+6+(sub x.2.2 rep (base+5)).length)):=by
 unfold cT;rw[h];rfl
theorem oA {t:ByteArray}{T:Type}(sub:T->Nat->Nat->List am)(x:Hd×T×T)(rep base:Nat)(h:ao t x.1.p=ch):cT t sub x rep base =
  ⟨4,(rep:Nat),x.1.n,0⟩::(sub x.2.1 (rep+1) (base+1)++[⟨7,(rep:Nat),0,((base+1:Nat):Int)⟩]):=by
 unfold cT;rw[h];rfl
theorem GL.codeLen {t:ByteArray}{d:Nat}(hs:∀ ws x rep base,GT t d ws x->(bh t d x rep base).length<=ws.length):∀ (l:List (Hd×af d×af d)) (ws:List (Nat×Nat)) (rep base:Nat),GL t (GT t d) (cm d) ws l->(ez t (bh t d) l rep base).length<=ws.length:=by
 intro l;induction l with
 | nil=>intro ws rep base _;simp[ez]
 | cons x r ih=>
  intro ws rep base h;rw[GL]at h;obtain⟨wo,wb,wr,f,rfl,hh,_,hr,hb⟩:=h;have h1:=ih wr rep (base+(cT t (bh t d) x rep base).length) hr;have h2:(cT t (bh t d) x rep base).length<=wo.length+wb.length:=by
   have e0:=Da t d;rcases hh with ⟨p,q,rfl,rfl,hk,hx⟩|⟨p,q,rfl,rfl,hk,hx⟩|⟨p,rfl,rfl,hk,hx⟩|⟨p,q,u,rfl,rfl,hk,hx⟩|⟨p,q,u,v,rfl,rfl,hk,hx⟩|⟨p,q,rfl,rfl,hk,hx⟩
   .rw[pX _ _ _ _ (by rw[hx];exact hk)];simp;omega
   .rw[pZ _ _ _ _ (by rw[hx];exact hk)];simp;omega
   .rw[pY _ _ _ _ (by rw[hx];exact hk)];simp
   .rw[qz _ _ _ _ (by rw[hx];exact hk)];rcases hb with ⟨h0,_⟩|⟨o,wa,c,_,rfl,_,_,ha,e2,_⟩|⟨o,wa,c,e,o2,wa2,c2,_,rfl,_,_,_,_,_,ha,ha2⟩
    .omega
    .have:=hs _ _ rep (base+1) ha;rw[e2,e0];simp;omega
    .have:=hs _ _ rep (base+1) ha;have:=hs _ _ rep (base+2+(bh t d x.2.1 rep (base+1)).length) ha2;simp;omega
   .rw[mO _ _ _ _ (by rw[hx];exact hk)];rcases hb with ⟨h0,_⟩|⟨o,wa,c,_,rfl,_,_,ha,e2,_⟩|⟨o,wa,c,e,o2,wa2,c2,_,rfl,_,_,_,_,_,ha,ha2⟩
    .omega
    .have:=hs _ _ rep (base+6) ha;rw[e2,e0];simp;omega
    .have:=hs _ _ rep (base+5) ha2;have:=hs _ _ rep (base+6+(bh t d x.2.2 rep (base+5)).length) ha;simp;omega
   .rw[oA _ _ _ _ (by rw[hx];exact hk)];rcases hb with ⟨h0,_⟩|⟨o,wa,c,_,rfl,_,_,ha,e2,_⟩|⟨o,wa,c,e,o2,wa2,c2,h0,rfl,_,_,_,_,_,ha,ha2⟩
    .omega
    .have:=hs _ _ (rep+1) (base+1) ha;simp;omega
    .omega
  rw[ez,List.length_append];simp only[List.length_append];omega
theorem GT.codeLen {t:ByteArray}:∀ (d:Nat) (ws:List (Nat×Nat)) (x:af d) (rep base:Nat),GT t d ws x->(bh t d x rep base).length<=ws.length:=by
 intro d;induction d with
 | zero=>intro ws x rep base _;exact Qa _
 | succ d ih=>intro ws x rep base h;exact GL.codeLen (fun ws x rep base=>ih ws x rep base) x.list ws rep base h
def mV (t:ByteArray):(d:Nat)->af d->Prop
 | 0,_=>True
 | d+1,l=>∀ x:Hd×af d×af d,x∈l.list->(0<=x.1.key/\x.1.key<=7)/\mV t d x.2.1/\mV t d x.2.2
def bj (l:List Nd):Prop:=∀ x∈l,0<=x.key/\x.key<=7
theorem bj.tree {t:ByteArray}:∀ (d:Nat) (tr:af d),bj (cE t d tr)->mV t d tr:=by
 intro d;induction d with
 | zero=>intro tr _;trivial
 | succ d ih=>
  intro tr h x hx;have hm:∀ y,y∈ei t x.1 (cE t d x.2.1).length (cE t d x.2.2).length::(cE t d x.2.1++cE t d x.2.2)->0<=y.key/\y.key<=7:=fun y hy=>h y (List.mem_flatMap.mpr ⟨x,hx,hy⟩);refine⟨hm _ List.mem_cons_self,ih _ fun y hy=>hm y ?_,ih _ fun y hy=>hm y ?_⟩
  .exact Qf _ (List.mem_append.mpr (Or.inl hy))
  .exact Qf _ (List.mem_append.mpr (Or.inr hy))
theorem DT (l:List UInt8):0<=kV l/\kV l<=7:=by
 have:=Cb l;unfold kV;split <;> omega
theorem bj.set {l:List Nd}(h:bj l)(i n:Nat):bj (cH l i n)/\bj (gQ l i n):=by
 constructor;all_goals
  intro x hx;simp only[cH,gQ]at hx;rw[List.mem_iff_getElem?]at hx;obtain⟨j,hj⟩:=hx;rw[List.getElem?_modify]at hj;cases hl:l[j]? with
  | none=>rw[hl]at hj;simp at hj
  | some y=>
   rw[hl]at hj;have hy:=h y (List.mem_of_getElem? hl);by_cases hij:i=j;iterate 2
    .simp[hij]at hj;subst hj;exact hy
theorem bj.same {a b:aD}(h:bj a.fl)(k:br a b):bj b.fl:=by rw[k.fl];exact h
theorem ot (t:ByteArray)(blk:aD->Bool×aD)(hb:∀ st,bj st.fl->bj (blk st).2.fl)(st:aD)(h:bj st.fl):bj (cJ t blk st).2.2.fl:=by
 unfold cJ;split
 .exact h
 .have h1:bj (if 4<=st.deep then cz st 4 (bz t st.us:Nat) else st).fl:=by
   split
   .exact h.same (br.note _ _ _)
   .exact h
  dsimp only;generalize (if 4<=st.deep then cz st 4 (bz t st.us:Nat) else st)=s1 at h1 ⊢;split;iterate 2
   .exact hb (aL {s1 with deep:=s1.deep+1}) h1
theorem tE (t:ByteArray)(blk:aD->Bool×aD)(hb:∀ st,bj st.fl->bj (blk st).2.fl)(st:aD)(h:bj st.fl):bj (fD t blk st).2.fl:=by
 unfold fD;simp only[];split
 .exact h
 .have h1:bj (dD t (aL st) (cN (bS t st))).2.2.fl:=bj.same (a:=aL st) h (uF _ _ _).1;split
  .have h2:bj (db t (dD t (aL st) (cN (bS t st))).2.2 (cN (bS t st))).2.2.fl:=bj.same h1 (vN _ _ _);split
   .have h3:bj (ft t (db t (dD t (aL st) (cN (bS t st))).2.2 (cN (bS t st))).2.2 (cN (bS t st))).2.2.fl:=bj.same h2 (uE _ _ _);have hk:0<=(db t (dD t (aL st) (cN (bS t st))).2.2 (cN (bS t st))).1/\(db t (dD t (aL st) (cN (bS t st))).2.2 (cN (bS t st))).1<=7:=by
     unfold db;split
     .exact DT _
     .exact⟨by simp,by simp⟩
    split
    .have h4:bj ((ft t (db t (dD t (aL st) (cN (bS t st))).2.2 (cN (bS t st))).2.2 (cN (bS t st))).2.2.fl++[{kind:=cN (bS t st),key:=(db t (dD t (aL st) (cN (bS t st))).2.2 (cN (bS t st))).1,times:=(dD t (aL st) (cN (bS t st))).1,ticks:=(ft t (db t (dD t (aL st) (cN (bS t st))).2.2 (cN (bS t st))).2.2 (cN (bS t st))).1,body:=0,els:=0}]):=by
      intro x hx;rw[List.mem_append,List.mem_singleton]at hx;rcases hx with hx|rfl
      .exact h3 x hx
      .exact hk
     split
     .unfold fY;simp only[];split
      .split
       .exact((ot t blk hb _ (((ot t blk hb _ h4).set _ _).1)).set _ _).2
       .exact((ot t blk hb _ h4).set _ _).1
      .exact ot t blk hb _ h4
     .split
      .unfold gC;simp only[];refine((ot t blk hb _ ?_).set _ _).1;split
       .refine bj.same ?_ (br.note _ _ _);exact h4
       .exact h4
      .exact h4
    .exact h3
   .exact h2
  .exact h1
theorem vO (t:ByteArray)(stm:aD->Bool×aD)(hs:∀ st,bj st.fl->bj (stm st).2.fl)(behind:List UInt8):∀ (f:Nat) (st:aD),bj st.fl->bj (ix t stm behind f st).2.fl:=by
 intro f;induction f with
 | zero=>intro st h;exact h
 | succ f ih=>
  intro st h;rw[ix];split
  .exact h
  .split
   .exact ih _ (hs _ h)
   .exact hs _ h
theorem Cc (t:ByteArray):∀ (n:Nat) (behind:List UInt8) (st:aD),bj st.fl->bj (kK t n behind st).2.fl:=by
 intro n;induction n with
 | zero=>intro behind st h;exact h
 | succ n ih=>intro behind st h;exact vO t _ (fun st h=>tE t _ (fun st h=>ih dh st h) st h) behind _ st h
theorem Dh (t:ByteArray):bj (dZ t).2.fl:=
 vO t _ (fun st h=>tE t _ (fun st h=>Cc t 401 dh st h) st h) [] _ (ja t) (fun x hx=>by simp[ja]at hx)
theorem wB {n lo hi:Int}(h1:lo<=n)(h2:n<=hi):bd n lo hi=true:=by unfold bd;rw[decide_eq_true h1,decide_eq_true h2];rfl
theorem zU (t:ByteArray)(N:Nat):∀ (d:Nat) (tr:af d) (rep base:Nat),aF t d tr->mV t d tr->rep+d<=12->base+(bh t d tr rep base).length<=N->∀ x∈bh t d tr rep base,ct (N:Int) x=true:=by
 intro d;induction d with
 | zero=>intro tr rep base _ _ _ _ x hx;cases hx
 | succ d ih=>
  intro tr rep base hg hk hr hN;have key:∀ (l:List (Hd×af d×af d)) (base:Nat),(∀ x∈l,bt t x.1/\aF t d x.2.1/\aF t d x.2.2)->(∀ x∈l,(0<=x.1.key/\x.1.key<=7)/\mV t d x.2.1/\mV t d x.2.2)->base+(ez t (bh t d) l rep base).length<=N ->
    ∀ x∈ez t (bh t d) l rep base,ct (N:Int) x=true:=by
   intro l;induction l with
   | nil=>intro base _ _ _ x hx;cases hx
   | cons y r ihr=>
    intro base hg hk hN x hx;rw[ez]at hx hN;rw[List.length_append]at hN;rw[List.mem_append]at hx;rcases hx with hx|hx
    .obtain⟨gh,ga,gb⟩:=hg y List.mem_cons_self;obtain⟨⟨k0,k1⟩,ka,kb⟩:=hk y List.mem_cons_self;have A0:base+(cT t (bh t d) y rep base).length<=N:=by omega
     clear hN;rcases gh with ⟨hk,_⟩|⟨hk,h1,h2,_⟩|⟨hk,_⟩|⟨hk,h1,h2,_⟩|⟨hk,h1,h2,h3,h4⟩|⟨hk,h1,h2,_⟩
     .rw[pX _ _ _ _ hk]at hx;simp only[List.mem_singleton]at hx;subst hx;simp[ct,wB k0 k1]
     .rw[pZ _ _ _ _ hk]at hx;simp only[List.mem_singleton]at hx;subst hx;simp[ct,wB h1 h2]
     .rw[pY _ _ _ _ hk]at hx;simp only[List.mem_singleton]at hx;subst hx;simp[ct]
     .rw[qz _ _ _ _ hk]at hx A0;simp only[List.length_cons,List.length_append]at A0;simp only[List.mem_cons,List.mem_append]at hx;rcases hx with rfl|hx|rfl|hx
      .have:=wB (n:=((base+2+(bh t d y.2.1 rep (base+1)).length:Nat):Int)) (lo:=0) (hi:=(N:Int)) (by omega) (by omega);simp only[ct,wB k0 k1,wB h1 h2,this];rfl
      .exact ih _ _ _ ga ka (by omega) (by omega) x hx
      .have:=wB (n:=((base+2+(bh t d y.2.1 rep (base+1)).length+(bh t d y.2.2 rep (base+2+(bh t d y.2.1 rep (base+1)).length)).length:Nat):Int)) (lo:=0) (hi:=(N:Int)) (by omega) (by omega);simp only[ct,this];rfl
      .exact ih _ _ _ gb kb (by omega) (by omega) x hx
     .rw[mO _ _ _ _ hk]at hx A0;simp only[List.length_cons,List.length_append]at A0;simp only[List.mem_cons,List.mem_append]at hx;rcases hx with rfl|rfl|rfl|rfl|rfl|hx|rfl|hx
      .simp only[ct,wB (show(0:Int)<=y.1.m by omega) (show y.1.m<=999 by omega)];rfl
      .simp only[ct,wB (show(0:Int)<=y.1.n by omega) h2];rfl
      .have:=wB (n:=((base+6+(bh t d y.2.2 rep (base+5)).length:Nat):Int)) (lo:=0) (hi:=(N:Int)) (by omega) (by omega);simp only[ct,wB k0 k1,this];rfl
      .rfl
      .have:=wB (n:=((base+2:Nat):Int)) (lo:=0) (hi:=(N:Int)) (by omega) (by omega);simp only[ct,this];rfl
      .exact ih _ _ _ gb kb (by omega) (by omega) x hx
      .have:=wB (n:=((base+6+(bh t d y.2.2 rep (base+5)).length+(bh t d y.2.1 rep (base+6+(bh t d y.2.2 rep (base+5)).length)).length:Nat):Int)) (lo:=0) (hi:=(N:Int)) (by omega) (by omega);simp only[ct,this];rfl
      .exact ih _ _ _ ga ka (by omega) (by omega) x hx
     .rw[oA _ _ _ _ hk]at hx A0;simp only[List.length_cons,List.length_append,List.length_nil]at A0;simp only[List.mem_cons,List.mem_append,List.not_mem_nil,or_false]at hx;have A1:=wB (n:=(rep:Int)) (lo:=0) (hi:=11) (by omega) (by omega);rcases hx with rfl|hx|rfl
      .simp only[ct,A1,wB (show(0:Int)<=y.1.n by omega) (show y.1.n<=999 by omega)];rfl
      .exact ih _ _ _ ga ka (by omega) (by omega) x hx
      .have:=wB (n:=((base+1:Nat):Int)) (lo:=0) (hi:=(N:Int)) (by omega) (by omega);simp only[ct,A1,this];rfl
    .exact ihr _ (fun z hz=>hg z (Qf _ hz)) (fun z hz=>hk z (Qf _ hz)) (by omega) x hx
  exact key tr base hg hk hN
structure bu (t:ByteArray)(tr:af 5):Prop where
 ended:(dZ t).1=true
 fault:(dZ t).2.fault=0
 flat:(dZ t).2.fl=cE t 5 tr
 words:GT t 5 (dC t.data.toList) tr
 good:aF t 5 tr
 keys:mV t 5 tr
 size:bv 5 tr<=400
 deep:fQ t (dC t.data.toList) 0=-1
 short:¬ 100000<cu (bE t 5 tr).1 (bE t 5 tr).2
 heavy:fI t 5 tr 1=-1
def cL (t:ByteArray)(tr:af 5):List am:=bh t 5 tr 0 0
theorem bu.len {t:ByteArray}{tr:af 5}(h:bu t tr)(ht:t.size<=400):(cL t tr).length<=400:=by
 have h1:=GT.codeLen 5 _ tr 0 0 h.words;have h2:=ky t.data.toList;have h3:t.data.toList.length=t.size:=by simp
 unfold cL;omega
theorem bu.sound {t:ByteArray}{tr:af 5}(h:bu t tr)(ht:t.size<=400):em (cL t tr)=true:=by
 have h1:=h.len ht;unfold em;rw[decide_eq_true (by omega),Bool.true_and,List.all_eq_true];intro x hx;exact zU t (cL t tr).length 5 tr 0 0 h.good h.keys (by omega) (by unfold cL;omega) x hx
theorem DF (t:ByteArray)(ht:t.size<=400):∃ r,ti t r/\qE t r/\((∃ tr,bu t tr/\r=(cu (bE t 5 tr).1 (bE t 5 tr).2,0,0))\/r.2.1≠0):=by
 cases h:(dZ t).1 with
 | false=>
  exact⟨(0,2,(bz t (dZ t).2.us:Int)),Or.inl ⟨2,_,yf t ht h,by decide,rfl⟩,Or.inl ⟨h,rfl⟩,Or.inr (by simp)⟩
 | true=>
  obtain⟨e,he,hf,hd,A4,A3⟩:=xM t ht h;have A0:(dZ t).2.fault=(lS e).1:=congrArg Prod.fst he;have A1:(dZ t).2.place=(lS e).2:=congrArg Prod.snd he;obtain⟨f3,f4,f5⟩:=e;cases f3 with
  | some p=>
   refine⟨(0,3,p),Or.inl ⟨3,p,hf,by decide,rfl⟩,Or.inr (Or.inl ⟨h,by rw[A0];show(3:Int)≠0;decide,?_⟩),Or.inr (by simp)⟩;rw[A0,A1];rfl
  | none=>
   cases f4 with
   | some p=>
    refine⟨(0,4,p),Or.inr (Or.inl ⟨p,hf,hd,A4 p rfl,rfl⟩),Or.inr (Or.inl ⟨h,by rw[A0];show(4:Int)≠0;decide,?_⟩),Or.inr (by simp)⟩;rw[A0,A1];rfl
   | none=>
    obtain⟨tr,g1,g2,g3⟩:=A3 rfl;obtain⟨g4,g5,g6⟩:=g3 rfl;have A2:bv 5 tr<=400:=by
     have h1:=GT.size 5 _ tr g1;have h2:=ky t.data.toList;have h3:t.data.toList.length=t.size:=by simp
     omega
    cases f5 with
    | some p=>
     refine⟨(0,5,p),Or.inr (Or.inr ⟨tr,hf,hd,g1,g4,A2,Or.inl ⟨p,g5,g6 p rfl,rfl⟩⟩),Or.inr (Or.inl ⟨h,by rw[A0];show(5:Int)≠0;decide,?_⟩),Or.inr (by simp)⟩;rw[A0,A1];rfl
    | none=>
     have h0:(dZ t).2.fault=0:=by rw[A0];rfl
     by_cases hl:100000<cu (bE t 5 tr).1 (bE t 5 tr).2
     .exact⟨(0,6,0),Or.inr (Or.inr ⟨tr,hf,hd,g1,g4,A2,Or.inr (Or.inl ⟨g5,hl,rfl⟩)⟩),Or.inr (Or.inr ⟨h,h0,tr,g2,g4,A2,Or.inl ⟨hl,rfl⟩⟩),Or.inr (by simp)⟩
     .refine⟨_,Or.inr (Or.inr ⟨tr,hf,hd,g1,g4,A2,Or.inr (Or.inr ⟨g5,hl,rfl⟩)⟩),Or.inr (Or.inr ⟨h,h0,tr,g2,g4,A2,Or.inr ⟨hl,rfl⟩⟩),Or.inl ⟨tr,⟨h,h0,g2,g1,g4,?_,A2,hd,hl,g5⟩,rfl⟩⟩;exact bj.tree 5 tr (by rw[<- g2];exact Dh t)
end Go.Proofs.Herald
namespace Go.Proofs.YtmmmnghiegajmaaGreat
structure aS (B:Nat)(w:World)(R:Nat)(sv:Value)(cs:List am):Prop where
 le:B<=R
 blk:w.heap[R]?=some (.cells #[sv] 164)
 own:w.ownsRow 0 91 4 sv cs.length (aZ cs)
 new:∀ b,sv.ownBlock=some b->B<=b
theorem aS.keep {B:Nat}{w w':World}{R:Nat}{sv:Value}{cs:List am}(h:aS B w R sv cs)(hk:∀ k,k<w.heap.size->w'.heap[k]?=w.heap[k]?):aS B w' R sv cs:=
 ⟨h.le,by rw[hk _ (ak h.blk)];exact h.blk,aT h.own fun b hb=>by obtain⟨A0,hc⟩:=ax h.own hb;exact hk _ (ak hc),h.new⟩
theorem aS.alloc {B:Nat}{w:World}{R:Nat}{sv:Value}{cs:List am}(h:aS B w R sv cs)(o:Obj):aS B (w.alloc o) R sv cs:=h.keep fun _ hk=>q9 _ _ _ hk
theorem aS.push {B:Nat}{w W w1:World}{R g cap:Nat}{sv:Value}{cs:List am}(x:am)(h:aS B w R sv cs)(h0:ae w W)
  (hown1:w1.ownsRow 0 91 4 (.slice (some ⟨g,0,none⟩) (cs.length+1) cap) (cs.length+1) (aZ cs++fo x)) (hgrow:W.grownBy w1 sv.ownBlock) (hat:sv.ownBlock=some g\/g=W.heap.size):
  aS B (w1.setCell ⟨R,0,none⟩ (.slice (some ⟨g,0,none⟩) (cs.length+1) cap)) R (.slice (some ⟨g,0,none⟩) (cs.length+1) cap) (cs++[x]) /\
   Below B w (w1.setCell ⟨R,0,none⟩ (.slice (some ⟨g,0,none⟩) (cs.length+1) cap)):=by
 have hs:=h0.size;have A2:=ak h.blk;have A4:sv.ownBlock≠some R:=fun e=>by obtain⟨A1,hc⟩:=ax h.own e;exact aA hc h.blk (by decide) rfl
 have A0:w1.heap[R]?=w.heap[R]?:=iU h0 hgrow A2 A4;have A5:B<=g:=by
  rcases hat with h1|h1
  .exact h.new _ h1
  .have:=h.le;omega
 have A3:g≠R:=by
  obtain⟨A1,hc⟩:=ax hown1 (k:=g) rfl;exact aA hc (A0.trans h.blk) (by decide)
 refine⟨⟨h.le,?_,?_,?_⟩,?_⟩
 .rw[cG _ (A0.trans h.blk)];rfl
 .have e1:aZ (cs++[x])=aZ cs++fo x:=by rw[kv];simp[aZ]
  rw[e1,List.length_append];exact aT hown1 (fun k hk=>by simp[Value.ownBlock]at hk;subst hk;exact q8 _ _ _ _ A3)
 .intro b hb;simp[Value.ownBlock]at hb;omega
 .have hb:Below B w w1:=⟨hgrow.os.trans h0.os,hgrow.tape.trans h0.tape,hgrow.output.trans h0.output,by have:=nw h0 hgrow;omega,fun k hk=>iU h0 hgrow (by have:=h.le;omega) (fun e=>by have:=h.new _ e;omega)⟩;exact hb.setCell (p:=⟨R,0,none⟩) h.le _
def tj (w w':World):Prop:=∀ (k:Nat) (c:Array Value) (z:Nat×Nat),w.heap[k]?=some (.cells c 190 z)->w'.heap[k]?=some (.cells c 190 z)
theorem Fh (B R:Nat)(sv:Value)(cs:List am)(x:am)(w:World)(h:aS B w R sv cs)(hl:cs.length<=1000):
  Calls prog 132 #[.pointer (some ⟨R,0,none⟩),.agg (fo x).toArray] w fun e w'=>e=.returned (.int .i64 (cs.length:Nat))/\(∃ sv',aS B w' R sv' (cs++[x]))/\Below B w w'/\Hid (tj w w'):=by
 obtain⟨a,A3,rfl⟩:=bD h.own;have A0:fo x=[.int .i64 x.op,.int .i64 x.a,.int .i64 x.b,.int .i64 x.c]:=rfl;rw[A0];have HC:=ah A0;obtain⟨w1,A1⟩:∃ w1,w1=w.alloc (.cells #[.int .i64 x.op,.int .i64 x.a,.int .i64 x.b,.int .i64 x.c] 91):=⟨_,rfl⟩;have h1:aS B w1 R (.slice a cs.length A3) cs:=by rw[A1];exact h.alloc _
 have A2:w1.heap[w.heap.size]?=some (.cells #[.int .i64 x.op,.int .i64 x.a,.int .i64 x.b,.int .i64 x.c] 91):=by rw[A1];exact v8 _ _
 have HW:=ah A1;have A5:Hid (Below B w w1):=by
  show Below B w w1;rw[A1];exact(v7 _ _).alloc (by have:=ak h.blk;have:=h.le;omega) _
 have H1:=ah h1;have m0:w1.cell? ⟨w.heap.size,0,none⟩=some (.int .i64 x.op):=(ag A2).trans rfl;have m1:w1.cell? ⟨w.heap.size,1,none⟩=some (.int .i64 x.a):=(ag A2).trans rfl;have m2:w1.cell? ⟨w.heap.size,2,none⟩=some (.int .i64 x.b):=(ag A2).trans rfl;have m3:w1.cell? ⟨w.heap.size,3,none⟩=some (.int .i64 x.c):=(ag A2).trans rfl;have r0:w1.cell? ⟨R,0,none⟩=some (.slice a cs.length A3):=(ag h1.blk).trans rfl;have y0:w1.frozen? ⟨R,0,none⟩=false:=aC h1.blk;have A7:R<w1.heap.size:=ak h1.blk;have A8:w.heap.size<w1.heap.size:=ak A2;have HK:Hid (tj w w1):=fun k c z hk=>by rw[A1,q9 _ _ _ (ak hk)];exact hk
 have HV:Hid ((Value.slice a cs.length A3).ownBlock≠some R):=fun e=>by obtain⟨A6,hc⟩:=ax H1.own e;exact aA hc H1.blk (by decide) rfl
 clear h h1 A2 A1 A0;go_enter func132,ntmps132
 go_upto_region 1 with fail
 rw[<- HW];clear HW;go_upto_region 2 with fail
 go_region_law (refine oG _ rfl (.tmp 15) (.tmp 17) 29 rfl 91 _ 4 32 underlying29 Tryz.infoInstr rfl (by decide) (by decide) (.slice a cs.length A3) _ _ w1.heap.size [.int .i64 x.op,.int .i64 x.a,.int .i64 x.b,.int .i64 x.c] (by rfl) (by exact H1.own.alloc _) (by exact v8 _ _) (by rfl) rfl (by simp[Value.oneCell']) (by omega) ?_;intro g1 cap1 w2 hown1 hgrow hat hlt;have A9:w2.cell? ⟨R,0,none⟩=some (.slice a cs.length A3):=(ag (cM (ae.alloc _ _).drew hgrow H1.blk HV)).trans rfl;have B0:w2.frozen? ⟨R,0,none⟩=false:=aC (cM (ae.alloc _ _).drew hgrow H1.blk HV))
 all_goals
  go_wp2_with fail
  go_ret;rw[<- HC]at hown1;obtain⟨k1,k2⟩:=H1.push x (ae.alloc _ _).drew hown1 hgrow hat;refine⟨rfl,⟨_,k1⟩,A5.trans k2,?_⟩;intro k c z hk;have A4:=HK k c z hk;rw[q8 _ _ _ _ (aA A4 H1.blk (by decide))];exact cM (ae.alloc _ _).drew hgrow A4 (fun e=>by obtain⟨A6,hc⟩:=ax H1.own e;exact aA hc A4 (by decide) rfl)
theorem jU (B R n:Nat)(sv:Value)(cs:List am)(x:am)(w:World)(h:aS B w R sv cs)(hn:n=cs.length)(hl:n<=1000):
  Calls prog 132 #[.pointer (some ⟨R,0,none⟩),.agg (fo x).toArray] w fun e w'=>e=.returned (.int .i64 (n:Nat))/\(∃ sv',aS B w' R sv' (cs++[x]))/\Below B w w'/\Hid (tj w w'):=by
 rw[hn];exact Fh B R sv cs x w h (by omega)
theorem yN (pre:List am)(x:am)(post:List am)(n:Int):(aZ (pre++x::post)).set (pre.length*4+3) (.int .i64 n)=aZ (pre++{x with c:=n}::post):=by
 have e:∀ y:am,aZ (pre++y::post)=aZ pre++(fo y++aZ post):=fun y=>by rw[kv];simp[aZ]
 rw[e,e,List.set_append_right _ _ (by rw[iS];omega),iS,show pre.length*4+3 - pre.length*4=3 from by omega];rfl
theorem DB {w:World}{B:Nat}{e:TypeId}{size n g cap:Nat}{xs:List Value}(h:w.ownsRow B e size (.slice (some ⟨g,0,none⟩) n cap) n xs)(p:Nat)(v:Value):
  (w.setCell ⟨g,p,none⟩ v).ownsRow B e size (.slice (some ⟨g,0,none⟩) n cap) n (xs.set p v):=by
 refine⟨by rw[List.length_set];exact h.1,.inr ?_⟩;rcases h.2 with ⟨h1,_⟩|⟨g',cap',cur,hv,hb,hg,hn,hm,hs,ht⟩
 .cases h1
 .simp at hv;obtain⟨rfl,rfl⟩:=hv;refine⟨g,cap,cur.setIfInBounds p v,rfl,hb,cG v hg,hn,hm,by simpa using hs,?_⟩;rw[Array.toList_setIfInBounds,List.take_set,ht]
theorem Bu (B R:Nat)(sv:Value)(pre:List am)(x:am)(post:List am)(w:World)(h:aS B w R sv (pre++x::post))(hl:(pre++x::post).length<=2000):
  Calls prog 154 #[.pointer (some ⟨R,0,none⟩),.int .i64 (pre.length:Nat)] w fun e w'=>e=.returned (.tuple #[])/\(∃ sv',aS B w' R sv' (pre++{x with c:=(((pre++x::post).length:Nat):Int)}::post))/\Below B w w':=by
 obtain⟨n,hn⟩:∃ n,n=(pre++x::post).length:=⟨_,rfl⟩;obtain⟨p,hp⟩:∃ p,p=pre.length:=⟨_,rfl⟩;have A4:p<n:=by rw[hn,hp];simp
 have A0:=h.own;rw[<- hn]at A0 hl ⊢;rw[<- hp];obtain⟨g,A2,hv,_,A7⟩:=A0.form (by omega);subst hv;have A3:(aZ (pre++x::post))[p*4+3]?=some (.int .i64 x.c):=by
  rw[lX _ p (by rw[<- hn];exact A4) 3 (by omega)];simp[hp,fo]
 have c0:w.cell? ⟨g,p*4+3,none⟩=some (.int .i64 x.c):=by
  have h1:=A0.cells (g:=g) rfl (p*4+3) _ A3;rwa [Addr.add_lit,Nat.zero_add]at h1
 obtain⟨A5,hc⟩:=ax A0 (k:=g) rfl;have f0:w.frozen? ⟨g,p*4+3,none⟩=false:=aC hc;have A1:=jN A0;obtain⟨q1,_,q3⟩:=A1;unfold maxLen at q3;have r0:w.cell? ⟨R,0,none⟩=some (.slice (some ⟨g,0,none⟩) n A2):=(ag h.blk).trans rfl;have A6:R<w.heap.size:=ak h.blk;have HS:Hid (aS B (w.setCell ⟨g,p*4+3,none⟩ (.int .i64 n)) R (.slice (some ⟨g,0,none⟩) n A2) (pre++{x with c:=(n:Int)}::post)/\Below B w (w.setCell ⟨g,p*4+3,none⟩ (.int .i64 n))):=by
  refine⟨⟨h.le,?_,?_,h.new⟩,(v7 _ _).setCell (p:=⟨g,p*4+3,none⟩) (h.new g rfl) _⟩
  .rw[q8 _ _ _ _ (aA h.blk hc (by decide))];exact h.blk
  .have h1:=DB A0 (p*4+3) (.int .i64 n);rw[hp,yN]at h1;have h2:(pre++{x with c:=(n:Int)}::post).length=n:=by rw[hn];simp
   rw[h2,hp];exact h1
 clear A0 h hn hp A3 hc;go_enter func154,ntmps154
 go_region;all_goals
  go_wp2_with fail
  go_end0;exact⟨rfl,⟨_,HS.out.1.keep fun _ _=>rfl⟩,HS.out.2.drew⟩
theorem qn (B R p n:Nat)(sv:Value)(pre:List am)(x:am)(post:List am)(w:World)(h:aS B w R sv (pre++x::post))(hp:p=pre.length)(hn:n=(pre++x::post).length)(hl:n<=2000):
  Calls prog 154 #[.pointer (some ⟨R,0,none⟩),.int .i64 (p:Nat)] w fun e w'=>e=.returned (.tuple #[])/\(∃ sv',aS B w' R sv' (pre++{x with c:=((n:Nat):Int)}::post))/\Below B w w':=by
 rw[hp,hn];exact Bu B R sv pre x post w h (by omega)
end Go.Proofs.YtmmmnghiegajmaaGreat
namespace Go.Proofs.Herald
structure It where
 d:Nat
 s:Hd×af d×af d
 i:Nat
def bB:(d:Nat)->af d->List It
 | 0,_=>[]
 | d+1,l=>l.list.map fun x=>⟨d,x,0⟩
def lq {T:Type}(t:ByteArray)(sub:T->Nat)(x:Hd×T×T)(i:Nat):Nat:=
 if ao t x.1.p=ch then 1+(x.1.n.toNat - i)*(sub x.2.1+1) else 1+sub x.2.2
def fN (t:ByteArray):(d:Nat)->af d->Nat
 | 0,_=>0
 | d+1,l=>(l.list.map fun x=>lq t (fN t d) x 0).sum
def kt (t:ByteArray)(x:It):Nat:=lq t (fN t x.d) x.s x.i
def dF (t:ByteArray)(l:List It):Nat:=(l.map (kt t)).sum
theorem FO (t:ByteArray):dF t []=0:=rfl
theorem kF (t:ByteArray)(x:It)(l:List It):dF t (x::l)=kt t x+dF t l:=by unfold dF;simp
theorem lz (t:ByteArray)(l m:List It):dF t (l++m)=dF t l+dF t m:=by unfold dF;simp
theorem kH (t:ByteArray)(d:Nat)(x:af d):dF t (bB d x)=fN t d x:=by
 cases d with
 | zero=>rfl
 | succ d=>unfold dF bB fN;rw[List.map_map];rfl
structure TR where
 p:Pr
 yes:List It
 no:List It
def cD (t:ByteArray)(now:Int):Nat->List It->List aj->TR->List aj×TR×Bool
 | 0,_,q,r=>(q,r,true)
 | _+1,[],q,r=>(q,r,true)
 | f+1,x::l,q,r=>
  if ao t x.s.1.p=eA then cD t now f l (aB q r.p x.s.1.key).1 {r with p:=(aB q r.p x.s.1.key).2.1}
  else if ao t x.s.1.p=eJ then (q,{r with p:=dY r.p now x.s.1.n 0,no:=l},false)
  else if ao t x.s.1.p=eX then (q,r,true)
  else if ao t x.s.1.p=dV then
   (if (aB q r.p x.s.1.key).2.2=0 then cD t now f (bB x.d x.s.2.2++l) (aB q r.p x.s.1.key).1 {r with p:=(aB q r.p x.s.1.key).2.1}
    else ((aB q r.p x.s.1.key).1,⟨dY (aB q r.p x.s.1.key).2.1 now x.s.1.n (aB q r.p x.s.1.key).2.2,bB x.d x.s.2.1++l,bB x.d x.s.2.2++l⟩,false))
  else if ao t x.s.1.p=dL then
   (if (x.i:Int)=x.s.1.m then cD t now f (bB x.d x.s.2.2++l) q r
    else ((aB q r.p x.s.1.key).1,⟨dY (aB q r.p x.s.1.key).2.1 now (x.s.1.n*2 ^ x.i) (aB q r.p x.s.1.key).2.2,bB x.d x.s.2.1++l,⟨x.d,x.s,x.i+1⟩::l⟩,false))
  else if ao t x.s.1.p=ch then
   (if (x.i:Int)<x.s.1.n then cD t now f (bB x.d x.s.2.1++⟨x.d,x.s,x.i+1⟩::l) q r
    else cD t now f l q r)
  else (q,r,true)
def lU (t:ByteArray)(now:Int)(yes:Bool)(q:List aj)(r:TR):List aj×TR×Bool:=
 if yes then cD t now (dF t r.yes+1) r.yes q {r with p:={r.p with num:=0}}
 else if 0<r.p.num then cD t now (dF t r.no+1) r.no (dr q r.p.id r.p.num) {r with p:={r.p with num:=0}}
 else cD t now (dF t r.no+1) r.no q {r with p:={r.p with num:=0}}
def cF (p:Pr):Rn:=⟨p.id,p.dev,p.sent,p.til,p.num⟩
def dg (id dev:Int):Pr:=⟨id,dev,0,0,0,List.replicate 12 0,0,0⟩
def mt (cs:List am):bM Pr:=⟨cF,dg,fun now q p=>df now cs 10000 0 q p,fun now yes q p=>iR now cs yes q p⟩
def lO (t:ByteArray)(tr:af 5):bM TR:=
 ⟨fun r=>cF r.p,fun id dev=>⟨dg id dev,[],[]⟩,fun now q r=>cD t now (fN t 5 tr+1) (bB 5 tr) q r,fun now yes q r=>lU t now yes q r⟩
def ip (cs:List am)(b:Nat)(s:List am):Prop:=∀ i x,s[i]?=some x->cs[b+i]?=some x
theorem ip.append {cs:List am}{b:Nat}{s u:List am}(h:ip cs b (s++u)):ip cs b s/\ip cs (b+s.length) u:=by
 refine⟨fun i x hx=>h i x ?_,fun i x hx=>?_⟩
 .rw[List.getElem?_append_left (List.getElem?_eq_some_iff.mp hx).1];exact hx
 .rw[Nat.add_assoc];exact h _ x (by rw[List.getElem?_append_right (Nat.le_add_right _ _),Nat.add_sub_cancel_left];exact hx)
theorem ip.cons {cs:List am}{b:Nat}{y:am}{u:List am}(h:ip cs b (y::u)):cs[b]?=some y/\ip cs (b+1) u:=
 ⟨h 0 y rfl,fun i x hx=>by rw[Nat.add_assoc,Nat.add_comm 1 i];exact h (i+1) x hx⟩
def gM {T:Type}(t:ByteArray)(sub:T->Nat)(x:Hd×T×T)(i:Nat):Nat:=
 if ao t x.1.p=eA then 1
 else if ao t x.1.p=dV\/ao t x.1.p=dL then 1+max (sub x.2.1) (sub x.2.2)
 else if ao t x.1.p=ch then 1+(x.1.n.toNat - i)*(sub x.2.1+1)
 else 1
def cK (t:ByteArray):(d:Nat)->af d->Nat
 | 0,_=>0
 | d+1,l=>(l.list.map fun x=>gM t (cK t d) x 0).sum
def ia (t:ByteArray)(x:It):Nat:=gM t (cK t x.d) x.s x.i
def eN (t:ByteArray)(l:List It):Nat:=(l.map (ia t)).sum
theorem iu (t:ByteArray)(x:It)(l:List It):eN t (x::l)=ia t x+eN t l:=by unfold eN;simp
theorem jY (t:ByteArray)(l m:List It):eN t (l++m)=eN t l+eN t m:=by unfold eN;simp
theorem jD (t:ByteArray)(d:Nat)(x:af d):eN t (bB d x)=cK t d x:=by
 cases d with
 | zero=>rfl
 | succ d=>unfold eN bB cK;rw[List.map_map];rfl
def kP (t:ByteArray):(d:Nat)->af d->Nat->Prop
 | 0,_,_=>True
 | d+1,l,lv=>∀ x:Hd×af d×af d,x∈l.list->bt t x.1/\(ao t x.1.p=ch->lv<4/\kP t d x.2.1 (lv+1))/\(¬ ao t x.1.p=ch->kP t d x.2.1 lv/\kP t d x.2.2 lv)
def qS (t:ByteArray)(d:Nat)(x:Hd×af d×af d)(lv:Nat):Prop:=
 bt t x.1/\(ao t x.1.p=ch->lv<4/\kP t d x.2.1 (lv+1))/\(¬ ao t x.1.p=ch->kP t d x.2.1 lv/\kP t d x.2.2 lv)
def Rp (t:ByteArray)(cs:List am)(g:List Int):Nat->Nat->Nat->Nat->List It->Prop
 | 0,_,_,_,_=>False
 | n+1,j,lv,pc,l=>
  (l=[]/\cs.length<=pc/\lv<=4) \/
  (∃ (j' tgt:Nat),j=j'+1/\cs[pc]?=some ⟨8,0,0,(tgt:Nat)⟩/\Rp t cs g n j' lv tgt l) \/
  (∃ (d:Nat) (r:List (Hd×af d×af d)) (l':List It),ip cs pc (ez t (bh t d) r lv pc)/\kP t (d+1) r lv/\l=bB (d+1) r++l'/\Rp t cs g n j lv (pc+(ez t (bh t d) r lv pc).length) l') \/
  (∃ (d:Nat) (x:Hd×af d×af d) (i rep base:Nat) (l':List It),ao t x.1.p=ch/\lv=rep+1/\ip cs base (cT t (bh t d) x rep base)/\qS t d x rep/\pc=base+1+(bh t d x.2.1 (rep+1) (base+1)).length/\1<=i/\(i:Int)<=x.1.n /\
   g.getD rep 0=x.1.n - i+1/\l=⟨d,x,i⟩::l'/\Rp t cs g n j rep (pc+1) l')
theorem Rp.lv4 {t:ByteArray}{cs:List am}{g:List Int}:∀ {n j lv pc:Nat} {l:List It},Rp t cs g n j lv pc l->lv<=4:=by
 intro n;induction n with
 | zero=>intro j lv pc l h;exact h.elim
 | succ n ih=>
  intro j lv pc l h;rcases h with ⟨_,_,h⟩|⟨j',tgt,_,_,h⟩|⟨d,r,l',_,_,_,h⟩|⟨d,x,i,rep,base,l',hk,rfl,_,hok,_⟩
  .exact h
  .exact ih h
  .exact ih h
  .have:=(hok.2.1 hk).1;omega
theorem Rp.regs {t:ByteArray}{cs:List am}{g g':List Int}:∀ {n j lv pc:Nat} {l:List It},(∀ k,k<lv->g'.getD k 0=g.getD k 0)->Rp t cs g n j lv pc l->Rp t cs g' n j lv pc l:=by
 intro n;induction n with
 | zero=>intro j lv pc l _ h;exact h.elim
 | succ n ih=>
  intro j lv pc l hg h;rcases h with h|⟨j',tgt,h1,h2,h⟩|⟨d,r,l',h1,h2,h3,h⟩|⟨d,x,i,rep,base,l',h1,h2,h3,h4,h5,h6,h7,h8,h9,h⟩
  .exact Or.inl h
  .exact Or.inr (Or.inl ⟨j',tgt,h1,h2,ih hg h⟩)
  .exact Or.inr (Or.inr (Or.inl ⟨d,r,l',h1,h2,h3,ih hg h⟩))
  .exact Or.inr (Or.inr (Or.inr ⟨d,x,i,rep,base,l',h1,h2,h3,h4,h5,h6,h7,(hg rep (by omega)).trans h8,h9,ih (fun k hk=>hg k (by omega)) h⟩))
def tw (t:ByteArray)(cs:List am)(g:List Int)(B lv pc:Nat)(l:List It):Prop:=∃ n j,Rp t cs g n j lv pc l/\eN t l+j<=B
def yx (t:ByteArray)(cs:List am)(g:List Int)(B pc:Nat)(l:List It):Prop:=
 (∃ lv,tw t cs g B lv pc l) \/
 (∃ (d:Nat) (x:Hd×af d×af d) (i lv base n j:Nat) (l':List It),ao t x.1.p=dL/\ip cs base (cT t (bh t d) x lv base)/\qS t d x lv/\pc=base+3/\1<=i/\(i:Int)<=x.1.m /\
  g.getD 4 0=x.1.m - i+1/\g.getD 5 0=x.1.n*2 ^ (i - 1)/\l=⟨d,x,i⟩::l'/\Rp t cs g n j lv (base+(cT t (bh t d) x lv base).length) l'/\eN t l+j<=B)
structure dJ (p r:Pr):Prop where
 id:p.id=r.id
 dev:p.dev=r.dev
 sent:p.sent=r.sent
 til:p.til=r.til
 num:p.num=r.num
theorem dJ.send {p r:Pr}(h:dJ p r)(q:List aj)(key:Int):(aB q p key).1=(aB q r key).1/\(aB q p key).2.2=(aB q r key).2.2/\dJ (aB q p key).2.1 (aB q r key).2.1:=by
 unfold aB;rw[h.dev,h.id,h.sent];split
 .exact⟨rfl,rfl,rfl,rfl,rfl,h.til,h.num⟩
 .exact⟨rfl,rfl,h⟩
structure jh (t:ByteArray)(cs:List am)(B:Nat)(p:Pr)(r:TR):Prop where
 pub:dJ p r.p
 len:p.regs.length=12
 no:∃ e:Nat,p.els=(e:Nat)/\yx t cs p.regs B e r.no
 yes:p.num≠0->∃ (e lv:Nat),p.tow=(e:Nat)/\tw t cs p.regs B lv e r.yes
def sp (us:List (List UInt8)):List UInt8:=us.flatMap (·++[32])
end Go.Proofs.Herald
