import Derived.Test.YtmmmnghiegajmaaGreatM13
import Derived.Test.YtmmmnghiegajmaaGreatM11
namespace Go.Proofs.YtmmmnghiegajmaaGreat
open Go.RowKit Go.Proofs.Herald
theorem ziQ {α:Type}(f:Nat->α)(d:Nat)(a b:α):upd (upd f d a) d b=upd f d b:=by
 funext k
 by_cases h:k=d
 .subst h;rw [zaM,zaM]
 .rw [zaG _ _ h,zaG _ _ h,zaG _ _ h]
theorem ProcsAt.after {w w':World}{S Q P R:Nat}{cv cv':Md}{pv pl pv':Value}{rec rec':ByteArray}{now last now' last':Int}{qv qv':Nat->Value}{qs qs':Nat->List Msg}{p p':Pr}{L:List (Nat×Int)}{d:Nat}(h:ProcsAt w pl L)(hc:SimCore w S Q P R cv pv rec now last qv qs p)(hc':SimCore w' S Q P R cv' pv' rec' now' last' qv' qs' p')(hid:p'.id=p.id)(hd:d<3)(f:Fr (zei S Q P R (qv d)) w w'):ProcsAt w' pl L:=by
 refine ⟨zaj h.own fun b hb=>?_,fun x hx=>?_⟩
 .obtain ⟨c,hb'⟩:=zad h.own hb
  refine f.block b (zae hb') ?_
  rintro (hk|hk|hk|hk|hk)
  .exact zac hb' hc.pB (by decide) hk
  .exact zac hb' hc.qB (by decide) hk
  .exact zac hb' hc.rB (by decide) hk
  .exact zac hb' hc.sB (by decide) hk
  .obtain ⟨c2,hc2⟩:=zad (hc.oB d hd) hk
   exact zac hb' hc2 (by decide) rfl
 .obtain ⟨cs,h1,h2⟩:=h.ids x hx
  by_cases hP:x.1=P
  .refine ⟨_,by rw [hP];exact hc'.pB,?_⟩
   rw [hP,hc.pB] at h1
   cases h1
   rw [hid]
   exact h2
  .refine ⟨cs,(f.block x.1 (zae h1) ?_).trans h1,h2⟩
   rintro (hk|hk|hk|hk|hk)
   .exact hP hk
   .exact zac h1 hc.qB (by decide) hk
   .exact zac h1 hc.rB (by decide) hk
   .exact zac h1 hc.sB (by decide) hk
   .obtain ⟨c2,hc2⟩:=zad (hc.oB d hd) hk
    exact zac h1 hc2 (by decide) rfl
structure Rs where
 P:Nat
 R:Nat
 yv:Value
 nv:Value
 p:Pr
structure Sd where
 tx:Bool
 pg:Value
 code:Value
def Sd.md (s:Sd)(yv nv:Value):Md:=⟨s.tx,s.pg,s.code,yv,nv⟩
def zfx (w:World)(x:Rs):Prop:=
 w.heap[x.P]?=some (.cells #[.int .i64 x.p.id,.int .i64 x.p.dev,.int .i64 x.p.sent,.int .i64 x.p.til,.int .i64 x.p.num,x.yv,x.nv,.slice (some ⟨x.R,0,none⟩) 12 12,.int .i64 x.p.tow,.int .i64 x.p.els] 147 (0,0)) /\
 w.heap[x.R]?=some (.cells (x.p.regs.map fun z=>Value.int .i64 z).toArray 3 (0,0))/\x.p.regs.length=12
def zbN (rs:List Rs):List (Nat×Int):=rs.map fun x=>(x.P,x.p.id)
def zdc (S Q:Nat)(pv:Value)(qv:Nat->Value)(rs:List Rs)(k:Nat):Prop:=
 k=S\/k=Q\/(∃ d,d<3/\(qv d).ownBlock=some k)\/pv.ownBlock=some k\/∃ x∈rs,k=x.P\/k=x.R
structure SimAt (w:World)(S Q:Nat)(s:Sd)(pv:Value)(rec:ByteArray)(now last:Int)(qv:Nat->Value)(qs:Nat->List Msg)(rs:List Rs):Prop where
 sB:w.heap[S]?=some (.cells #[.bool s.tx,s.pg,s.code,.int .i64 now,.int .i64 last,pv,.slice (some ⟨Q,0,none⟩) 3 3,.string rec] 60 (0,0))
 qB:w.heap[Q]?=some (.cells #[qv 0,qv 1,qv 2] 99 (0,0))
 oB:∀ d,d<3->w.ownsRow 0 87 4 (qv d) (qs d).length (zak (qs d))
 dis:∀ d e b,d<3->e<3->(qv d).ownBlock=some b->(qv e).ownBlock=some b->d=e
 lB:w.ownsRow 0 144 1 pv rs.length (zf8 (zbN rs))
 rB:∀ x∈rs,zfx w x
 nd:rs.Pairwise fun x y=>x.P≠y.P/\x.R≠y.R/\x.p.id≠y.p.id
theorem SimAt.sort {w:World}{S Q:Nat}{s:Sd}{pv:Value}{rec:ByteArray}{now last:Int}{qv:Nat->Value}{qs:Nat->List Msg}{rs:List Rs}(h:SimAt w S Q s pv rec now last qv qs rs){k:Nat}(hk:zdc S Q pv qv rs k):
  ∃ c t,w.heap[k]?=some (.cells c t (0,0))/\(t=60\/t=99\/t=87\/t=144\/t=147\/t=3):=by
 rcases hk with rfl|rfl|⟨d,hd,hk⟩|hk|⟨x,hx,rfl|rfl⟩
 .exact ⟨_,_,h.sB,.inl rfl⟩
 .exact ⟨_,_,h.qB,.inr (.inl rfl)⟩
 .obtain ⟨c,hc⟩:=zad (h.oB d hd) hk
  exact ⟨_,_,hc,.inr (.inr (.inl rfl))⟩
 .obtain ⟨c,hc⟩:=zad h.lB hk
  exact ⟨_,_,hc,.inr (.inr (.inr (.inl rfl)))⟩
 .exact ⟨_,_,(h.rB x hx).1,.inr (.inr (.inr (.inr (.inl rfl))))⟩
 .exact ⟨_,_,(h.rB x hx).2.1,.inr (.inr (.inr (.inr (.inr rfl))))⟩
theorem SimAt.lt {w:World}{S Q:Nat}{s:Sd}{pv:Value}{rec:ByteArray}{now last:Int}{qv:Nat->Value}{qs:Nat->List Msg}{rs:List Rs}(h:SimAt w S Q s pv rec now last qv qs rs){k:Nat}(hk:zdc S Q pv qv rs k):k<w.heap.size:=by
 obtain ⟨c,t,hc,_⟩:=h.sort hk
 exact zae hc
theorem SimAt.keep {w w':World}{S Q:Nat}{s:Sd}{pv:Value}{rec:ByteArray}{now last:Int}{qv:Nat->Value}{qs:Nat->List Msg}{rs:List Rs}(h:SimAt w S Q s pv rec now last qv qs rs)(hk:∀ k,zdc S Q pv qv rs k->w'.heap[k]?=w.heap[k]?):SimAt w' S Q s pv rec now last qv qs rs:=
 ⟨(hk S (.inl rfl)).trans h.sB,(hk Q (.inr (.inl rfl))).trans h.qB,fun d hd=>zaj (h.oB d hd) fun b hb=>hk b (.inr (.inr (.inl ⟨d,hd,hb⟩))),h.dis,zaj h.lB fun b hb=>hk b (.inr (.inr (.inr (.inl hb)))),
  fun x hx=>⟨(hk x.P (.inr (.inr (.inr (.inr ⟨x,hx,.inl rfl⟩))))).trans (h.rB x hx).1,(hk x.R (.inr (.inr (.inr (.inr ⟨x,hx,.inr rfl⟩))))).trans (h.rB x hx).2.1,(h.rB x hx).2.2⟩,h.nd⟩
theorem SimAt.setS {w w':World}{S Q:Nat}{s:Sd}{pv:Value}{rec rec':ByteArray}{now last now' last':Int}{qv:Nat->Value}{qs:Nat->List Msg}{rs:List Rs}(h:SimAt w S Q s pv rec now last qv qs rs)
  (hS:w'.heap[S]?=some (.cells #[.bool s.tx,s.pg,s.code,.int .i64 now',.int .i64 last',pv,.slice (some ⟨Q,0,none⟩) 3 3,.string rec'] 60 (0,0))) (hk:∀ k,zdc S Q pv qv rs k->k≠S->w'.heap[k]?=w.heap[k]?):SimAt w' S Q s pv rec' now' last' qv qs rs:=by
 have ne:∀ {k:Nat} {c:Array Value} {t:TypeId},w.heap[k]?=some (.cells c t (0,0))->t≠60->k≠S:=fun hc ht=>zac hc h.sB ht
 refine ⟨hS,(hk Q (.inr (.inl rfl)) (ne h.qB (by decide))).trans h.qB,fun d hd=>zaj (h.oB d hd) fun b hb=>?_,h.dis,zaj h.lB fun b hb=>?_,fun x hx=>⟨?_,?_,(h.rB x hx).2.2⟩,h.nd⟩
 .obtain ⟨c,hc⟩:=zad (h.oB d hd) hb
  exact hk b (.inr (.inr (.inl ⟨d,hd,hb⟩))) (ne hc (by decide))
 .obtain ⟨c,hc⟩:=zad h.lB hb
  exact hk b (.inr (.inr (.inr (.inl hb)))) (ne hc (by decide))
 .exact (hk x.P (.inr (.inr (.inr (.inr ⟨x,hx,.inl rfl⟩)))) (ne (h.rB x hx).1 (by decide))).trans (h.rB x hx).1
 .exact (hk x.R (.inr (.inr (.inr (.inr ⟨x,hx,.inr rfl⟩)))) (ne (h.rB x hx).2.1 (by decide))).trans (h.rB x hx).2.1
theorem SimAt.core {w:World}{S Q:Nat}{s:Sd}{pv:Value}{rec:ByteArray}{now last:Int}{qv:Nat->Value}{qs:Nat->List Msg}{rs:List Rs}(h:SimAt w S Q s pv rec now last qv qs rs){x:Rs}(hx:x∈rs):SimCore w S Q x.P x.R (s.md x.yv x.nv) pv rec now last qv qs x.p:=
 ⟨h.sB,h.qB,h.oB,h.dis,(h.rB x hx).1,(h.rB x hx).2.1,(h.rB x hx).2.2⟩
theorem SimAt.procs {w:World}{S Q:Nat}{s:Sd}{pv:Value}{rec:ByteArray}{now last:Int}{qv:Nat->Value}{qs:Nat->List Msg}{rs:List Rs}(h:SimAt w S Q s pv rec now last qv qs rs):ProcsAt w pv (zbN rs):=by
 refine ⟨by unfold zbN;rw [List.length_map];exact h.lB,fun x hx=>?_⟩
 obtain ⟨y,hy,rfl⟩:=List.mem_map.mp hx
 exact ⟨_,(h.rB y hy).1,rfl⟩
theorem zqz {rs:List Rs}(h:rs.Pairwise fun x y=>x.P≠y.P/\x.R≠y.R/\x.p.id≠y.p.id){x y:Rs}(hx:x∈rs)(hy:y∈rs):y=x\/(y.P≠x.P/\y.R≠x.R/\y.p.id≠x.p.id):=by
 obtain ⟨i,hi,rfl⟩:=List.getElem_of_mem hx
 obtain ⟨j,hj,rfl⟩:=List.getElem_of_mem hy
 rw [List.pairwise_iff_getElem] at h
 rcases Nat.lt_trichotomy i j with hij|hij|hij
 .obtain ⟨h1,h2,h3⟩:=h i j hi hj hij
  exact .inr ⟨h1.symm,h2.symm,h3.symm⟩
 .subst hij;exact .inl rfl
 .exact .inr (h j i hj hi hij)
def zeG (rs:List Rs)(x:Rs)(done:Bool):List Rs:=if done then rs.filter (fun y=>y.p.id != x.p.id) else rs.map (fun y=>if y.p.id=x.p.id then x else y)
structure RunOut (w w':World)(S Q:Nat)(s:Sd)(pv:Value)(rec:ByteArray)(now last:Int)(qv:Nat->Value)(qs:Nat->List Msg)(L:List (Nat×Int))(x:Rs)(d:Nat)(q:List Msg)(x':Rs)(done:Bool)(v pv':Value):Prop where
 core:SimCore w' S Q x.P x.R (s.md x'.yv x'.nv) pv' rec now last (upd qv d v) (upd qs d q) x'.p
 hP:x'.P=x.P
 hR:x'.R=x.R
 id:x'.p.id=x.p.id
 hv:∀ b,v.ownBlock=some b->(qv d).ownBlock=some b\/w.heap.size<=b
 stay:done=false->pv'=pv
 gone:done=true->w'.ownsRow 0 144 1 pv' (L.filter (fun y=>y.2 != x'.p.id)).length (zf8 (L.filter (fun y=>y.2 != x'.p.id)))/\∀ b,pv'.ownBlock=some b->w.heap.size<=b
 fr:Fr (zei S Q x.P x.R (qv d)) w w'
theorem SimAt.after {w w':World}{S Q:Nat}{s:Sd}{pv:Value}{rec:ByteArray}{now last:Int}{qv:Nat->Value}{qs:Nat->List Msg}{rs:List Rs}{x x':Rs}{d:Nat}{q':List Msg}{done:Bool}{v pv':Value}(h:SimAt w S Q s pv rec now last qv qs rs)(hx:x∈rs)(hd:d<3)
  (ho:RunOut w w' S Q s pv rec now last qv qs (zbN rs) x d q' x' done v pv'):
  SimAt w' S Q s pv' rec now last (upd qv d v) (upd qs d q') (zeG rs x' done)/\Fr (zdc S Q pv qv rs) w w'/\∀ k,zdc S Q pv' (upd qv d v) (zeG rs x' done) k->zdc S Q pv qv rs k\/w.heap.size<=k:=by
 obtain ⟨hC,hP,hR,hid,hv,hpv,hdn,hF⟩:=ho
 have hc:=h.core hx
 have hPA:=h.procs.after hc hC hid hd hF
 have hFX:Fr (zdc S Q pv qv rs) w w':=hF.mono fun k _ hk=>by
  rcases hk with rfl|rfl|rfl|rfl|hk
  .exact .inr (.inr (.inr (.inr ⟨x,hx,.inl rfl⟩)))
  .exact .inr (.inl rfl)
  .exact .inr (.inr (.inr (.inr ⟨x,hx,.inr rfl⟩)))
  .exact .inl rfl
  .exact .inr (.inr (.inl ⟨d,hd,hk⟩))
 have hq:∀ k,(∃ e,e<3/\((upd qv d v) e).ownBlock=some k)->zdc S Q pv qv rs k\/w.heap.size<=k:=by
  rintro k ⟨e,he,hb⟩
  by_cases hed:e=d
  .subst hed
   rw [zaM] at hb
   rcases hv k hb with h1|h1
   .exact .inl (.inr (.inr (.inl ⟨e,he,h1⟩)))
   .exact .inr h1
  .rw [zaG _ _ hed] at hb
   exact .inl (.inr (.inr (.inl ⟨e,he,hb⟩)))
 have hoth:∀ y∈rs,y.p.id≠x.p.id->zfx w' y:=fun y hy hne=>by
  rcases zqz h.nd hx hy with hyx|⟨h1,h2,_⟩
  .exact absurd (by rw [hyx]) hne
  .obtain ⟨b1,b2,b3⟩:=h.rB y hy
   refine ⟨(hF.block y.P (zae b1) ?_).trans b1,(hF.block y.R (zae b2) ?_).trans b2,b3⟩
   .rintro (hk|hk|hk|hk|hk)
    .exact h1 hk
    .exact zac b1 hc.qB (by decide) hk
    .exact zac b1 hc.rB (by decide) hk
    .exact zac b1 hc.sB (by decide) hk
    .obtain ⟨c2,hc2⟩:=zad (hc.oB d hd) hk
     exact zac b1 hc2 (by decide) rfl
   .rintro (hk|hk|hk|hk|hk)
    .exact zac b2 hc.pB (by decide) hk
    .exact zac b2 hc.qB (by decide) hk
    .exact h2 hk
    .exact zac b2 hc.sB (by decide) hk
    .obtain ⟨c2,hc2⟩:=zad (hc.oB d hd) hk
     exact zac b2 hc2 (by decide) rfl
 cases done with
 | false=>
  obtain rfl:=hpv rfl
  have hpick:∀ y∈rs,y.p.id=x'.p.id->y=x:=fun y hy hh=>by
   rcases zqz h.nd hx hy with hyx|⟨_,_,h3⟩
   .exact hyx
   .exact absurd (hh.trans hid) h3
  have hcx:zfx w' x':=by
   refine ⟨?_,?_,hC.rl⟩
   .rw [hP,hR];exact hC.pB
   .rw [hR];exact hC.rB
  have hids:zbN (rs.map fun y=>if y.p.id=x'.p.id then x' else y)=zbN rs:=by
   unfold zbN
   rw [List.map_map]
   refine List.map_congr_left fun y hy=>?_
   simp only [Function.comp]
   split
   .next hh=>rw [hpick y hy hh,hP,hid]
   .rfl
  have e0:zeG rs x' false=rs.map fun y=>if y.p.id=x'.p.id then x' else y:=rfl
  rw [e0]
  refine ⟨⟨hC.sB,hC.qB,hC.oB,hC.dis,?_,fun y' hy'=>?_,?_⟩,hFX,fun k hk=>?_⟩
  .rw [hids,List.length_map]
   have:=hPA.own
   unfold zbN at this ⊢
   rw [List.length_map] at this
   exact this
  .obtain ⟨y,hy,rfl⟩:=List.mem_map.mp hy'
   split
   .exact hcx
   .next hh=>exact hoth y hy fun hh2=>hh (hh2.trans hid.symm)
  .rw [List.pairwise_map]
   refine List.Pairwise.imp_of_mem (fun {y z} hy hz hyz=>?_) h.nd
   have e:∀ u∈rs,((if u.p.id=x'.p.id then x' else u).P=u.P)/\((if u.p.id=x'.p.id then x' else u).R=u.R)/\((if u.p.id=x'.p.id then x' else u).p.id=u.p.id):=fun u hu=>by
    split
    .next hh=>rw [hpick u hu hh];exact ⟨hP,hR,hid⟩
    .exact ⟨rfl,rfl,rfl⟩
   rw [(e y hy).1,(e y hy).2.1,(e y hy).2.2,(e z hz).1,(e z hz).2.1,(e z hz).2.2]
   exact hyz
  .rcases hk with rfl|rfl|hk|hk|⟨y',hy',hk⟩
   .exact .inl (.inl rfl)
   .exact .inl (.inr (.inl rfl))
   .exact hq k hk
   .exact .inl (.inr (.inr (.inr (.inl hk))))
   .obtain ⟨y,hy,rfl⟩:=List.mem_map.mp hy'
    left
    refine .inr (.inr (.inr (.inr ⟨y,hy,?_⟩)))
    by_cases hh:y.p.id=x'.p.id
    .rw [if_pos hh,hP,hR,<- hpick y hy hh] at hk;exact hk
    .rw [if_neg hh] at hk;exact hk
 | true=>
  have hl:=hdn rfl
  have hids:(zbN rs).filter (fun y=>y.2 != x'.p.id)=zbN (rs.filter fun y=>y.p.id != x'.p.id):=by
   unfold zbN
   rw [List.filter_map]
   rfl
  rw [hids] at hl
  have e0:zeG rs x' true=rs.filter fun y=>y.p.id != x'.p.id:=rfl
  rw [e0]
  have hmem:∀ y∈rs.filter (fun y=>y.p.id != x'.p.id),y∈rs/\y.p.id≠x.p.id:=fun y hy=>by
   obtain ⟨h1,h2⟩:=List.mem_filter.mp hy
   exact ⟨h1,fun hh=>by simp [hh,hid] at h2⟩
  refine ⟨⟨hC.sB,hC.qB,hC.oB,hC.dis,?_,fun y hy=>hoth y (hmem y hy).1 (hmem y hy).2,h.nd.filter _⟩,hFX,fun k hk=>?_⟩
  .have:=hl.1
   unfold zbN at this ⊢
   rw [List.length_map] at this
   exact this
  .rcases hk with rfl|rfl|hk|hk|⟨y,hy,hk⟩
   .exact .inl (.inl rfl)
   .exact .inl (.inr (.inl rfl))
   .exact hq k hk
   .exact .inr (hl.2 k hk)
   .exact .inl (.inr (.inr (.inr (.inr ⟨y,(hmem y hy).1,hk⟩))))
end Go.Proofs.YtmmmnghiegajmaaGreat
set_option maxHeartbeats 4000000
namespace Go.Proofs.YtmmmnghiegajmaaGreat
open Go.RowKit Go.Proofs.Herald
def zeF (o:Option (Nat×Int)):Value:=.pointer (o.map fun x=>⟨x.1,0,none⟩)
set_option maxRecDepth 20000 in
theorem zpm (S:Nat)(pv:Value)(L:List (Nat×Int))(id:Int)(w:World)(h5:w.cell? ⟨S,5,none⟩=some pv)(hP:ProcsAt w pv L)(hl:L.length<=1000):
  Calls Tryz.prog 73 #[.pointer (some ⟨S,0,none⟩),.int .i64 id] w fun e w'=>e=.returned (zeF (L.find? fun x=>x.2==id))/\SameH w w':=by
 obtain ⟨a,cap,hv⟩:=zag hP.own
 subst hv
 have HO:Hid (w.ownsRow 0 144 1 (.slice a L.length cap) L.length (zf8 L)):=hP.own
 have HI:Hid (∀ x∈L,w.cell? ⟨x.1,0,none⟩=some (.int .i64 x.2)):=fun x hx=>by
  obtain ⟨cs,h1,h2⟩:=hP.ids x hx
  exact (zaa h1).trans h2
 clear hP
 generalize hR:zeF (L.find? fun x=>x.2==id)=RR
 have HR:=zHd hR
 clear hR
 go_enter Tryz.func73,Tryz.ntmps73
 go_wp2_with fail
 go_loopw [5] (fun i wr=>∃ k:Nat,k<=L.length/\i=.int .i64 k/\Hid (SameH w wr)/\Hid (∀ x∈L.take k,¬ x.2=id)) (fun i _=>L.length - (intOf i).toNat)
 case atStart=>exact ⟨0,Nat.zero_le _,rfl,SameH.refl _,fun x hx=>absurd hx (by simp)⟩
 case round=>
  obtain ⟨k,hk,rfl,HS,HT⟩:=hrel
  rw [<- HS.out.cell] at h5
  by_cases hlt:k<L.length
  .obtain ⟨g,cap',hv,_,hgl⟩:=HO.out.form (by omega)
   simp at hv
   obtain ⟨rfl,rfl⟩:=hv
   have e0:w.cell? ⟨g,k,none⟩=some (.pointer (some ⟨L[k].1,0,none⟩)):=zdY HO.out rfl (by unfold zf8;simp [hlt])
   have e1:=HI.out L[k] (List.getElem_mem hlt)
   rw [<- HS.out.cell] at e0 e1
   have HYES:Hid (L[k].2=id->.pointer (some ⟨L[k].1,0,none⟩)=RR):=fun h=>by
    rw [<- HR.out,zpD L id k hlt HT.out h];rfl
   have HNO:Hid (¬ L[k].2=id->∀ x∈L.take (k+1),¬ x.2=id):=fun h x hx=>by
    rw [List.take_succ_eq_append_getElem hlt] at hx
    rcases List.mem_append.mp hx with hx|hx
    .exact HT.out x hx
    .simp at hx;rw [hx];exact h
   clear hgl
   generalize L[k]=x at *
   obtain ⟨x1,x2⟩:=x
   dsimp only at e0 e1
   by_cases hr:x2=id
   .have b1:(x2==id)=true:=by simpa using hr
    have HY:Hid (_=_):=HYES.out hr
    clear hr HYES HNO
    go_wp2_with fail
    go_ret
    rw [<- HY.out]
    exact ⟨rfl,HS.out⟩
   .have b1:(x2==id)=false:=by simpa using hr
    have HN:Hid (∀ x∈L.take (k+1),¬ x.2=id):=HNO.out hr
    clear hr HYES HNO
    go_wp2_with fail
    go_roundw
    case rel=>exact ⟨k+1,by omega,by go_num,HS,HN⟩
    case measure=>simp [intOf];omega
  .have HE:Hid (.pointer none=RR):=by
    show _=_
    have h:=HT.out
    rw [List.take_of_length_le (by omega)] at h
    rw [<- HR.out,List.find?_eq_none.mpr (fun x hx=>by simpa using h x hx)]
    rfl
   go_wp2_with fail
   go_ret
   rw [<- HE.out]
   exact ⟨rfl,HS.out⟩
set_option maxRecDepth 20000 in
theorem zre (S:Nat)(pv:Value)(L:List (Nat×Int))(en:Int)(w:World)(h5:w.cell? ⟨S,5,none⟩=some pv)(hO:w.ownsRow 0 144 1 pv L.length (zf8 L))(hI:∀ x∈L,w.cell? ⟨x.1,3,none⟩=some (.int .i64 x.2))(hl:L.length<=1000):
  Calls Tryz.prog 70 #[.pointer (some ⟨S,0,none⟩),.int .i64 en] w fun e w'=>e=.returned (zeF (zjY en L))/\SameH w w':=by
 obtain ⟨a,cap,hv⟩:=zag hO
 subst hv
 have HO:=zHd hO
 have HI:=zHd hI
 clear hO hI
 generalize hR:zjY en L=RR
 have HR:=zHd hR
 clear hR
 go_enter Tryz.func70,Tryz.ntmps70
 go_wp2_with fail
 go_loopw [5,6] (fun best i wr=>∃ (k:Nat) (o:Option (Nat×Int)),k<=L.length/\i=.int .i64 k/\best=zeF o/\Hid (SameH w wr)/\Hid (zjY en (L.take k)=o)/\Hid (∀ b,o=some b->b∈L)) (fun _ i _=>L.length - (intOf i).toNat)
 case atStart=>exact ⟨0,none,Nat.zero_le _,rfl,rfl,SameH.refl _,rfl,fun b hb=>by cases hb⟩
 case round=>
  obtain ⟨k,o,hk,rfl,rfl,HS,HT,HM⟩:=hrel
  rw [<- HS.out.cell] at h5
  by_cases hlt:k<L.length
  .obtain ⟨g,cap',hv,_,hgl⟩:=HO.out.form (by omega)
   simp at hv
   obtain ⟨rfl,rfl⟩:=hv
   have e0:w.cell? ⟨g,k,none⟩=some (.pointer (some ⟨L[k].1,0,none⟩)):=zdY HO.out rfl (by unfold zf8;simp [hlt])
   have e1:=HI.out L[k] (List.getElem_mem hlt)
   rw [<- HS.out.cell] at e0 e1
   have HN:Hid (zjY en (L.take (k+1))=zd2 en o L[k]):=by show _=_;rw [znc hlt,HT.out]
   have HX:Hid (∀ b,(some L[k]:Option (Nat×Int))=some b->b∈L):=fun b hb=>by cases hb;exact List.getElem_mem hlt
   clear hgl
   generalize L[k]=x at *
   obtain ⟨x1,x2⟩:=x
   dsimp only at e0 e1
   by_cases hle:x2<=en
   .cases o with
    | none=>
     have HE:Hid (zjY en (L.take (k+1))=some (x1,x2)):=by show _=_;rw [HN.out];unfold zd2;rw [if_pos hle]
     unfold zeF
     simp only [Option.map]
     go_wp2_with fail
     go_region
     all_goals
      go_wp2_with fail
      go_roundw
      case rel=>exact ⟨k+1,some (x1,x2),by omega,by go_num,rfl,HS.out.drew,HE,HX⟩
      case measure=>simp [intOf];omega
    | some b=>
     obtain ⟨b1,b2⟩:=b
     have f1:=HI.out (b1,b2) (HM.out _ rfl)
     dsimp only at f1
     rw [<- HS.out.cell] at f1
     unfold zeF
     simp only [Option.map]
     by_cases hbt:x2<b2
     .have HE:Hid (zjY en (L.take (k+1))=some (x1,x2)):=by show _=_;rw [HN.out];unfold zd2;rw [if_pos hle];exact if_pos hbt
      go_wp2_with fail
      go_region
      all_goals
       go_wp2_with fail
       go_roundw
       case rel=>exact ⟨k+1,some (x1,x2),by omega,by go_num,rfl,HS.out.drew,HE,HX⟩
       case measure=>simp [intOf];omega
     .have HE:Hid (zjY en (L.take (k+1))=some (b1,b2)):=by show _=_;rw [HN.out];unfold zd2;rw [if_pos hle];exact if_neg hbt
      go_wp2_with fail
      go_region
      all_goals
       go_wp2_with fail
       go_roundw
       case rel=>exact ⟨k+1,some (b1,b2),by omega,by go_num,rfl,HS.out.drew,HE,HM⟩
       case measure=>simp [intOf];omega
   .have HE:Hid (zjY en (L.take (k+1))=o):=by show _=_;rw [HN.out];unfold zd2;rw [if_neg hle]
    have hgt:decide (x2<=en)=false:=by simpa using hle
    clear hle
    cases o with
    | none=>
     unfold zeF
     simp only [Option.map]
     go_wp2_with fail
     go_region
     all_goals
      go_wp2_with fail
      go_roundw
      case rel=>exact ⟨k+1,none,by omega,by go_num,rfl,HS.out.drew,HE,HM⟩
      case measure=>simp [intOf];omega
    | some b=>
     unfold zeF
     simp only [Option.map]
     go_wp2_with fail
     go_region
     all_goals
      go_wp2_with fail
      go_roundw
      case rel=>exact ⟨k+1,some b,by omega,by go_num,rfl,HS.out.drew,HE,HM⟩
      case measure=>simp [intOf];omega
  .have HE:Hid (o=RR):=by
    show _=_
    rw [<- HT.out,<- HR.out,List.take_of_length_le (by omega)]
   go_wp2_with fail
   go_ret
   rw [<- HE.out]
   exact ⟨rfl,HS.out⟩
end Go.Proofs.YtmmmnghiegajmaaGreat
set_option maxHeartbeats 1000000
namespace Go.Proofs.Herald
theorem zk3 {t:ByteArray}{x:It}(h:zaf t x.s.1.p=zec):wtI t x=1+max (wtT t x.d x.s.2.1) (wtT t x.d x.s.2.2):=by
 unfold wtI wtS;rw [h];rfl
theorem zcL {t:ByteArray}{x:It}(h:zaf t x.s.1.p=zbd):wtI t x=1+max (wtT t x.d x.s.2.1) (wtT t x.d x.s.2.2):=by
 unfold wtI wtS;rw [h];rfl
theorem zcX {t:ByteArray}{x:It}(h:zaf t x.s.1.p=zax):wtI t x=1+(x.s.1.n.toNat - x.i)*(wtT t x.d x.s.2.1+1):=by
 unfold wtI wtS;rw [h];rfl
theorem zo9 {t:ByteArray}{x:It}(h:zaf t x.s.1.p=zci):wtI t x=1:=by
 unfold wtI wtS;rw [h];rfl
theorem zeO {t:ByteArray}{x:It}(h:¬ zaf t x.s.1.p=zax):msI t x=1+msT t x.d x.s.2.2:=by
 unfold msI msS;rw [if_neg h]
theorem zcT {t:ByteArray}{x:It}(h:zaf t x.s.1.p=zax):msI t x=1+(x.s.1.n.toNat - x.i)*(msT t x.d x.s.2.1+1):=by
 unfold msI msS;rw [if_pos h]
theorem nSR:¬ zci=zax:=by decide
theorem nAR:¬ zec=zax:=by decide
theorem nTR:¬ zbd=zax:=by decide
theorem zfd {n i W:Nat}(h:i<n):(n - i)*(W+1)=W+1+(n - (i+1))*(W+1):=by
 obtain ⟨k,rfl⟩:∃ k,n=i+1+k:=⟨n - i - 1,by omega⟩
 rw [show i+1+k - i=k+1 from by omega,show i+1+k - (i+1)=k from by omega,Nat.succ_mul,Nat.add_comm]
theorem sim {t:ByteArray}{cs:List Ins}{now:Int}{B:Nat}:∀ (M n:Nat) {j lv pc f g:Nat} {l:List It} {q:List Msg} {p:Pr} {r:TR},Rp t cs p.regs n j lv pc l->wtL t l+j<=B->wtL t l+j+3<f->msL t l<=M->msL t l<g->p.regs.length=12->SameP p r.p ->
  Out t cs B (zdu now cs f (pc:Nat) q p) (doT t now g l q r):=by
 intro M
 induction M with
 | zero=>
  intro n
  induction n with
  | zero=>intro j lv pc f g l q p r h;exact h.elim
  | succ n ihn=>
   intro j lv pc f g l q p r h hB hf hM hg hlen hp
   obtain ⟨f,rfl⟩:∃ k,f=k+1:=⟨f - 1,by omega⟩
   obtain ⟨g,rfl⟩:∃ k,g=k+1:=⟨g - 1,by omega⟩
   have hl0:l=[]:=by
    cases l with
    | nil=>rfl
    | cons x l=>
     exfalso
     rw [zc5] at hM
     have:1<=msI t x:=by unfold msI msS;split <;> omega
     omega
   subst hl0
   rw [zkf]
   rcases h with ⟨_,h2,_⟩|⟨j',tgt,rfl,h2,h⟩|⟨d,r',l',h1,h2,h3,h⟩|⟨d,x,i,rep,base,l',h1,h2,h3,h4,h5,h6,h7,h8,h9,h⟩
   .rw [zjG h2]
    exact ⟨rfl,rfl,hp.id,fun hh=>by cases hh⟩
   .rw [zlD h2]
    have:=ihn (f:=f) (g:=g+1) (q:=q) (r:=r) h (by omega) (by omega) hM (by omega) hlen hp
    rw [zkf] at this
    exact this
   .have hr0:r'=[]/\l'=[]:=by
     have h4:zaT (d+1) r'=[]/\l'=[]:=by simpa using h3.symm
     refine ⟨?_,h4.2⟩
     have h5:List.map (fun x=>(⟨d,x,0⟩:It)) r'=[]:=h4.1
     simpa using h5
    obtain ⟨rfl,rfl⟩:=hr0
    have:=ihn (f:=f+1) (g:=g+1) (q:=q) (r:=r) h hB hf hM (by omega) hlen hp
    rw [zkf] at this
    exact this
   .cases h9
 | succ M ihM=>
  intro n
  induction n with
  | zero=>intro j lv pc f g l q p r h;exact h.elim
  | succ n ihn=>
   intro j lv pc f g l q p r h hB hf hM hg hlen hp
   obtain ⟨f,rfl⟩:∃ k,f=k+1:=⟨f - 1,by omega⟩
   obtain ⟨g,rfl⟩:∃ k,g=k+1:=⟨g - 1,by omega⟩
   have hlv:=Rp.lv4 h
   rcases h with ⟨rfl,h2,_⟩|⟨j',tgt,rfl,h2,h⟩|⟨d,r',l',h1,h2,h3,h⟩|⟨d,x,i,rep,base,l',hk,h2,h3,h4,h5,h6,h7,h8,h9,h⟩
   .rw [zjG h2]
    exact ⟨rfl,rfl,hp.id,fun hh=>by cases hh⟩
   .rw [zlD h2]
    exact ihn h (by omega) (by omega) hM hg hlen hp
   .cases r' with
    | nil=>
     subst h3
     exact ihn h hB hf hM hg hlen hp
    | cons x r'=>
     obtain ⟨hok,hr'⟩:OkS t d x lv/\zmK t (d+1) r' lv:=⟨h2 x (List.mem_cons_self ..),fun y hy=>h2 y (List.mem_cons_of_mem _ hy)⟩
     have hcomp:zch t (zaI t d) (x::r') lv pc=zdi t (zaI t d) x lv pc++zch t (zaI t d) r' lv (pc+(zdi t (zaI t d) x lv pc).length):=rfl
     rw [hcomp] at h1 h
     obtain ⟨hx,hrest⟩:=Seg.append h1
     obtain ⟨l1,hl1⟩:∃ l1,l1=zaT (d+1) r'++l':=⟨_,rfl⟩
     have hl:l=⟨d,x,0⟩::l1:=by rw [h3,hl1];rfl
     obtain ⟨pc1,hpc1⟩:∃ pc1,pc1=pc+(zdi t (zaI t d) x lv pc).length:=⟨_,rfl⟩
     have hR:Rp t cs p.regs (n+1) j lv pc1 l1:=by
      refine Or.inr (Or.inr (Or.inl ⟨d,r',l',?_,hr',hl1,?_⟩))
      .rw [hpc1];exact hrest
      .rw [hpc1,Nat.add_assoc,<- List.length_append];exact h
     clear h h1 h3 hrest hcomp hl1 h2 ihn
     subst hl
     rw [zbQ] at hB hf
     rw [zc5] at hM hg
     have hgood:=hok.1
     rcases hok.1.kind with hk|hk|hk|hk|hk|hk
     .
      rw [zf1 _ _ _ _ hk] at hx hpc1
      rw [zo9 (x:=(⟨d,x,0⟩:It)) hk] at hB hf
      rw [zeO (x:=(⟨d,x,0⟩:It)) (by rw [hk];exact nSR)] at hM hg
      rw [zo0 (hx.cons).1,zlc (x:=(⟨d,x,0⟩:It)) hk]
      obtain ⟨s1,s2,s3⟩:=hp.send q x.1.key
      have hreg:=(zb6 q p x.1.key).1
      obtain rfl:pc1=pc+1:=by rw [hpc1];rfl
      show Out t cs B _ (doT t now g l1 (zan q r.p x.1.key).1 _)
      rw [<- s1]
      refine ihM (n+1) (by rw [hreg];exact hR) (by omega) (by omega) (by omega) (by omega) (by rw [hreg];exact hlen) s3
     .
      rw [zf3 _ _ _ _ hk] at hx hpc1
      rw [zo1 (hx.cons).1,zle (x:=(⟨d,x,0⟩:It)) hk]
      obtain rfl:pc1=pc+1:=by rw [hpc1];rfl
      exact ⟨rfl,rfl,hp.id,fun _=>⟨⟨hp.id,hp.dev,hp.sent,rfl,rfl⟩,hlen,⟨pc+1,rfl,Or.inl ⟨lv,n+1,j,hR,by show wtL t l1+j<=B;omega⟩⟩,fun hh=>absurd rfl hh⟩⟩
     .
      rw [zf2 _ _ _ _ hk] at hx
      rw [zp1 (hx.cons).1,zld (x:=(⟨d,x,0⟩:It)) hk]
      exact ⟨rfl,rfl,hp.id,fun hh=>by cases hh⟩
     .
      rw [zgS _ _ _ _ hk] at hx hpc1
      have hnr:¬ zaf t x.1.p=zax:=by rw [hk];exact nAR
      have hoAB:=hok.2.2 hnr
      rw [zk3 (x:=(⟨d,x,0⟩:It)) hk] at hB hf
      rw [zeO (x:=(⟨d,x,0⟩:It)) hnr] at hM hg
      simp only at hB hf hM hg
      have hmA:=Nat.le_max_left (wtT t d x.2.1) (wtT t d x.2.2)
      have hmB:=Nat.le_max_right (wtT t d x.2.1) (wtT t d x.2.2)
      obtain ⟨s1,s2,s3⟩:=hp.send q x.1.key
      have hreg:=(zb6 q p x.1.key).1
      obtain ⟨c0,hx1⟩:=hx.cons
      obtain ⟨hA,hx2⟩:=Seg.append hx1
      obtain ⟨c1,hBs⟩:=hx2.cons
      obtain ⟨a,ha⟩:∃ a,a=(zaI t d x.2.1 lv (pc+1)).length:=⟨_,rfl⟩
      rw [<- ha] at c0 hx2 c1 hBs hpc1
      rw [show pc+1+a+1=pc+2+a from by omega] at hBs
      have hBl:pc+2+a+(zaI t d x.2.2 lv (pc+2+a)).length=pc1:=by rw [hpc1];simp [<- ha];omega
      have hRB:∃ m,Rp t cs p.regs m j lv (pc+2+a) (zaT d x.2.2++l1):=Rp.block hBs hoAB.2 (by rw [hBl];exact hR)
      have hRA:∃ m,Rp t cs p.regs m (j+1) lv (pc+1) (zaT d x.2.1++l1):=by
       refine Rp.block hA hoAB.1 (n:=n+1+1) ?_
       rw [<- ha]
       refine Rp.jump (c:=pc1) ?_ hR
       rw [c1,<- hBl]
      obtain ⟨mB,hRB⟩:=hRB
      obtain ⟨mA,hRA⟩:=hRA
      by_cases h0:(zan q p x.1.key).2.2=0
      .rw [zmr c0 q p h0,zhW (x:=(⟨d,x,0⟩:It)) hk (by rw [<- s2];exact h0)]
       show Out t cs B _ (doT t now g (zaT d x.2.2++l1) (zan q r.p x.1.key).1 _)
       rw [<- s1]
       refine ihM mB (by rw [hreg];exact hRB) ?_ ?_ ?_ ?_ (by rw [hreg];exact hlen) s3
       .rw [zbM,zcP];omega
       .rw [zbM,zcP];omega
       .rw [zcg,zdw];omega
       .rw [zcg,zdw];omega
      .rw [zkP c0 q p h0,zg9 (x:=(⟨d,x,0⟩:It)) hk (by rw [<- s2];exact h0)]
       refine ⟨s1,rfl,s3.id,fun _=>⟨⟨s3.id,s3.dev,s3.sent,rfl,s2⟩,?_,?_,fun _=>?_⟩⟩
       .show (zan q p x.1.key).2.1.regs.length=12
        rw [hreg];exact hlen
       .refine ⟨pc+2+a,rfl,Or.inl ⟨lv,mB,j,?_,?_⟩⟩
        .show Rp t cs (zan q p x.1.key).2.1.regs mB j lv (pc+2+a) (zaT d x.2.2++l1)
         rw [hreg];exact hRB
        .show wtL t (zaT d x.2.2++l1)+j<=B
         rw [zbM,zcP];omega
       .refine ⟨pc+1,lv,rfl,mA,j+1,?_,?_⟩
        .show Rp t cs (zan q p x.1.key).2.1.regs mA (j+1) lv (pc+1) (zaT d x.2.1++l1)
         rw [hreg];exact hRA
        .show wtL t (zaT d x.2.1++l1)+(j+1)<=B
         rw [zbM,zcP];omega
     .
      rw [zdj _ _ _ _ hk] at hpc1
      have hx':=hx
      rw [zdj _ _ _ _ hk] at hx
      have hnr:¬ zaf t x.1.p=zax:=by rw [hk];exact nTR
      have hoAB:=hok.2.2 hnr
      have hmn:1<=x.1.n/\x.1.n<=999/\1<=x.1.m/\x.1.m<=6:=by
       rcases hgood with ⟨h,_⟩|⟨h,_⟩|⟨h,_⟩|⟨h,_⟩|⟨_,h1,h2,h3,h4⟩|⟨h,_⟩
       .rw [hk] at h;cases h
       .rw [hk] at h;cases h
       .rw [hk] at h;cases h
       .rw [hk] at h;cases h
       .exact ⟨h1,h2,h3,h4⟩
       .rw [hk] at h;cases h
      have hwI:wtI t (⟨d,x,1⟩:It)=wtI t (⟨d,x,0⟩:It):=by rw [zcL (x:=(⟨d,x,0⟩:It)) hk,zcL (x:=(⟨d,x,1⟩:It)) hk]
      have hwI0:=zcL (x:=(⟨d,x,0⟩:It)) hk
      simp only at hwI0
      have hmA:=Nat.le_max_left (wtT t d x.2.1) (wtT t d x.2.2)
      obtain ⟨c0,hx1⟩:=hx.cons
      obtain ⟨c1,hx2⟩:=hx1.cons
      obtain ⟨c2,hx3⟩:=hx2.cons
      obtain ⟨c3,hx4⟩:=hx3.cons
      obtain ⟨c4,hx5⟩:=hx4.cons
      obtain ⟨hBs,hx6⟩:=Seg.append hx5
      obtain ⟨c5,hA⟩:=hx6.cons
      obtain ⟨b,hb⟩:∃ b,b=(zaI t d x.2.2 lv (pc+5)).length:=⟨_,rfl⟩
      rw [<- hb] at c2 c5 hA hpc1
      obtain ⟨f,rfl⟩:∃ k,f=k+1:=⟨f - 1,by omega⟩
      obtain ⟨f,rfl⟩:∃ k,f=k+1:=⟨f - 1,by omega⟩
      rw [zkR (a:=4) c0,zkR (a:=5) c1]
      obtain ⟨p2,hp2⟩:∃ p2:Pr,p2={p with regs:=(p.regs.set 4 x.1.m).set 5 x.1.n}:=⟨_,rfl⟩
      have hr5:p2.regs.getD 5 0=x.1.n:=by rw [hp2];exact zcA (by simp;omega)
      have hr4:p2.regs.getD 4 0=x.1.m:=by
       rw [hp2]
       show ((p.regs.set 4 x.1.m).set 5 x.1.n).getD 4 0=x.1.m
       rw [zbf (by decide)];exact zcA (by omega)
      have hrl:p2.regs.length=12:=by rw [hp2];simpa using hlen
      have hro:∀ k,k<lv->p2.regs.getD k 0=p.regs.getD k 0:=fun k hk=>by
       rw [hp2]
       show ((p.regs.set 4 x.1.m).set 5 x.1.n).getD k 0=_
       rw [zbf (by omega),zbf (by omega)]
      have hpp:SameP p2 r.p:=by rw [hp2];exact ⟨hp.id,hp.dev,hp.sent,hp.til,hp.num⟩
      show Out t cs B (zdu now cs (f+1) ((pc+1+1:Nat):Int) q {p with regs:=(p.regs.set 4 x.1.m).set 5 x.1.n}) _
      rw [<- hp2,zlC (b:=5) c2 q p2 (by rw [hr5];omega),zeL (x:=(⟨d,x,0⟩:It)) hk (by simp;omega),hr5]
      obtain ⟨s1,s2,s3⟩:=hpp.send q x.1.key
      have hreg:=(zb6 q p2 x.1.key).1
      have hR2:=Rp.regs hro hR
      have hAl:pc+6+b+(zaI t d x.2.1 lv (pc+6+b)).length=pc1:=by rw [hpc1];simp [<- hb];omega
      rw [show pc+1+1+1+1+1+b+1=pc+6+b from by omega] at hA
      obtain ⟨mA,hRA⟩:=Rp.block hA hoAB.1 (by rw [hAl];exact hR2)
      refine ⟨s1,rfl,s3.id,fun _=>⟨⟨s3.id,s3.dev,s3.sent,?_,s2⟩,?_,?_,fun _=>?_⟩⟩
      .show now+x.1.n=now+x.1.n*2 ^ 0
       simp
      .show (zan q p2 x.1.key).2.1.regs.length=12
       rw [hreg];exact hrl
      .refine ⟨pc+3,rfl,Or.inr ⟨d,x,1,lv,pc,n+1,j,l1,hk,hx',hok,rfl,by omega,by omega,?_,?_,rfl,?_,?_⟩⟩
       .show (zan q p2 x.1.key).2.1.regs.getD 4 0=_
        rw [hreg,hr4];omega
       .show (zan q p2 x.1.key).2.1.regs.getD 5 0=_
        rw [hreg,hr5];simp
       .show Rp t cs (zan q p2 x.1.key).2.1.regs _ _ _ _ _
        rw [hreg]
        have e:pc+(zdi t (zaI t d) x lv pc).length=pc1:=by rw [hpc1,zdj _ _ _ _ hk,<- hb]
        rw [e];exact hR2
       .show wtL t (⟨d,x,1⟩::l1)+j<=B
        rw [zbQ,hwI];exact hB
      .refine ⟨pc+6+b,lv,rfl,mA,j,?_,?_⟩
       .show Rp t cs (zan q p2 x.1.key).2.1.regs _ _ _ _ _
        rw [hreg];exact hRA
       .show wtL t (zaT d x.2.1++l1)+j<=B
        rw [zbM,zcP];omega
     .
      have hx':=hx
      rw [zdR _ _ _ _ hk] at hx hpc1
      obtain ⟨hlv4,hoA⟩:=hok.2.1 hk
      have hn9:1<=x.1.n/\x.1.n<=9:=by
       rcases hgood with ⟨h,_⟩|⟨h,_⟩|⟨h,_⟩|⟨h,_⟩|⟨h,_⟩|⟨_,h1,h2,_⟩
       .rw [hk] at h;cases h
       .rw [hk] at h;cases h
       .rw [hk] at h;cases h
       .rw [hk] at h;cases h
       .rw [hk] at h;cases h
       .exact ⟨h1,h2⟩
      rw [zcX (x:=(⟨d,x,0⟩:It)) hk] at hB hf
      rw [zcT (x:=(⟨d,x,0⟩:It)) hk] at hM hg
      simp only at hB hf hM hg
      rw [zfd (show 0<x.1.n.toNat by omega)] at hB hf hM hg
      obtain ⟨c0,hx1⟩:=hx.cons
      obtain ⟨hA,hx2⟩:=Seg.append hx1
      rw [zkR c0,zel (x:=(⟨d,x,0⟩:It)) hk (by show ((0:Nat):Int)<x.1.n;omega)]
      obtain ⟨p2,hp2⟩:∃ p2:Pr,p2={p with regs:=p.regs.set lv x.1.n}:=⟨_,rfl⟩
      rw [<- hp2]
      have hrv:p2.regs.getD lv 0=x.1.n:=by rw [hp2];exact zcA (by omega)
      have hrl:p2.regs.length=12:=by rw [hp2];simpa using hlen
      have hro:∀ k,k<lv->p2.regs.getD k 0=p.regs.getD k 0:=fun k hk=>by rw [hp2];exact zbf (by omega)
      have hpp:SameP p2 r.p:=by rw [hp2];exact ⟨hp.id,hp.dev,hp.sent,hp.til,hp.num⟩
      have hL:Rp t cs p2.regs (n+1+1) j (lv+1) (pc+1+(zaI t d x.2.1 (lv+1) (pc+1)).length) (⟨d,x,1⟩::l1):=by
       refine Or.inr (Or.inr (Or.inr ⟨d,x,1,lv,pc,l1,hk,rfl,hx',hok,rfl,by omega,by omega,?_,rfl,?_⟩))
       .rw [hrv];omega
       .have e:pc+1+(zaI t d x.2.1 (lv+1) (pc+1)).length+1=pc1:=by rw [hpc1];simp;omega
        rw [e];exact Rp.regs hro hR
      obtain ⟨mA,hRA⟩:=Rp.block hA hoA hL
      refine ihM mA hRA ?_ ?_ ?_ ?_ hrl hpp
      .show wtL t (zaT d x.2.1++⟨d,x,0+1⟩::l1)+j<=B
       rw [zbM,zcP,zbQ,zcX (x:=(⟨d,x,0+1⟩:It)) hk]
       simp only
       omega
      .show wtL t (zaT d x.2.1++⟨d,x,0+1⟩::l1)+j+3<f
       rw [zbM,zcP,zbQ,zcX (x:=(⟨d,x,0+1⟩:It)) hk]
       simp only
       omega
      .show msL t (zaT d x.2.1++⟨d,x,0+1⟩::l1)<=M
       rw [zcg,zdw,zc5,zcT (x:=(⟨d,x,0+1⟩:It)) hk]
       simp only
       omega
      .show msL t (zaT d x.2.1++⟨d,x,0+1⟩::l1)<g
       rw [zcg,zdw,zc5,zcT (x:=(⟨d,x,0+1⟩:It)) hk]
       simp only
       omega
   .
    subst h9 h2
    have h3':=h3
    rw [zdR _ _ _ _ hk] at h3
    obtain ⟨_,hx1⟩:=h3.cons
    obtain ⟨hA,hx2⟩:=Seg.append hx1
    obtain ⟨c1,_⟩:=hx2.cons
    rw [<- h5] at c1
    obtain ⟨hlv4,hoA⟩:=h4.2.1 hk
    have hn9:1<=x.1.n/\x.1.n<=9:=by
     rcases h4.1 with ⟨h,_⟩|⟨h,_⟩|⟨h,_⟩|⟨h,_⟩|⟨h,_⟩|⟨_,h1,h2,_⟩
     .rw [hk] at h;cases h
     .rw [hk] at h;cases h
     .rw [hk] at h;cases h
     .rw [hk] at h;cases h
     .rw [hk] at h;cases h
     .exact ⟨h1,h2⟩
    rw [zbQ,zcX (x:=(⟨d,x,i⟩:It)) hk] at hB hf
    rw [zc5,zcT (x:=(⟨d,x,i⟩:It)) hk] at hM hg
    simp only at hB hf hM hg
    by_cases hi:(i:Int)<x.1.n
    .rw [zfd (show i<x.1.n.toNat by omega)] at hB hf hM hg
     rw [zhw c1 q p (by rw [h8];omega),zel (x:=(⟨d,x,i⟩:It)) hk hi]
     obtain ⟨p2,hp2⟩:∃ p2:Pr,p2={p with regs:=p.regs.set rep (p.regs.getD rep 0 - 1)}:=⟨_,rfl⟩
     rw [<- hp2]
     have hrv:p2.regs.getD rep 0=x.1.n - i:=by rw [hp2];show (p.regs.set rep _).getD rep 0=_;rw [zcA (by omega),h8];omega
     have hrl:p2.regs.length=12:=by rw [hp2];simpa using hlen
     have hro:∀ k,k<rep->p2.regs.getD k 0=p.regs.getD k 0:=fun k hk=>by rw [hp2];exact zbf (by omega)
     have hpp:SameP p2 r.p:=by rw [hp2];exact ⟨hp.id,hp.dev,hp.sent,hp.til,hp.num⟩
     have hL:Rp t cs p2.regs (n+1) j (rep+1) (base+1+(zaI t d x.2.1 (rep+1) (base+1)).length) (⟨d,x,i+1⟩::l'):=by
      refine Or.inr (Or.inr (Or.inr ⟨d,x,i+1,rep,base,l',hk,rfl,h3',h4,rfl,by omega,by omega,?_,rfl,?_⟩))
      .rw [hrv];omega
      .rw [<- h5];exact Rp.regs hro h
     obtain ⟨mA,hRA⟩:=Rp.block hA hoA hL
     refine ihM mA hRA ?_ ?_ ?_ ?_ hrl hpp
     .show wtL t (zaT d x.2.1++⟨d,x,i+1⟩::l')+j<=B
      rw [zbM,zcP,zbQ,zcX (x:=(⟨d,x,i+1⟩:It)) hk]
      simp only
      omega
     .show wtL t (zaT d x.2.1++⟨d,x,i+1⟩::l')+j+3<f
      rw [zbM,zcP,zbQ,zcX (x:=(⟨d,x,i+1⟩:It)) hk]
      simp only
      omega
     .show msL t (zaT d x.2.1++⟨d,x,i+1⟩::l')<=M
      rw [zcg,zdw,zc5,zcT (x:=(⟨d,x,i+1⟩:It)) hk]
      simp only
      omega
     .show msL t (zaT d x.2.1++⟨d,x,i+1⟩::l')<g
      rw [zcg,zdw,zc5,zcT (x:=(⟨d,x,i+1⟩:It)) hk]
      simp only
      omega
    .rw [zgz c1 q p (by rw [h8];omega),zfi (x:=(⟨d,x,i⟩:It)) hk hi]
     obtain ⟨p2,hp2⟩:∃ p2:Pr,p2={p with regs:=p.regs.set rep 0}:=⟨_,rfl⟩
     rw [<- hp2]
     have hrl:p2.regs.length=12:=by rw [hp2];simpa using hlen
     have hro:∀ k,k<rep->p2.regs.getD k 0=p.regs.getD k 0:=fun k hk=>by rw [hp2];exact zbf (by omega)
     have hpp:SameP p2 r.p:=by rw [hp2];exact ⟨hp.id,hp.dev,hp.sent,hp.til,hp.num⟩
     exact ihM n (Rp.regs hro h) (by omega) (by omega) (by omega) (by omega) hrl hpp
end Go.Proofs.Herald
