import Derived.Test.YtmmmnghiegajmaaGreatM19
import Derived.Test.YtmmmnghiegajmaaGreatM20
set_option maxHeartbeats 4000000
namespace Go.Proofs.YtmmmnghiegajmaaGreat
open Go.RowKit Go.Proofs.Herald
theorem DoOut.first {t:ByteArray}{B0 S Q:Nat}{s:Sd}{pv:Value}{rec:ByteArray}{now last:Int}{qv:Nat->Value}{qs:Nat->List Msg}{L:List (Nat×Int)}{x:Rs}{d:Nat}{res:List Msg×TR×Bool}{w w1 w':World}{v:Value}{q1:List Msg}{p1:Pr}
  (hf:Fr (zei S Q x.P x.R (qv d)) w w1) (hv:∀ b,v.ownBlock=some b->(qv d).ownBlock=some b\/w.heap.size<=b) (hid:p1.id=x.p.id)
  (h:DoOut t B0 S Q s pv rec now last (upd qv d v) (upd qs d q1) L {x with p:=p1} d res w1 w'):DoOut t B0 S Q s pv rec now last qv qs L x d res w w':=by
 obtain ⟨x',v',pv',ho,hl⟩:=h
 have hz:=hf.size
 refine ⟨x',v',pv',⟨?_,ho.hP,ho.hR,ho.id.trans hid,fun b hb=>?_,ho.stay,fun hh=>⟨(ho.gone hh).1,fun b hb=>Nat.le_trans hz ((ho.gone hh).2 b hb)⟩,?_⟩,hl⟩
 .have:=ho.core
  rw [ziQ,ziQ] at this
  exact this
 .have h1:=ho.hv b hb
  rw [zaM] at h1
  rcases h1 with h1|h1
  .exact hv b h1
  .exact .inr (Nat.le_trans hz h1)
 .have h1:=ho.fr
  rw [zaM] at h1
  refine Fr.wide hf (h1.mono fun k _ hk=>?_)
  rcases hk with hk|hk|hk|hk|hk
  .exact .inl (.inl hk)
  .exact .inl (.inr (.inl hk))
  .exact .inl (.inr (.inr (.inl hk)))
  .exact .inl (.inr (.inr (.inr (.inl hk))))
  .rcases hv k hk with h2|h2
   .exact .inl (.inr (.inr (.inr (.inr h2))))
   .exact .inr h2
theorem zkg (t:ByteArray)(B0 S Q:Nat)(s:Sd)(pv:Value)(rec:ByteArray)(now last:Int)(qv:Nat->Value)(qs:Nat->List Msg)(L:List (Nat×Int))(x:Rs)(d:Nat)(r r1:TR)(its:List It)(lv v:Value)(q1:List Msg)(p1:Pr)(w w1:World)
  (h:SimCore w S Q x.P x.R (s.md x.yv x.nv) pv rec now last qv qs x.p) (hL:ProcsAt w pv L) (hl:L.length<=1000) (hlk:LinkT t B0 w x r) (hI:ItemsAt t w B0 lv its) (hok:ItsOk t its) (hb:∀ k,zei S Q x.P x.R (qv d) k->B0<=k)
  (hd:d<3) (hdev:x.p.dev=(d:Nat)) (hq:(qs d).length<=4) (hs0:0<=x.p.sent) (hs1:x.p.sent<=999999999999990000) (hn0:0<=now) (hn1:now<=1000000000)
  (hC:SimCore w1 S Q x.P x.R (s.md x.yv x.nv) pv rec now last (upd qv d v) (upd qs d q1) p1) (hpi:p1.id=x.p.id) (hpd:p1.dev=x.p.dev) (hps:p1.sent=x.p.sent) (hv:∀ b,v.ownBlock=some b->(qv d).ownBlock=some b\/w.heap.size<=b) (hf:Fr (zei S Q x.P x.R (qv d)) w w1) (hql:q1.length<=(qs d).length)
  (hr:r1.p=p1/\r1.yes=r.yes/\r1.no=r.no):
  Calls Tryz.prog 66 #[.pointer (some ⟨S,0,none⟩),.pointer (some ⟨x.P,0,none⟩),lv] w1 fun e w'=>e=.returned (.tuple #[])/\DoOut t B0 S Q s pv rec now last qv qs L x d (doT t now (msL t its+1) its q1 r1) w w':=by
 have hst:Still B0 w w1:=h.still hd hb hf
 have hk:LinkT t B0 w1 {x with p:=p1} r1:=⟨hr.1,Nat.le_trans hlk.base hf.size,by rw [hr.2.1];exact hlk.yes.keep hst hlk.base,by rw [hr.2.2];exact hlk.no.keep hst hlk.base,by rw [hr.2.1];exact hlk.okY,by rw [hr.2.2];exact hlk.okN⟩
 refine (zrk t B0 S Q s pv rec now last (upd qv d v) (upd qs d q1) L {x with p:=p1} d r1 its lv w1 hC (hL.after h hC hpi hd hf) hl hk (hI.keep hst hlk.base) hok (fun k hk=>?_) hd (hpd.trans hdev) (by rw [zaM];omega) (by show 0<=p1.sent;omega) (by show p1.sent<=_;omega) hn0 hn1).mono ?_
 .rw [zaM] at hk
  rcases hk with hk|hk|hk|hk|hk
  .exact hb k (.inl hk)
  .exact hb k (.inr (.inl hk))
  .exact hb k (.inr (.inr (.inl hk)))
  .exact hb k (.inr (.inr (.inr (.inl hk))))
  .rcases hv k hk with h2|h2
   .exact hb k (.inr (.inr (.inr (.inr h2))))
   .exact Nat.le_trans hlk.base h2
 .rintro e w' ⟨rfl,ho⟩
  rw [zaM] at ho
  exact ⟨rfl,ho.first hf hv hpi⟩
set_option maxRecDepth 400000 in
theorem zrf (t:ByteArray)(B0 S Q:Nat)(s:Sd)(pv:Value)(rec:ByteArray)(now last:Int)(qv:Nat->Value)(qs:Nat->List Msg)(L:List (Nat×Int))(x:Rs)(d:Nat)(r:TR)(w:World)(yes:Bool)(hst:s.tx=true)
  (h:SimCore w S Q x.P x.R (s.md x.yv x.nv) pv rec now last qv qs x.p) (hL:ProcsAt w pv L) (hl:L.length<=1000) (hlk:LinkT t B0 w x r) (hb:∀ k,zei S Q x.P x.R (qv d) k->B0<=k)
  (hd:d<3) (hdev:x.p.dev=(d:Nat)) (hq:(qs d).length<=4) (hs0:0<=x.p.sent) (hs1:x.p.sent<=999999999999990000) (hn0:0<=now) (hn1:now<=1000000000):
  Calls Tryz.prog 71 #[.pointer (some ⟨S,0,none⟩),.pointer (some ⟨x.P,0,none⟩),.bool yes] w fun e w'=>e=.returned (.tuple #[])/\DoOut t B0 S Q s pv rec now last qv qs L x d (onT t now yes (qs d) r) w w':=by
 have s0:w.cell? ⟨S,0,none⟩=some (.bool true):=(zaa h.sB).trans (by simp [Sd.md,hst])
 have p4:w.cell? ⟨x.P,4,none⟩=some (.int .i64 x.p.num):=(zaa h.pB).trans rfl
 have z4:w.frozen? ⟨x.P,4,none⟩=false:=zab h.pB
 have hPS:S≠x.P:=zac h.sB h.pB (by decide)
 obtain ⟨ya,yn,yc,hy⟩:=hlk.yes.form
 obtain ⟨na,nn,nc,hno⟩:=hlk.no.form
 have p5:w.cell? ⟨x.P,5,none⟩=some (.slice ya yn yc):=by rw [<- hy];exact (zaa h.pB).trans rfl
 have p6:w.cell? ⟨x.P,6,none⟩=some (.slice na nn nc):=by rw [<- hno];exact (zaa h.pB).trans rfl
 have hset:SimCore (w.setCell ⟨x.P,4,none⟩ (.int .i64 0)) S Q x.P x.R (s.md x.yv x.nv) pv rec now last (upd qv d (qv d)) (upd qs d (qs d)) {x.p with num:=0}:=by
  rw [zeu,zeu]
  exact h.setP (p':={x.p with num:=0}) 4 _ rfl rfl
 have hfs:Fr (zei S Q x.P x.R (qv d)) w (w.setCell ⟨x.P,4,none⟩ (.int .i64 0)):=(Fr.refl _ _).setCell ⟨x.P,4,none⟩ (Or.inl (Or.inl rfl)) _
 have hrp:({r with p:={r.p with num:=0}}:TR).p={x.p with num:=0}:=by rw [<- hlk.p]
 cases yes with
 | true=>
  rw [znz]
  have HR:Hid (Calls Tryz.prog 66 #[.pointer (some ⟨S,0,none⟩),.pointer (some ⟨x.P,0,none⟩),.slice ya yn yc] (w.setCell ⟨x.P,4,none⟩ (.int .i64 0)) fun e w'=>e=.returned (.tuple #[])/\DoOut t B0 S Q s pv rec now last qv qs L x d (doT t now (msL t r.yes+1) r.yes (qs d) {r with p:={r.p with num:=0}}) w w'):=by
   rw [<- hy]
   exact zkg t B0 S Q s pv rec now last qv qs L x d r {r with p:={r.p with num:=0}} r.yes x.yv (qv d) (qs d) {x.p with num:=0} w _ h hL hl hlk hlk.yes hlk.okY hb hd hdev hq hs0 hs1 hn0 hn1 hset rfl rfl rfl (fun _ hb=>.inl hb) hfs (Nat.le_refl _) ⟨hrp,rfl,rfl⟩
  generalize doT t now (msL t r.yes+1) r.yes (qs d) {r with p:={r.p with num:=0}}=RR at *
  clear h hL hlk hb hset hfs hrp hy hno
  go_enter Tryz.func71,Tryz.ntmps71
  go_wp2_with fail
  refine HR.out.mono ?_
  rintro e w' ⟨rfl,hout⟩
  have HOUT:=zHd hout
  clear hout HR
  go_wp2_with fail
  go_end0
  exact ⟨rfl,HOUT.out⟩
 | false=>
  rw [zpk]
  by_cases hnum:0<x.p.num
  .have hnr:0<r.p.num:=by rw [hlk.p];exact hnum
   rw [if_pos hnr,hlk.p]
   have HT:Hid (Calls Tryz.prog 76 #[.pointer (some ⟨S,0,none⟩),.pointer (some ⟨x.P,0,none⟩),.int .i64 x.p.num] w _):=zpn S Q x.P x.R _ pv rec now last qv qs x.p x.p.num d w h hd hdev hq
   have HR:Hid (∀ (w1:World) (v:Value),SimCore w1 S Q x.P x.R (s.md x.yv x.nv) pv rec now last (upd qv d v) (upd qs d (zbK (qs d) x.p.id x.p.num)) x.p->(∀ b,v.ownBlock=some b->w.heap.size<=b)->Fr (fun k=>k=Q) w w1->Calls Tryz.prog 66 #[.pointer (some ⟨S,0,none⟩),.pointer (some ⟨x.P,0,none⟩),.slice na nn nc] (w1.setCell ⟨x.P,4,none⟩ (.int .i64 0)) fun e w'=>e=.returned (.tuple #[])/\DoOut t B0 S Q s pv rec now last qv qs L x d (doT t now (msL t r.no+1) r.no (zbK (qs d) x.p.id x.p.num) {r with p:={x.p with num:=0}}) w w'):=fun w1 v h1 h2 h3=>by
    rw [<- hno]
    exact zkg t B0 S Q s pv rec now last qv qs L x d r {r with p:={x.p with num:=0}} r.no x.nv v (zbK (qs d) x.p.id x.p.num) {x.p with num:=0} w _ h hL hl hlk hlk.no hlk.okN hb hd hdev hq hs0 hs1 hn0 hn1 (h1.setP (p':={x.p with num:=0}) 4 _ rfl rfl) rfl rfl rfl (fun b hb=>.inr (h2 b hb)) ((h3.mono fun k _ hk=>.inr (.inl hk)).setCell ⟨x.P,4,none⟩ (Or.inl (Or.inl rfl)) _) (zn5 _ _ _) ⟨rfl,rfl,rfl⟩
   generalize doT t now (msL t r.no+1) r.no (zbK (qs d) x.p.id x.p.num) {r with p:={x.p with num:=0}}=RR at *
   have HNV:Hid (x.nv=.slice na nn nc/\s.tx=true):=⟨hno,hst⟩
   clear h hL hlk hb hset hfs hrp hy hno hnr z4 p5 p6
   go_enter Tryz.func71,Tryz.ntmps71
   go_wp2_with fail
   refine HT.out.mono ?_
   rintro e w1 ⟨rfl,v,h1,h2,h3⟩
   have q0:w1.cell? ⟨S,0,none⟩=some (.bool true):=(zaa h1.sB).trans (by simp [Sd.md,HNV.out.2])
   have q4:w1.cell? ⟨x.P,4,none⟩=some (.int .i64 x.p.num):=(zaa h1.pB).trans rfl
   have z4:w1.frozen? ⟨x.P,4,none⟩=false:=zab h1.pB
   have q6:w1.cell? ⟨x.P,6,none⟩=some (.slice na nn nc):=by rw [<- HNV.out.1];exact (zaa h1.pB).trans rfl
   have HRR:=HR.out w1 v h1 h2 h3
   clear h1 h2 h3 HR HT s0 p4
   go_wp2_with fail
   refine HRR.mono ?_
   rintro e w' ⟨rfl,hout⟩
   have HOUT:=zHd hout
   clear hout HRR
   go_wp2_with fail
   go_end0
   exact ⟨rfl,HOUT.out⟩
  .have hnr:¬ 0<r.p.num:=by rw [hlk.p];exact hnum
   rw [if_neg hnr]
   have HR:Hid (Calls Tryz.prog 66 #[.pointer (some ⟨S,0,none⟩),.pointer (some ⟨x.P,0,none⟩),.slice na nn nc] (w.setCell ⟨x.P,4,none⟩ (.int .i64 0)) fun e w'=>e=.returned (.tuple #[])/\DoOut t B0 S Q s pv rec now last qv qs L x d (doT t now (msL t r.no+1) r.no (qs d) {r with p:={r.p with num:=0}}) w w'):=by
    rw [<- hno]
    exact zkg t B0 S Q s pv rec now last qv qs L x d r {r with p:={r.p with num:=0}} r.no x.nv (qv d) (qs d) {x.p with num:=0} w _ h hL hl hlk hlk.no hlk.okN hb hd hdev hq hs0 hs1 hn0 hn1 hset rfl rfl rfl (fun _ hb=>.inl hb) hfs (Nat.le_refl _) ⟨hrp,rfl,rfl⟩
   generalize doT t now (msL t r.no+1) r.no (qs d) {r with p:={r.p with num:=0}}=RR at *
   clear h hL hlk hb hset hfs hrp hy hno hnr
   go_enter Tryz.func71,Tryz.ntmps71
   go_wp2_with fail
   refine HR.out.mono ?_
   rintro e w' ⟨rfl,hout⟩
   have HOUT:=zHd hout
   clear hout HR
   go_wp2_with fail
   go_end0
   exact ⟨rfl,HOUT.out⟩
def zgs (t:ByteArray)(tr:Tree 5)(pg:Value)(B0:Nat):Mode TR:=
 ⟨zhO t tr,⟨true,pg,.slice none 0 0⟩,B0,fun w x r=>LinkT t B0 w x r⟩
theorem LinkT.keep {t:ByteArray}{B0:Nat}{w w':World}{x:Rs}{r:TR}(h:LinkT t B0 w x r)(hst:Still B0 w w'):LinkT t B0 w' x r:=by
 refine ⟨h.p,?_,h.yes.keep hst h.base,h.no.keep hst h.base,h.okY,h.okN⟩
 have hb:=h.base
 rcases Nat.eq_zero_or_pos B0 with h0|h0
 .omega
 .have h1:=hst (B0 - 1) (by omega) (.inl (by omega))
  have h2:w.heap[B0 - 1]?=some _:=Array.getElem?_eq_getElem (by omega)
  rw [h2] at h1
  have:=(Array.getElem?_eq_some_iff.mp h1).1
  omega
theorem zfg (t:ByteArray)(tr:Tree 5)(pg:Value)(B0:Nat):ModeOk (zgs t tr pg B0):=by
 refine ⟨fun w x r h=>?_,fun w w' x r h hst=>LinkT.keep h hst,fun now yes q r=>zpj yes q r,?_⟩
 .show zcE r.p=zcE x.p
  rw [LinkT.p h]
 .intro S Q pv rec now last qv qs rs w x r d yes H hB hx hl hd hdev hq hs0 hs1 ht0 ht1 hlen _
  refine (zrf t B0 S Q (zgs t tr pg B0).s pv rec now last qv qs (zbN rs) x d r w yes rfl (H.core hx) H.procs (by unfold zbN;rw [List.length_map];exact hlen) hl (fun k hk=>hB k ?_) hd hdev hq hs0 hs1 ht0 ht1).mono ?_
  .rcases hk with rfl|rfl|rfl|rfl|hk
   .exact .inr (.inr (.inr (.inr ⟨x,hx,.inl rfl⟩)))
   .exact .inr (.inl rfl)
   .exact .inr (.inr (.inr (.inr ⟨x,hx,.inr rfl⟩)))
   .exact .inl rfl
   .exact .inr (.inr (.inl ⟨d,hd,hk⟩))
  .rintro e w' ⟨rfl,x',v,pv',ho,hl'⟩
   exact ⟨rfl,x',v,pv',ho,hl'⟩
end Go.Proofs.YtmmmnghiegajmaaGreat
namespace Go.Proofs.Herald
theorem SameEng.comp {A B C:Type}{E:Eng A}{F:Eng B}{G:Eng C}{ρ:A->B->Prop}{σ:A->C->Prop}(h:SameEng E F ρ)(k:SameEng E G σ):SameEng F G (fun b c=>∃ a,ρ a b/\σ a c):=by
 refine ⟨fun b c hbc=>?_,fun now q id dev=>?_,fun id dev=>⟨(h.fresh id dev).2,(k.fresh id dev).2⟩,fun b c hbc now yes q hn=>?_⟩
 .obtain ⟨a,h1,h2⟩:=hbc
  exact (h.pub a b h1).symm.trans (k.pub a c h2)
 .obtain ⟨a1,a2,a3,a4,a5⟩:=h.start now q id dev
  obtain ⟨b1,b2,b3,b4,b5⟩:=k.start now q id dev
  exact ⟨a1.symm.trans b1,a2.symm.trans b2,a4,b4,fun hf=>⟨_,a5 (a2.trans hf),b5 (a2.trans hf)⟩⟩
 .obtain ⟨a,h1,h2⟩:=hbc
  have hn':yes=true->(E.pub a).num≠0:=fun hy=>by rw [h.pub a b h1];exact hn hy
  obtain ⟨a1,a2,a3,a4,a5⟩:=h.on a b h1 now yes q hn'
  obtain ⟨b1,b2,b3,b4,b5⟩:=k.on a c h2 now yes q hn'
  exact ⟨a1.symm.trans b1,a2.symm.trans b2,a4,b4,fun hf=>⟨_,a5 (a2.trans hf),b5 (a2.trans hf)⟩⟩
end Go.Proofs.Herald
