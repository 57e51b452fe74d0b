import Derived.Test.YtmmmnghiegajmaaGreatM40
import Derived.Deep.LoopGhost
set_option maxHeartbeats 8000000
namespace Go.Proofs.Herald
def distQ (q:List Msg):Prop:=q.Pairwise fun a b=>¬ (a.run=b.run/\a.num=b.num)
structure RunQ (q:List Msg)(id sent:Int):Prop where
 dist:distQ q
 pos:∀ m∈q,0<m.num
 own:∀ m∈q,m.run=id->m.num<=sent
def FromQ (id:Int)(q q':List Msg):Prop:=∀ m∈q',m.run=id\/m∈q
theorem FromQ.refl (id:Int)(q:List Msg):FromQ id q q:=fun _ hm=>.inr hm
theorem FromQ.trans {id:Int}{a b c:List Msg}(h:FromQ id a b)(k:FromQ id b c):FromQ id a c:=fun m hm=>by
 rcases k m hm with h1|h1
 .exact .inl h1
 .exact h m h1
theorem distQ.take {q:List Msg}(h:distQ q)(id num:Int):distQ (zbK q id num):=List.Pairwise.filter _ h
theorem RunQ.take {q:List Msg}{id sent:Int}(h:RunQ q id sent)(a b:Int):RunQ (zbK q a b) id sent:=
 ⟨h.dist.take a b,fun m hm=>h.pos m (List.mem_filter.mp hm).1,fun m hm=>h.own m (List.mem_filter.mp hm).1⟩
theorem FromQ.take (id a b:Int)(q:List Msg):FromQ id q (zbK q a b):=fun _ hm=>.inr (List.mem_filter.mp hm).1
theorem zmp {m:Msg}:∀ {q q':List Msg},zfu q m=some q'->distQ q->(∀ x∈q,x.run=m.run->x.num<m.num)->distQ q'/\∀ x∈q',x=m\/x∈q:=by
 intro q
 induction q with
 | nil=>intro q' h;cases h
 | cons x r ih=>
  intro q' h hd hn
  rw [zfu] at h
  rw [distQ,List.pairwise_cons] at hd
  split at h
  .rename_i hx
   cases h
   refine ⟨?_,fun y hy=>?_⟩
   .rw [distQ,List.pairwise_cons]
    refine ⟨fun y hy hh=>?_,hd.2⟩
    have:=hn y (List.mem_cons_of_mem _ hy) hh.1.symm
    omega
   .rcases List.mem_cons.mp hy with h|h
    .exact .inl h
    .exact .inr (List.mem_cons_of_mem _ h)
  .cases hr:zfu r m with
   | none=>rw [hr] at h;cases h
   | some r'=>
    rw [hr] at h
    cases h
    obtain ⟨h1,h2⟩:=ih hr hd.2 fun y hy=>hn y (List.mem_cons_of_mem _ hy)
    refine ⟨?_,fun y hy=>?_⟩
    .rw [distQ,List.pairwise_cons]
     refine ⟨fun y hy hh=>?_,h1⟩
     rcases h2 y hy with rfl|h
     .have:=hn x (List.mem_cons_self ..) hh.1
      omega
     .exact hd.1 y h hh
    .rcases List.mem_cons.mp hy with h|h
     .exact .inr (by rw [h];exact List.mem_cons_self ..)
     .rcases h2 y h with h|h
      .exact .inl h
      .exact .inr (List.mem_cons_of_mem _ h)
theorem zp3 {q:List Msg}{p:Pr}{key:Int}(h:RunQ q p.id p.sent)(h0:0<=p.sent):RunQ (zan q p key).1 (zan q p key).2.1.id (zan q p key).2.1.sent/\FromQ p.id q (zan q p key).1:=by
 unfold zan
 cases hp:zgM q ⟨p.dev,p.id,p.sent+1,key⟩ with
 | none=>exact ⟨h,FromQ.refl _ _⟩
 | some q'=>
  have hn:∀ x∈q,x.run=p.id->x.num<p.sent+1:=fun x hx hr=>by have:=h.own x hx hr;omega
  have key2:distQ q'/\∀ x∈q',x=⟨p.dev,p.id,p.sent+1,key⟩\/x∈q:=by
   unfold zgM at hp
   cases ha:zfu q ⟨p.dev,p.id,p.sent+1,key⟩ with
   | some q2=>
    rw [ha] at hp
    cases hp
    exact zmp ha h.dist hn
   | none=>
    rw [ha] at hp
    simp only at hp
    split at hp
    .cases hp
    .cases hp
     refine ⟨?_,fun x hx=>?_⟩
     .rw [distQ,List.pairwise_append]
      refine ⟨h.dist,by simp,fun x hx y hy hh=>?_⟩
      rw [List.mem_singleton] at hy
      subst hy
      have:=hn x hx hh.1
      have h2:x.num=p.sent+1:=hh.2
      omega
     .rcases List.mem_append.mp hx with hx|hx
      .exact .inr hx
      .exact .inl (List.mem_singleton.mp hx)
  refine ⟨⟨key2.1,fun m hm=>?_,fun m hm hr=>?_⟩,fun m hm=>?_⟩
  .rcases key2.2 m hm with rfl|hm
   .show 0<p.sent+1;omega
   .exact h.pos m hm
  .rcases key2.2 m hm with rfl|hm
   .exact Int.le_refl _
   .have:=h.own m hm hr
    show m.num<=p.sent+1
    omega
  .rcases key2.2 m hm with rfl|hm
   .exact .inl rfl
   .exact .inr hm
theorem zh8 (p:Pr)(a c:Int):(zeB p a c).id=p.id/\(zeB p a c).sent=p.sent:=by
 unfold zeB zin
 repeat' split
 all_goals exact ⟨rfl,rfl⟩
theorem zp5 {now:Int}{x:Ins}{q:List Msg}{p:Pr}(h:RunQ q p.id p.sent)(h0:0<=p.sent):RunQ (zcj now x q p).1 (zcj now x q p).2.1.id (zcj now x q p).2.1.sent/\FromQ p.id q (zcj now x q p).1/\0<=(zcj now x q p).2.1.sent:=by
 have hs:∀ (p':Pr) (key:Int),p'.id=p.id->p'.sent=p.sent->RunQ (zan q p' key).1 (zan q p' key).2.1.id (zan q p' key).2.1.sent/\FromQ p.id q (zan q p' key).1/\0<=(zan q p' key).2.1.sent:=fun p' key h1 h2=>by
  have h3:=zp3 (q:=q) (p:=p') (key:=key) (by rw [h1,h2];exact h) (by rw [h2];exact h0)
  have h4:=(zb6 q p' key).2.2.2.1
  rw [h1] at h3
  exact ⟨h3.1,h3.2,by omega⟩
 unfold zcj
 split
 .exact ⟨h,FromQ.refl _ _,h0⟩
 .split
  .exact hs _ _ rfl rfl
  .split
   .exact ⟨h,FromQ.refl _ _,h0⟩
   .split
    .split
     .exact hs _ _ rfl rfl
     .exact hs _ _ rfl rfl
    .split
     .exact ⟨h,FromQ.refl _ _,h0⟩
     .split
      .exact ⟨h,FromQ.refl _ _,h0⟩
      .split
       .exact hs _ _ rfl rfl
       .split
        .obtain ⟨e1,e2⟩:=zh8 (zb3 p) x.a x.c
         refine ⟨?_,FromQ.refl _ _,?_⟩
         .show RunQ q (zeB (zb3 p) x.a x.c).id (zeB (zb3 p) x.a x.c).sent
          rw [e1,e2];exact h
         .show 0<=(zeB (zb3 p) x.a x.c).sent
          rw [e2];exact h0
        .split
         .exact ⟨h,FromQ.refl _ _,h0⟩
         .exact ⟨h,FromQ.refl _ _,h0⟩
theorem zlB {now:Int}{cs:List Ins}:∀ (f:Nat) {q:List Msg} {p:Pr},RunQ q p.id p.sent->0<=p.sent->RunQ (zco now cs f q p).1 p.id (zco now cs f q p).2.1.sent/\FromQ p.id q (zco now cs f q p).1:=by
 intro f
 induction f with
 | zero=>intro q p h _;exact ⟨h,FromQ.refl _ _⟩
 | succ f ih=>
  intro q p h h0
  rw [zco]
  split
  .obtain ⟨h1,h2,h3⟩:=zp5 (now:=now) (x:=cs[p.els.toNat]) h h0
   have hid:=ziM now cs[p.els.toNat] q p
   split
   .have h4:=ih h1 h3
    rw [hid] at h4
    exact ⟨h4.1,h2.trans h4.2⟩
   .rw [hid] at h1
    exact ⟨h1,h2⟩
  .exact ⟨h,FromQ.refl _ _⟩
theorem zrc {now:Int}{cs:List Ins}{yes:Bool}{q:List Msg}{p:Pr}(h:RunQ q p.id p.sent)(h0:0<=p.sent):RunQ (onM now cs yes q p).1 p.id (onM now cs yes q p).2.1.sent/\FromQ p.id q (onM now cs yes q p).1:=by
 unfold onM
 split
 .exact zlB (p:={p with els:=p.tow}) 10000 h h0
 .split
  .exact zlB 10000 h h0
  .have h1:=zlB (now:=now) (cs:=cs) 10000 (h.take p.id p.num) h0
   exact ⟨h1.1,(FromQ.take _ _ _ _).trans h1.2⟩
structure QsOk (h:Her Pr):Prop where
 dist:∀ d,distQ (h.qs d)
 pos:∀ d,∀ m∈h.qs d,0<m.num
 old:∀ d,∀ m∈h.qs d,m.run<=h.last
 own:∀ r∈h.rs,∀ d,∀ m∈h.qs d,m.run=r.id->m.num<=r.sent
theorem QsOk.new:QsOk zgF:=⟨fun _=>List.Pairwise.nil,fun _ m hm=>(by simp [zgF] at hm),fun _ m hm=>(by simp [zgF] at hm),fun r hr=>(by simp [zgF] at hr)⟩
theorem QsOk.now {h:Her Pr}(H:QsOk h)(t:Int):QsOk {h with now:=t}:=⟨H.dist,H.pos,H.old,H.own⟩
theorem QsOk.did {E:Eng Pr}(hE:∀ p,E.pub p=zcE p){h:Her Pr}(H:QsOk h){rs:List Pr}{d:Nat}{q':List Msg}{p':Pr}{done:Bool}{id:Int}(hid:p'.id=id)(hl:id<=h.last)(hq:RunQ q' id p'.sent)(hfrom:FromQ id (h.qs d) q')(hrs:∀ y∈rs,y.id≠id->y∈h.rs)(hoth:∀ e,e≠d->∀ m∈h.qs e,m.run=id->m.num<=p'.sent):
  QsOk {h with qs:=zcc h.qs d q',rs:=zbe E rs p' done}:=by
 have pid:∀ y:Pr,(E.pub y).id=y.id:=fun y=>by rw [hE];rfl
 have cases':∀ e,∀ m∈zcc h.qs d q' e,(e=d/\m∈q')\/(e≠d/\m∈h.qs e):=fun e m hm=>by
  unfold zcc at hm
  split at hm
  .rename_i he;exact .inl ⟨he,hm⟩
  .rename_i he;exact .inr ⟨he,hm⟩
 refine ⟨fun e=>?_,fun e m hm=>?_,fun e m hm=>?_,fun r hr e m hm hrun=>?_⟩
 .show distQ (zcc h.qs d q' e)
  unfold zcc
  split
  .exact hq.dist
  .exact H.dist e
 .rcases cases' e m hm with ⟨_,hm⟩|⟨_,hm⟩
  .exact hq.pos m hm
  .exact H.pos e m hm
 .show m.run<=h.last
  rcases cases' e m hm with ⟨_,hm⟩|⟨_,hm⟩
  .rcases hfrom m hm with h1|h1
   .rw [h1];exact hl
   .exact H.old d m h1
  .exact H.old e m hm
 .rcases zhh hr with ⟨_,rfl⟩|⟨hr,hne⟩
  .rw [hid] at hrun
   rcases cases' e m hm with ⟨_,hm⟩|⟨he,hm⟩
   .exact hq.own m hm hrun
   .exact hoth e he m hm hrun
  .rw [pid,pid,hid] at hne
   have hr2:=hrs r hr hne
   rcases cases' e m hm with ⟨_,hm⟩|⟨_,hm⟩
   .rcases hfrom m hm with h1|h1
    .exact absurd (hrun.symm.trans h1) hne
    .exact H.own r hr2 d m h1 hrun
   .exact H.own r hr2 e m hm hrun
theorem zoO {now:Int}{cs:List Ins}{yes:Bool}{q:List Msg}{p:Pr}:p.sent<=(onM now cs yes q p).2.1.sent:=by
 have hsend:∀ (q:List Msg) (p:Pr) (key:Int),p.sent<=(zan q p key).2.1.sent:=fun q p key=>(zb6 q p key).2.2.2.1
 have hstep:∀ (x:Ins) (q:List Msg) (p:Pr),p.sent<=(zcj now x q p).2.1.sent:=fun x q p=>by
  unfold zcj
  repeat' split
  all_goals first|exact Int.le_refl _|exact hsend _ _ _|skip
  rw [(zh8 _ _ _).2]
  exact Int.le_refl _
 have hrun:∀ (f:Nat) (q:List Msg) (p:Pr),p.sent<=(zco now cs f q p).2.1.sent:=by
  intro f
  induction f with
  | zero=>intro q p;exact Int.le_refl _
  | succ f ih=>
   intro q p
   rw [zco]
   split
   .split
    .exact Int.le_trans (hstep _ _ _) (ih _ _)
    .exact hstep _ _ _
   .exact Int.le_refl _
 unfold onM
 split
 .exact hrun 10000 q {p with els:=p.tow}
 .split
  .exact hrun _ _ _
  .exact hrun _ _ _
theorem QsOk.go {cs:List Ins}{h:Her Pr}(H:QsOk h){p:Pr}(hp:p∈h.rs)(yes:Bool)(h0:0<=p.sent)(hl:p.id<=h.last):QsOk (goH (zaA cs) h p yes):=by
 have hE:∀ p,(zaA cs).pub p=zcE p:=fun _=>rfl
 have h1:=zrc (now:=h.now) (cs:=cs) (yes:=yes) (q:=h.qs p.dev.toNat) (p:=p) ⟨H.dist _,H.pos _,H.own p hp _⟩ h0
 exact H.did hE (rs:=h.rs) (d:=p.dev.toNat) (id:=p.id) (zls _ _ _ _ _) hl h1.1 h1.2 (fun y hy _=>hy) fun e _ m hm hr=>Int.le_trans (H.own p hp e m hm hr) zoO
theorem QsOk.tickN {cs:List Ins}{G:Pr->Prop}(hE:EngOk (zaA cs) G)(en:Int)(hen:en<=1000000000):∀ (f:Nat) {C:Int} {h:Her Pr},HOk (zaA cs) G C h->QsOk h->QsOk (Herald.zcv (zaA cs) en f h):=by
 intro f
 induction f with
 | zero=>intro C h _ H;exact H
 | succ f ih=>
  intro C h hk H
  unfold Herald.zcv
  cases hd:zjb (zaA cs) en h.rs with
  | none=>exact H
  | some r=>
   obtain ⟨hr,h1,h2⟩:=zd8 hd
   have ht:=hk.til r hr
   have h0:=hk.now0
   have hgo:=hk.go hE hr false ((zaA cs).pub r).til (by omega) (by omega) h2 (fun hh=>by cases hh)
   exact ih hgo (QsOk.go (H.now ((zaA cs).pub r).til) hr false (hk.sent r hr).1 (hk.id r hr))
theorem QsOk.tick {cs:List Ins}{G:Pr->Prop}(hE:EngOk (zaA cs) G){C:Int}{h:Her Pr}(hk:HOk (zaA cs) G C h)(H:QsOk h)(n:Int):QsOk (zdk (zaA cs) h n).2:=by
 unfold zdk
 split
 .exact H
 .rename_i hn
  have h3:h.now+n<=1000000000:=by omega
  exact (QsOk.tickN hE _ h3 5000 hk H).now _
theorem QsOk.ack {cs:List Ins}{G:Pr->Prop}{C:Int}{h:Her Pr}(hk:HOk (zaA cs) G C h)(H:QsOk h)(id num:Int):QsOk (zej (zaA cs) h id num).2:=by
 unfold zej
 cases hf:zc3 (zaA cs) h.rs id with
 | none=>exact H
 | some r=>
  have hr:r∈h.rs:=List.mem_of_find?_eq_some hf
  simp only
  split
  .exact H
  .split
   .exact H
   .exact QsOk.go H hr true (hk.sent r hr).1 (hk.id r hr)
theorem QsOk.cancel {cs:List Ins}{h:Her Pr}(H:QsOk h)(id:Int):QsOk (zbb (zaA cs) h id).2:=by
 unfold zbb
 cases hf:zc3 (zaA cs) h.rs id with
 | none=>exact H
 | some r=>
  have sub:∀ e,∀ m∈zcc h.qs ((zaA cs).pub r).dev.toNat (zbK (h.qs ((zaA cs).pub r).dev.toNat) id 0) e,m∈h.qs e:=fun e m hm=>by
   unfold zcc at hm
   split at hm
   .rename_i he;rw [he];exact (List.mem_filter.mp hm).1
   .exact hm
  refine ⟨fun e=>?_,fun e m hm=>H.pos e m (sub e m hm),fun e m hm=>H.old e m (sub e m hm),fun y hy e m hm hr=>H.own y (List.mem_filter.mp hy).1 e m (sub e m hm) hr⟩
  show distQ (zcc _ _ _ e)
  unfold zcc
  split
  .exact (H.dist _).take _ _
  .exact H.dist e
theorem QsOk.drain {h:Her Pr}(H:QsOk h)(dev:Int):QsOk (zbA h dev).2.2:=by
 unfold zbA
 split
 .exact H
 .cases hq:h.qs dev.toNat with
  | nil=>exact H
  | cons m r=>
   have hd:=H.dist dev.toNat
   rw [hq,distQ,List.pairwise_cons] at hd
   have sub:∀ e,∀ x∈zcc h.qs dev.toNat r e,x∈h.qs e:=fun e x hx=>by
    unfold zcc at hx
    split at hx
    .rename_i he;rw [he,hq];exact List.mem_cons_of_mem _ hx
    .exact hx
   refine ⟨fun e=>?_,fun e x hx=>H.pos e x (sub e x hx),fun e x hx=>H.old e x (sub e x hx),fun y hy e x hx hr=>H.own y hy e x (sub e x hx) hr⟩
   show distQ (zcc _ _ _ e)
   unfold zcc
   split
   .exact hd.2
   .exact H.dist e
theorem zmB {q:List Msg}{m:Msg}(h:distQ (m::q))(hp:0<m.num):zbK (m::q) m.run m.num=q:=by
 rw [distQ,List.pairwise_cons] at h
 unfold zbK
 rw [List.filter_cons_of_neg (by unfold zaW;simp)]
 refine List.filter_eq_self.mpr fun x hx=>?_
 have:=h.1 x hx
 unfold zaW
 by_cases hr:x.run=m.run
 .have hn:¬ x.num=m.num:=fun hh=>this ⟨hr.symm,hh.symm⟩
  have h0:¬ m.num=0:=by omega
  simp [hr,hn,h0]
 .simp [hr]
theorem QsOk.trig {cs:List Ins}{h:Her Pr}(H:QsOk h)(_hids:∀ r∈h.rs,r.id<=h.last)(dev:Int):QsOk (zb7 (zaA cs) h dev).2.2:=by
 unfold zb7
 split
 .exact H
 .split
  .exact H
  .have hE:∀ p,(zaA cs).pub p=zcE p:=fun _=>rfl
   have H1:QsOk {h with last:=h.last+1}:=⟨H.dist,H.pos,fun d m hm=>by have:=H.old d m hm;show m.run<=h.last+1;omega,H.own⟩
   have none':∀ d,∀ m∈h.qs d,m.run=h.last+1->False:=fun d m hm hr=>by have:=H.old d m hm;omega
   have h1:=zlB (now:=h.now) (cs:=cs) 10000 (q:=h.qs dev.toNat) (p:=zaZ (h.last+1) dev) ⟨H.dist _,H.pos _,fun m hm hr=>(none' _ m hm hr).elim⟩ (Int.le_refl 0)
   exact H1.did hE (rs:=h.rs++[zaZ (h.last+1) dev]) (d:=dev.toNat) (id:=h.last+1) (zgr _ _ _ _ _) (Int.le_refl _) h1.1 h1.2 (fun y hy hne=>by
    rcases List.mem_append.mp hy with hy|hy
    .exact hy
    .rw [List.mem_singleton.mp hy] at hne
     exact absurd rfl hne) fun e _ m hm hr=>(none' e m hm hr).elim
end Go.Proofs.Herald
namespace Go.Proofs.YtmmmnghiegajmaaGreat
open Go.RowKit Go.Proofs.Herald
structure MH (w:World)(H:Nat)(code rec:Value)(cs:List Ins)(h:Her Pr)(rv:Value)(qv:Nat->Value):Prop where
 at':HAt w H code rec h.now h.last rv qv h.qs h.rs
 cd:w.ownsRow 0 91 4 code cs.length (zai cs)
structure MHOut (w w':World)(H:Nat)(code rec:Value)(cs:List Ins)(h:Her Pr)(rv:Value)(qv:Nat->Value):Prop where
 ex:∃ rv' qv',MH w' H code rec cs h rv' qv'/\∀ k,zcs H rv' qv' k->zcs H rv qv k\/w.heap.size<=k
 fr:Fr (zcs H rv qv) w w'
theorem MHOut.of_proc {w w':World}{H:Nat}{code rec:Value}{cs:List Ins}{h h':Her Pr}{rv:Value}{qv:Nat->Value}{qs:Nat->List Msg}{ps:List Pr}(H0:MH w H code rec cs h rv qv)(ho:ProcOut w w' H code rec h'.now h'.last rv qv qs ps)(e1:h'.qs=qs)(e2:h'.rs=ps):MHOut w w' H code rec cs h' rv qv:=by
 subst e1 e2
 obtain ⟨⟨rv',qv',h1,h2⟩,h3⟩:=ho
 exact ⟨⟨rv',qv',⟨h1,H0.at'.code h3 H0.cd⟩,h2⟩,h3⟩
theorem MHOut.below {w w':World}{H:Nat}{code rec:Value}{cs:List Ins}{h:Her Pr}{rv:Value}{qv:Nat->Value}(H0:MH w H code rec cs h rv qv)(hb:Below w.heap.size w w'):MHOut w w' H code rec cs h rv qv:=by
 have hf:Fr (zcs H rv qv) w w':=(Fr.of_below hb).mono fun k hk hs=>by omega
 exact ⟨⟨rv,qv,⟨H0.at'.below hb,H0.at'.code hf H0.cd⟩,fun k hk=>.inl hk⟩,hf⟩
theorem HAt.setNow {w:World}{H:Nat}{code rec:Value}{now last:Int}{rv:Value}{qv:Nat->Value}{qs:Nat->List Msg}{ps:List Pr}(h:HAt w H code rec now last rv qv qs ps)(t:Int):HAt (w.setCell ⟨H,1,none⟩ (.int .i64 t)) H code rec t last rv qv qs ps:=by
 refine ⟨by rw [zah _ h.blk];rfl,fun d hd=>zaj (h.oB d hd) fun b hb=>?_,h.ql,h.dis,zaj h.rB fun b hb=>?_,h.rl⟩
 .obtain ⟨c,hc⟩:=zad (h.oB d hd) hb
  exact Below.heap_setCell _ _ _ _ (zac hc h.blk (by decide))
 .obtain ⟨c,hc⟩:=zad h.rB hb
  exact Below.heap_setCell _ _ _ _ (zac hc h.blk (by decide))
theorem zkQ {cs:List Ins}{C:Int}{h:Her Pr}(hk:HOk (zaA cs) (zeA cs) C h){p:Pr}(hp:p∈h.rs):∃ d:Nat,d<3/\p.dev=(d:Nat)/\p.dev.toNat=d/\0<=p.sent/\p.sent<=C/\h.now<=p.til/\p.til<=2000000000/\zeA cs p:=by
 have h1:=hk.dev p hp
 have h2:=hk.sent p hp
 have h3:=hk.til p hp
 have e:(zaA cs).pub p=zcE p:=rfl
 rw [e] at h1 h2 h3
 refine ⟨p.dev.toNat,?_,?_,rfl,h2.1,h2.2,h3.1,h3.2,hk.good p hp⟩
 .have:p.dev<=2:=h1.2
  omega
 .have:0<=p.dev:=h1.1
  omega
structure TickM (w:World)(H:Nat)(code rec:Value)(cs:List Ins)(h:Her Pr)(rv:Value)(qv:Nat->Value)(C en:Int)(k:Nat)(wr:World)(hj:Her Pr)(Cj:Int)(rvj:Value)(qvj:Nat->Value):Prop where
 at':MH wr H code rec cs hj rvj qvj
 ok:HOk (zaA cs) (zeA cs) Cj hj
 C1:Cj+10000*k<=C+50000000
 ms:msR (zaA cs) en hj.rs<=k
 eq:zcv (zaA cs) en k hj=zcv (zaA cs) en 5000 h
 fr:Fr (zcs H rv qv) w wr
 own:∀ k,zcs H rvj qvj k->zcs H rv qv k\/w.heap.size<=k
theorem zni (H:Nat)(code rec:Value)(cs:List Ins)(h:Her Pr)(rv:Value)(qv:Nat->Value)(n C:Int)(w:World)(H0:MH w H code rec cs h rv qv)(hk:HOk (zaA cs) (zeA cs) C h)(hn:¬ (1<=n/\n<=999)\/1000000000<h.now+n):
  Calls Tryz.prog 69 #[.pointer (some ⟨H,0,none⟩),.int .i64 n] w fun e w'=>e=.returned (.int .i64 14)/\MHOut w w' H code rec cs h rv qv:=by
 have c1:w.cell? ⟨H,1,none⟩=some (.int .i64 h.now):=(zaa H0.at'.blk).trans rfl
 have n0:=hk.now0
 have n1:=hk.now1
 have HS:Hid (MHOut w w H code rec cs h rv qv):=MHOut.below H0 (Below.refl _ _)
 clear H0 hk
 by_cases h1:n<1
 .clear hn
  go_enter Tryz.func69,Tryz.ntmps69
  go_wp2_with fail
  go_ret
  exact ⟨rfl,HS.out⟩
 .by_cases h2:999<n
  .clear hn
   go_enter Tryz.func69,Tryz.ntmps69
   go_wp2_with fail
   go_ret
   exact ⟨rfl,HS.out⟩
  .have h3:1000000000 - h.now<n:=by omega
   have h1':1<=n:=by omega
   have h2':n<=999:=by omega
   clear hn h1 h2
   go_enter Tryz.func69,Tryz.ntmps69
   go_wp2_with fail
   go_ret
   exact ⟨rfl,HS.out⟩
set_option maxRecDepth 20000 in
theorem zma (H:Nat)(code rec:Value)(cs:List Ins)(h:Her Pr)(rv:Value)(qv:Nat->Value)(n C:Int)(w:World)(hsnd:zbq cs=true)(hE:EngOk (zaA cs) (zeA cs))(H0:MH w H code rec cs h rv qv)(hk:HOk (zaA cs) (zeA cs) C h)(hC:C<=900000000000000000)(hn1:1<=n)(hn2:n<=999)(hn3:h.now+n<=1000000000):
  Calls Tryz.prog 69 #[.pointer (some ⟨H,0,none⟩),.int .i64 n] w fun e w'=>e=.returned (.int .i64 0)/\MHOut w w' H code rec cs {zcv (zaA cs) (h.now+n) 5000 h with now:=h.now+n} rv qv:=by
 have c1:w.cell? ⟨H,1,none⟩=some (.int .i64 h.now):=(zaa H0.at'.blk).trans rfl
 have n0:=hk.now0
 obtain ⟨en,hen⟩:∃ en,en=h.now+n:=⟨_,rfl⟩
 rw [<- hen]
 have HEN:=zHd hen
 have hen1:en<=1000000000:=by omega
 have hen0:0<=en:=by omega
 have HT0:Hid (TickM w H code rec cs h rv qv C en 5000 w h C rv qv):=by
  refine ⟨H0,hk,by omega,?_,rfl,Fr.refl _ _,fun k hk=>.inl hk⟩
  have h1:=zhj (E:=zaA cs) (en:=en) (t:=h.now) 1000 (by omega) h.rs (fun r hr=>(hk.til r hr).1)
  have h2:=hk.len
  have:h.rs.length*1000<=5*1000:=Nat.mul_le_mul_right _ h2
  omega
 have HDUE:Hid (∀ (W:World) (hj:Her Pr) (rvj:Value) (qvj:Nat->Value),MH W H code rec cs hj rvj qvj->hj.rs.length<=5->Calls Tryz.prog 100 #[.pointer (some ⟨H,0,none⟩),.int .i64 en] W fun e w'=>e=.returned (.int .i64 (zpA en hj.rs:Nat))/\Below W.heap.size W w'/\MH w' H code rec cs hj rvj qvj):=fun W hj rvj qvj hm hl=>by
  refine (zq0 H code rec hj.now hj.last rvj qvj hj.qs hj.rs en W hm.at' (by omega) hen0 (by omega)).mono ?_
  rintro e w' ⟨rfl,hb⟩
  obtain ⟨⟨_,_,h1,_⟩,_⟩:=MHOut.below hm hb
  have hf:Fr (zcs H rvj qvj) W w':=(Fr.of_below hb).mono fun k hk hs=>by omega
  exact ⟨rfl,hb,hm.at'.below hb,hm.at'.code hf hm.cd⟩
 have hl0:=hk.len
 clear hen hk
 have nlt1:¬ n<1:=by omega
 go_enter Tryz.func69,Tryz.ntmps69
 go_wp2_with fail
 rw [<- HEN.out]
 refine (HDUE.out w h rv qv H0 hl0).mono ?_
 rintro e w1 ⟨rfl,hb1,hm1⟩
 have HT1:Hid (TickM w H code rec cs h rv qv C en 5000 w1 h C rv qv):=⟨hm1,HT0.out.ok,HT0.out.C1,HT0.out.ms,HT0.out.eq,(Fr.of_below hb1).mono fun k hk hs=>by omega,fun k hk=>.inl hk⟩
 clear hb1 hm1 H0 c1 HT0 hl0
 go_wp2_with fail
 go_loopg [6] 5000 (fun k u wr=>∃ (hj:Her Pr) (Cj:Int) (rvj:Value) (qvj:Nat->Value),u=.int .i64 (zpA en hj.rs:Nat)/\Hid (TickM w H code rec cs h rv qv C en k wr hj Cj rvj qvj))
 case atStart=>exact ⟨h,C,rv,qv,rfl,HT1⟩
 case round=>
  obtain ⟨hj,Cj,rvj,qvj,rfl,HT⟩:=hrel
  obtain ⟨a,cap,hvj⟩:=zag HT.out.at'.at'.rB
  have c3:wr.cell? ⟨H,3,none⟩=some (.slice a hj.rs.length cap):=by rw [<- hvj];exact (zaa HT.out.at'.at'.blk).trans rfl
  have c1:wr.cell? ⟨H,1,none⟩=some (.int .i64 hj.now):=(zaa HT.out.at'.at'.blk).trans rfl
  have z1:wr.frozen? ⟨H,1,none⟩=false:=zab HT.out.at'.at'.blk
  have hlj:=HT.out.ok.len
  rcases zou (E:=zaA cs) (fun _=>rfl) en hj.rs with ⟨f1,f2⟩|⟨i,hi,f1,f2⟩
  .have HEQ:Hid (zcv (zaA cs) en 5000 h=hj):=by
    show _=_
    rw [<- HT.out.eq]
    cases gk with
    | zero=>rfl
    | succ k=>rw [zcv,f1]
   have HSN:Hid (MHOut w (wr.setCell ⟨H,1,none⟩ (.int .i64 en)) H code rec cs {zcv (zaA cs) en 5000 h with now:=en} rv qv):=by
    rw [HEQ.out]
    have hA:=HT.out.at'.at'.setNow en
    have hf:Fr (zcs H rvj qvj) wr (wr.setCell ⟨H,1,none⟩ (.int .i64 en)):=(Fr.refl _ _).setCell ⟨H,1,none⟩ (.inl (.inl rfl)) _
    exact ⟨⟨rvj,qvj,⟨hA,HT.out.at'.at'.code hf HT.out.at'.cd⟩,HT.out.own⟩,HT.out.fr.setCell ⟨H,1,none⟩ (.inl (.inl rfl)) _⟩
   rw [f2]
   clear f1 f2 hvj
   go_wp2_with fail
   go_ret
   exact ⟨rfl,HSN.out⟩
  .obtain ⟨hrm,hte,hmin⟩:=zd8 f1
   obtain ⟨g,cap',hv',_,_⟩:=HT.out.at'.at'.rB.form (by omega)
   rw [hv'] at hvj
   simp at hvj
   obtain ⟨rfl,rfl⟩:=hvj
   obtain ⟨_,_,_,_,_,_,_,_,_,_,_,_,_,⟨e0,e1,e2,e3,e4⟩,_⟩:=zhv (by rw [<- hv'];exact HT.out.at'.at'.rB) HT.out.at'.at'.rl hi
   obtain ⟨d,hd3,hdev,hdn,hs0,hs1,ht0,ht1,hgood⟩:=zkQ HT.out.ok hrm
   have hnow0:=HT.out.ok.now0
   have hC1:=HT.out.C1
   have htil:((zaA cs).pub hj.rs[i]).til=hj.rs[i].til:=rfl
   rw [htil] at hte hmin
   have hk1:1<=gk:=by
    have h1:=HT.out.ms
    have h2:1<=msR (zaA cs) en hj.rs:=by
     have h3:∀ (l:List Pr),hj.rs[i]∈l->1<=msR (zaA cs) en l:=by
      intro l
      induction l with
      | nil=>intro h;cases h
      | cons y l ih=>
       intro h
       simp only [msR,List.map_cons,List.sum_cons] at ih ⊢
       rcases List.mem_cons.mp h with h|h
       .rw [<- h,htil];omega
       .have:=ih h;omega
     exact h3 _ hrm
    omega
   obtain ⟨k,rfl⟩:∃ k,gk=k+1:=⟨gk - 1,by omega⟩
   have HEQ:Hid (zcv (zaA cs) en 5000 h=zcv (zaA cs) en k (goH (zaA cs) {hj with now:=hj.rs[i].til} hj.rs[i] false)):=by
    show _=_
    rw [<- HT.out.eq,zcv,f1]
    rfl
   have hE1:=hE.on hj.rs[i].til false (hj.qs d) hj.rs[i] (HT.out.ok.good _ hrm) (HT.out.ok.qlen d) (fun hh=>by cases hh)
   have HGO:Hid (goH (zaA cs) {hj with now:=hj.rs[i].til} hj.rs[i] false={hj with now:=hj.rs[i].til,qs:=zcc hj.qs d (onM hj.rs[i].til cs false (hj.qs d) hj.rs[i]).1,rs:=zck hj.rs i (onM hj.rs[i].til cs false (hj.qs d) hj.rs[i]).2.1 (onM hj.rs[i].til cs false (hj.qs d) hj.rs[i]).2.2}):=by
    show _=_
    rw [<- zfy (E:=zaA cs) (fun _=>rfl) HT.out.ok.nd hi (zls _ _ _ _ _)]
    unfold goH
    rw [show ((zaA cs).pub hj.rs[i]).dev.toNat=d from hdn]
    rfl
   have HOK:Hid (HOk (zaA cs) (zeA cs) (Cj+10000) (goH (zaA cs) {hj with now:=hj.rs[i].til} hj.rs[i] false)):=HT.out.ok.go hE hrm false hj.rs[i].til (by omega) (by omega) hmin (fun hh=>by cases hh)
   have HMS:Hid (msR (zaA cs) en (goH (zaA cs) {hj with now:=hj.rs[i].til} hj.rs[i] false).rs<=k):=by
    show msR (zaA cs) en _<=k
    unfold goH
    rw [show ((zaA cs).pub hj.rs[i]).dev.toNat=d from hdn]
    have h1:=zhi (E:=zaA cs) (en:=en) (r:=hj.rs[i]) (r':=((zaA cs).on hj.rs[i].til false (hj.qs d) hj.rs[i]).2.1) (done:=((zaA cs).on hj.rs[i].til false (hj.qs d) hj.rs[i]).2.2) hE1.id (by rw [htil];exact hte) (fun hd=>by rw [htil];exact (hE1.stop hd).2.1) hj.rs hrm HT.out.ok.nd
    have h2:=HT.out.ms
    exact Nat.le_of_lt_succ (Nat.lt_of_lt_of_le h1 h2)
   have HW:Hid (Calls Tryz.prog 101 #[.pointer (some ⟨H,0,none⟩),.int .i64 (i:Nat)] (wr.setCell ⟨H,1,none⟩ (.int .i64 hj.rs[i].til)) fun e w'=>e=.returned (.tuple #[])/\∃ rv2 qv2,TickM w H code rec cs h rv qv C en k w' (goH (zaA cs) {hj with now:=hj.rs[i].til} hj.rs[i] false) (Cj+10000) rv2 qv2):=by
    have hA:=HT.out.at'.at'.setNow hj.rs[i].til
    have hf:Fr (zcs H rvj qvj) wr (wr.setCell ⟨H,1,none⟩ (.int .i64 hj.rs[i].til)):=(Fr.refl _ _).setCell ⟨H,1,none⟩ (.inl (.inl rfl)) _
    have hM:MH (wr.setCell ⟨H,1,none⟩ (.int .i64 hj.rs[i].til)) H code rec cs {hj with now:=hj.rs[i].til} rvj qvj:=⟨hA,HT.out.at'.at'.code hf HT.out.at'.cd⟩
    refine (znk H code rec hj.rs[i].til hj.last rvj qvj hj.qs hj.rs i d cs _ hA (by omega) hi hd3 hdev hM.cd hsnd hgood (by omega) (by omega) (by omega)).mono ?_
    rintro e w' ⟨rfl,ho⟩
    have hO:=MHOut.of_proc (h':=goH (zaA cs) {hj with now:=hj.rs[i].til} hj.rs[i] false) hM (by rw [HGO.out];exact ho) (by rw [HGO.out]) (by rw [HGO.out])
    obtain ⟨⟨rv2,qv2,h1,h2⟩,h3⟩:=hO
    refine ⟨rfl,rv2,qv2,⟨h1,HOK.out,by
      have:(10000:Int)*((k:Int)+1)=10000*k+10000:=by omega
      push_cast at hC1;omega,HMS.out,HEQ.out.symm,?_,fun b hb=>?_⟩⟩
    .have f1:Fr (fun b=>zcs H rv qv b\/w.heap.size<=b) w wr:=HT.out.fr.mono fun b _ hb=>.inl hb
     have f2:Fr (fun b=>zcs H rv qv b\/w.heap.size<=b) wr w':=(hf.trans h3).mono fun b _ hb=>HT.out.own b hb
     exact (f1.trans f2).mono fun b hb hs=>by
      rcases hs with h|h
      .exact h
      .omega
    .rcases h2 b hb with h|h
     .exact HT.out.own b h
     .right
      have h4:=HT.out.fr.size
      have h5:=hf.size
      omega
   have hii:(i:Int)<(hj.rs.length:Int):=by omega
   rw [f2]
   clear f1 f2 hrm hte hmin hgood hE1 HGO HOK HMS HEQ hC1 ht0 ht1 hs0 hs1 hdev hdn hv'
   go_wp2_with fail
   refine HW.out.mono ?_
   rintro e w2 ⟨rfl,rv2,qv2,hT2⟩
   have HT2:=zHd hT2
   have HD2:=HDUE.out w2 _ rv2 qv2 hT2.at' hT2.ok.len
   clear hT2
   generalize goH (zaA cs) {hj with now:=hj.rs[i].til} hj.rs[i] false=h2 at *
   have HD3:=zHd HD2
   clear HD2
   go_wp2_with fail
   refine Calls.mono HD3.out ?_
   rintro e w3 ⟨rfl,hb3,hm3⟩
   have HT3:Hid (TickM w H code rec cs h rv qv C en k w3 h2 (Cj+10000) rv2 qv2):=⟨hm3,HT2.out.ok,HT2.out.C1,HT2.out.ms,HT2.out.eq,HT2.out.fr.trans ((Fr.of_below hb3).mono fun b hb hs=>by omega),HT2.out.own⟩
   clear hb3 hm3 HT2 HD3
   go_wp2_with fail
   go_roundg k
   case measure=>omega
   case rel=>exact ⟨h2,Cj+10000,rv2,qv2,rfl,HT3⟩
open Go.RowKit Go.Proofs.Herald
theorem zdl (d:Nat)(hd:d<3)(w:World):Calls Tryz.prog 92 #[.int .i64 (d:Nat)] w fun e w'=>e=.returned (.bool true)/\w=w':=by
 have h1:(d:Int)<3:=by omega
 have h0:(0:Int)<=d:=by omega
 go_enter Tryz.func92,Tryz.ntmps92
 go_wp2_with fail
 go_ret
 exact ⟨rfl,rfl⟩
theorem zfM (dev:Int)(hd:¬ (0<=dev/\dev<=2))(w:World):Calls Tryz.prog 92 #[.int .i64 dev] w fun e w'=>e=.returned (.bool false)/\w=w':=by
 by_cases h0:0<=dev
 .have h1:3<=dev:=by omega
  clear hd
  go_enter Tryz.func92,Tryz.ntmps92
  go_wp2_with fail
  go_ret
  exact ⟨zau (decide_eq_false (by omega)),rfl⟩
 .have h1:dev<0:=by omega
  clear hd h0
  go_enter Tryz.func92,Tryz.ntmps92
  go_wp2_with fail
  go_ret
  exact ⟨rfl,rfl⟩
theorem zhU {w:World}{R:Nat}{e:TypeId}{u0 u1 u2 u3:Value}(h:w.heap[R]?=some (.cells #[u0,u1,u2,u3] e (0,0))):
  w.cell? ⟨R,0,none⟩=some u0/\w.cell? ⟨R,1,none⟩=some u1/\w.cell? ⟨R,2,none⟩=some u2/\w.cell? ⟨R,3,none⟩=some u3/\w.frozen? ⟨R,0,none⟩=false/\w.frozen? ⟨R,1,none⟩=false/\w.frozen? ⟨R,2,none⟩=false/\w.frozen? ⟨R,3,none⟩=false:=
 ⟨(zaa h).trans rfl,(zaa h).trans rfl,(zaa h).trans rfl,(zaa h).trans rfl,zab h,zab h,zab h,zab h⟩
set_option maxRecDepth 20000 in
theorem zko (H:Nat)(dev:Int)(w:World)(hd:¬ (0<=dev/\dev<=2)):
  Calls Tryz.prog 78 #[.pointer (some ⟨H,0,none⟩),.int .i64 dev] w fun e w'=>e=.returned (.tuple #[.agg #[.int .i64 0,.int .i64 0,.int .i64 0,.int .i64 0],.int .i64 8])/\Below w.heap.size w w':=by
 have HD:Hid (∀ W:World,Calls Tryz.prog 92 #[.int .i64 dev] W fun e w'=>e=.returned (.bool false)/\W=w'):=fun W=>zfM dev hd W
 clear hd
 go_enter Tryz.func78,Tryz.ntmps78
 go_wp2_with fail
 refine (HD.out _).mono ?_
 rintro e w1 ⟨rfl,rfl⟩
 go_wp2_with fail
 refine bodyPost_ret (v:=.tuple #[.agg #[.int .i64 0,.int .i64 0,.int .i64 0,.int .i64 0],.int .i64 8]) (by simp [results,Tryz.results78,go_sem]) rfl ⟨rfl,?_⟩
 exact (Below.refl _ _).alloc (Nat.le_refl _) _
set_option maxRecDepth 20000 in
theorem zis (H:Nat)(code rec:Value)(now last:Int)(rv:Value)(qv:Nat->Value)(qs:Nat->List Msg)(ps:List Pr)(d:Nat)(w:World)(h:HAt w H code rec now last rv qv qs ps)(hd:d<3)(hq:qs d=[]):
  Calls Tryz.prog 78 #[.pointer (some ⟨H,0,none⟩),.int .i64 (d:Nat)] w fun e w'=>e=.returned (.tuple #[.agg #[.int .i64 0,.int .i64 0,.int .i64 0,.int .i64 0],.int .i64 13])/\Below w.heap.size w w':=by
 have HD:Hid (∀ W:World,Calls Tryz.prog 92 #[.int .i64 (d:Nat)] W fun e w'=>e=.returned (.bool true)/\W=w'):=fun W=>zdl d hd W
 have ho:=h.oB d hd
 rw [hq] at ho
 obtain ⟨a,cap,hv⟩:=zag ho
 have c4:w.cell? ⟨H,4+d,none⟩=some (.slice a 0 cap):=by rw [zaa h.blk,zgJ hd,hv];rfl
 have hHl:H<w.heap.size:=zae h.blk
 have hdi:(d:Int)<3:=by omega
 clear h hq ho hv
 go_enter Tryz.func78,Tryz.ntmps78
 go_wp2_with fail
 refine (HD.out _).mono ?_
 rintro e w1 ⟨rfl,rfl⟩
 go_wp2_with fail
 refine bodyPost_ret (v:=.tuple #[.agg #[.int .i64 0,.int .i64 0,.int .i64 0,.int .i64 0],.int .i64 13]) (by simp [results,Tryz.results78,go_sem]) rfl ⟨rfl,?_⟩
 exact (Below.refl _ _).alloc (Nat.le_refl _) _
set_option maxRecDepth 20000 in
theorem zl9 (H:Nat)(code rec:Value)(now last:Int)(rv:Value)(qv:Nat->Value)(qs:Nat->List Msg)(ps:List Pr)(d:Nat)(m:Msg)(r:List Msg)(w:World)(h:HAt w H code rec now last rv qv qs ps)(hd:d<3)(hq:qs d=m::r)(hn:¬ m.num=0):
  Calls Tryz.prog 78 #[.pointer (some ⟨H,0,none⟩),.int .i64 (d:Nat)] w fun e w'=>e=.returned (.tuple #[.agg #[.int .i64 m.dev,.int .i64 m.run,.int .i64 m.num,.int .i64 m.key],.int .i64 0])/\ProcOut w w' H code rec now last rv qv (zcc qs d (zbK (m::r) m.run m.num)) ps:=by
 have HD:Hid (∀ W:World,Calls Tryz.prog 92 #[.int .i64 (d:Nat)] W fun e w'=>e=.returned (.bool true)/\W=w'):=fun W=>zdl d hd W
 have ho:=h.oB d hd
 have hlen:=h.ql d hd
 rw [hq] at ho hlen
 obtain ⟨g,cap,hv,_,hgl⟩:=ho.form (by simp)
 have ho2:=ho
 rw [hv] at ho2
 obtain ⟨e0,e1,e2,e3⟩:=zd5 ho2 (k:=0) (by simp)
 simp only [Nat.zero_mul,Nat.zero_add,List.getElem_cons_zero] at e0 e1 e2 e3
 have c4:w.cell? ⟨H,4+d,none⟩=some (.slice (some ⟨g,0,none⟩) (m::r).length cap):=by rw [zaa h.blk,zgJ hd,hv]
 have hHl:H<w.heap.size:=zae h.blk
 have hdi:(d:Int)<3:=by omega
 have HH:Hid (HAt w H code rec now last rv qv qs ps/\qs d=m::r/\(m::r).length<=4):=⟨h,hq,hlen⟩
 have hL1:0<(m::r).length:=by simp
 generalize hL:(m::r).length=L at *
 have hLb:((L:Int)==0)=false:=by simp;omega
 have HT:Hid (∀ o1 o2,Calls Tryz.prog 106 #[.pointer (some ⟨H,4+d,none⟩),.int .i64 m.run,.int .i64 m.num] ((w.alloc o1).alloc o2).drew fun e w'=>e=.returned (.tuple #[])/\(∃ v',HAt w' H code rec now last rv (upd qv d v') (zcc qs d (zbK (m::r) m.run m.num)) ps/\(∀ k,zcs H rv (upd qv d v') k->zcs H rv qv k\/w.heap.size+2<=k)/\Fr (zcs H rv qv) w w')/\w'.heap[w.heap.size]?=some o1/\w'.heap[w.heap.size+1]?=some o2):=fun o1 o2=>by
  have hb:Below w.heap.size w ((w.alloc o1).alloc o2).drew:=(((Below.refl _ _).alloc (Nat.le_refl _) _).alloc (by simp) _).drew
  have h1:=HH.out.1.below hb
  refine (zly H (4+d) _ _ (qv d) (qs d) m.run m.num _ (h1.que hd) hn).mono ?_
  rintro e w' ⟨rfl,v',hq'⟩
  have hfr:=hq'.fr
  obtain ⟨k1,k2,k3⟩:=h1.took hd hq' (ziP _ _ _ (HH.out.1.ql d hd))
  rw [HH.out.2.1] at k1
  refine ⟨rfl,⟨v',k1,fun k hk=>?_,((((Fr.refl _ _).alloc _).alloc _).drew).trans k3⟩,?_,?_⟩
  .rcases k2 k hk with h|h
   .exact .inl h
   .right
    have e:((w.alloc o1).alloc o2).drew.heap.size=w.heap.size+2:=by show ((w.alloc o1).alloc o2).heap.size=_;simp
    omega
  .rw [hfr.block w.heap.size (by show _<((w.alloc o1).alloc o2).heap.size;simp;omega) (by omega)]
   show ((w.alloc o1).alloc o2).heap[w.heap.size]?=_
   rw [Below.heap_alloc _ _ _ (by simp)]
   exact heap_alloc_new _ _
  .rw [hfr.block (w.heap.size+1) (by show _<((w.alloc o1).alloc o2).heap.size;simp) (by omega)]
   exact zaw _ _ _
 clear h hq ho hv ho2 hlen hn hL
 go_enter Tryz.func78,Tryz.ntmps78
 go_upto_region 6 with (go_at_call 92;refine (HD.out _).mono ?_;rintro e w1 ⟨rfl,rfl⟩)
 go_cut [0] (fun x wx=>x=.pointer (some ⟨H,0,none⟩)/\Hid ((∃ v',HAt wx H code rec now last rv (upd qv d v') (zcc qs d (zbK (m::r) m.run m.num)) ps/\(∀ k,zcs H rv (upd qv d v') k->zcs H rv qv k\/w.heap.size+2<=k)/\Fr (zcs H rv qv) w wx)/\wx.heap[w.heap.size]?=some (.cells #[.int .i64 0,.int .i64 0,.int .i64 0,.int .i64 0] 87 (0,0))/\wx.heap[w.heap.size+1]?=some (.cells #[.int .i64 m.dev,.int .i64 m.run,.int .i64 m.num,.int .i64 m.key] 87 (0,0))))
 case first=>
  go_region_with (go_at_call 106;refine (HT.out _ _).mono ?_;rintro e w2 ⟨rfl,ho⟩)
  all_goals
   go_wp2_with fail
   go_meet
   case rel=>exact ⟨rfl,ho⟩
 case rest=>
  obtain ⟨rfl,HX⟩:=hcut
  obtain ⟨r0,r1,r2,r3,y0,y1,y2,y3⟩:=zhU HX.out.2.1
  obtain ⟨s0,s1,s2,s3,_⟩:=zhU HX.out.2.2
  clear HT HD c4 e0 e1 e2 e3 hHl
  go_wp2_with fail
  refine bodyPost_ret (v:=.tuple #[.agg #[.int .i64 m.dev,.int .i64 m.run,.int .i64 m.num,.int .i64 m.key],.int .i64 0]) (by simp [results,Tryz.results78,go_sem,r0,r1,r2,r3]) rfl ⟨rfl,?_⟩
  obtain ⟨v',h1,h2,h3⟩:=HX.out.1
  have hne:∀ k,zcs H rv (upd qv d v') k->k≠w.heap.size:=fun k hk=>by
   rcases h2 k hk with h|h
   .have:=HH.out.1.lt h
    omega
   .omega
  refine ⟨⟨rv,_,h1.keep fun k hk=>?_,fun k hk=>?_⟩,?_⟩
  .have:=hne k hk
   rw [Below.heap_setCell _ _ _ _ this,Below.heap_setCell _ _ _ _ this,Below.heap_setCell _ _ _ _ this,Below.heap_setCell _ _ _ _ this]
  .rcases h2 k hk with h|h
   .exact .inl h
   .exact .inr (by omega)
  .have hw:w.heap.size<=(⟨w.heap.size,0,none⟩:Addr).block:=Nat.le_refl _
   exact (((h3.setCell ⟨w.heap.size,0,none⟩ (.inr hw) _).setCell ⟨w.heap.size,1,none⟩ (.inr hw) _).setCell ⟨w.heap.size,2,none⟩ (.inr hw) _).setCell ⟨w.heap.size,3,none⟩ (.inr hw) _
theorem HAt.setLast {w:World}{H:Nat}{code rec:Value}{now last:Int}{rv:Value}{qv:Nat->Value}{qs:Nat->List Msg}{ps:List Pr}(h:HAt w H code rec now last rv qv qs ps)(t:Int):HAt (w.setCell ⟨H,2,none⟩ (.int .i64 t)) H code rec now t rv qv qs ps:=by
 refine ⟨by rw [zah _ h.blk];rfl,fun d hd=>zaj (h.oB d hd) fun b hb=>?_,h.ql,h.dis,zaj h.rB fun b hb=>?_,h.rl⟩
 .obtain ⟨c,hc⟩:=zad (h.oB d hd) hb
  exact Below.heap_setCell _ _ _ _ (zac hc h.blk (by decide))
 .obtain ⟨c,hc⟩:=zad h.rB hb
  exact Below.heap_setCell _ _ _ _ (zac hc h.blk (by decide))
theorem zmb (H:Nat)(dev:Int)(w:World)(hd:¬ (0<=dev/\dev<=2)):
  Calls Tryz.prog 63 #[.pointer (some ⟨H,0,none⟩),.int .i64 dev] w fun e w'=>e=.returned (.tuple #[.int .i64 0,.int .i64 8])/\w'=w:=by
 have HD:Hid (∀ W:World,Calls Tryz.prog 92 #[.int .i64 dev] W fun e w'=>e=.returned (.bool false)/\W=w'):=fun W=>zfM dev hd W
 clear hd
 go_enter Tryz.func63,Tryz.ntmps63
 go_wp2_with fail
 refine (HD.out _).mono ?_
 rintro e w1 ⟨rfl,rfl⟩
 go_wp2_with fail
 go_ret2
 exact ⟨rfl,rfl⟩
theorem zkp (H:Nat)(code rec:Value)(now last:Int)(rv:Value)(qv:Nat->Value)(qs:Nat->List Msg)(ps:List Pr)(d:Nat)(w:World)(h:HAt w H code rec now last rv qv qs ps)(hd:d<3)(hl:5<=ps.length)(hl2:ps.length<=1000):
  Calls Tryz.prog 63 #[.pointer (some ⟨H,0,none⟩),.int .i64 (d:Nat)] w fun e w'=>e=.returned (.tuple #[.int .i64 0,.int .i64 9])/\w'=w:=by
 have HD:Hid (∀ W:World,Calls Tryz.prog 92 #[.int .i64 (d:Nat)] W fun e w'=>e=.returned (.bool true)/\W=w'):=fun W=>zdl d hd W
 obtain ⟨a,cap,hv⟩:=zag h.rB
 have c3:w.cell? ⟨H,3,none⟩=some (.slice a ps.length cap):=by rw [<- hv];exact (zaa h.blk).trans rfl
 have hli:(5:Int)<=(ps.length:Int):=by omega
 clear h hv
 go_enter Tryz.func63,Tryz.ntmps63
 go_wp2_with fail
 refine (HD.out _).mono ?_
 rintro e w1 ⟨rfl,rfl⟩
 go_wp2_with fail
 go_ret2
 exact ⟨rfl,rfl⟩
set_option maxRecDepth 20000 in
theorem znj (H:Nat)(code rec:Value)(now last:Int)(rv:Value)(qv:Nat->Value)(qs:Nat->List Msg)(ps:List Pr)(d:Nat)(cs:List Ins)(w:World)(h:HAt w H code rec now last rv qv qs ps)(hd:d<3)(hl:¬ 5<=ps.length)(hla:0<=last)(hlb:last<=1000000000000000000)
  (hc:w.ownsRow 0 91 4 code cs.length (zai cs)) (hsnd:zbq cs=true) (ht0:0<=now) (ht1:now<=1000000000):
  Calls Tryz.prog 63 #[.pointer (some ⟨H,0,none⟩),.int .i64 (d:Nat)] w fun e w'=>e=.returned (.tuple #[.int .i64 (last+1),.int .i64 0])/\ProcOut w w' H code rec now (last+1) rv qv (zcc qs d (zco now cs 10000 (qs d) (zaZ (last+1) (d:Nat))).1) (zck (ps++[zaZ (last+1) (d:Nat)]) ps.length (zco now cs 10000 (qs d) (zaZ (last+1) (d:Nat))).2.1 (zco now cs 10000 (qs d) (zaZ (last+1) (d:Nat))).2.2):=by
 have HD:Hid (∀ W:World,Calls Tryz.prog 92 #[.int .i64 (d:Nat)] W fun e w'=>e=.returned (.bool true)/\W=w'):=fun W=>zdl d hd W
 obtain ⟨a,cap,hv⟩:=zag h.rB
 subst hv
 have c2:w.cell? ⟨H,2,none⟩=some (.int .i64 last):=(zaa h.blk).trans rfl
 have z2:w.frozen? ⟨H,2,none⟩=false:=zab h.blk
 have c3:w.cell? ⟨H,3,none⟩=some (.slice a ps.length cap):=(zaa h.blk).trans rfl
 have z3:w.frozen? ⟨H,3,none⟩=false:=zab h.blk
 have hHl:H<w.heap.size:=zae h.blk
 have hli:(ps.length:Int)<5:=by omega
 obtain ⟨W0,hW0⟩:∃ W0,W0=w.setCell ⟨H,2,none⟩ (.int .i64 (last+1)):=⟨_,rfl⟩
 have HW0:=zHd hW0
 have HA0:Hid (HAt W0 H code rec now (last+1) (.slice a ps.length cap) qv qs ps/\Fr (zcs H (.slice a ps.length cap) qv) w W0):=by
  rw [hW0]
  exact ⟨h.setLast _,(Fr.refl _ _).setCell ⟨H,2,none⟩ (.inl (.inl rfl)) _⟩
 have HNT:Hid ((Value.slice a ps.length cap).ownBlock≠some H):=fun hh=>by
  obtain ⟨c,hc'⟩:=zad h.rB hh
  exact zac hc' h.blk (by decide) rfl
 have HP:Hid (∀ wc rv',HAt wc H code rec now (last+1) rv' qv qs (ps++[zaZ (last+1) (d:Nat)])->(∀ k,zcs H rv' qv k->zcs H (.slice a ps.length cap) qv k\/w.heap.size<=k)->Fr (zcs H (.slice a ps.length cap) qv) w wc->Calls Tryz.prog 93 #[.pointer (some ⟨H,0,none⟩),.int .i64 (ps.length:Nat)] wc fun e w'=>e=.returned (.tuple #[])/\ProcOut w w' H code rec now (last+1) (.slice a ps.length cap) qv (zcc qs d (zco now cs 10000 (qs d) (zaZ (last+1) (d:Nat))).1) (zck (ps++[zaZ (last+1) (d:Nat)]) ps.length (zco now cs 10000 (qs d) (zaZ (last+1) (d:Nat))).2.1 (zco now cs 10000 (qs d) (zaZ (last+1) (d:Nat))).2.2)):=fun wc rv' h1 h2 h3=>by
  have hget:(ps++[zaZ (last+1) (d:Nat)])[ps.length]'(by simp)=zaZ (last+1) (d:Nat):=by simp
  have hk:=zfH H code rec now (last+1) rv' qv qs (ps++[zaZ (last+1) (d:Nat)]) ps.length d cs wc h1 (by simp;omega) (by simp) hd (by rw [hget];rfl) (h.code h3 hc) hsnd (by rw [hget];exact zpK (h.ql d hd)) (by rw [hget];show (0:Int)<=_;omega) ht0 ht1
  rw [hget] at hk
  refine hk.mono ?_
  rintro e w' ⟨rfl,ho⟩
  exact ⟨rfl,ho.trans h2 h3⟩
 generalize zco now cs 10000 (qs d) (zaZ (last+1) (d:Nat))=RR at *
 have HRL:Hid (∀ p∈ps++[zaZ (last+1) (d:Nat)],p.regs.length=12):=fun p hp=>by
  rcases List.mem_append.mp hp with hp|hp
  .exact h.rl p hp
  .rw [List.mem_singleton.mp hp];rfl
 clear h hc hsnd hW0
 have hn1:¬ 5<=(ps.length:Int):=by omega
 go_enter Tryz.func63,Tryz.ntmps63
 go_upto_region 7 with (go_at_call 92;refine (HD.out _).mono ?_;rintro e w1 ⟨rfl,rfl⟩)
 rw [<- HW0.out]
 have d2:W0.cell? ⟨H,2,none⟩=some (.int .i64 (last+1)):=(zaa HA0.out.1.blk).trans rfl
 have d3:W0.cell? ⟨H,3,none⟩=some (.slice a ps.length cap):=(zaa HA0.out.1.blk).trans rfl
 have y3:W0.frozen? ⟨H,3,none⟩=false:=zab HA0.out.1.blk
 have hHl0:H<W0.heap.size:=zae HA0.out.1.blk
 go_cut [6] (fun r wx=>r=.int .i64 (ps.length:Nat)/\Hid (∃ rv',HAt wx H code rec now (last+1) rv' qv qs (ps++[zaZ (last+1) (d:Nat)])/\(∀ k,zcs H rv' qv k->zcs H (.slice a ps.length cap) qv k\/w.heap.size<=k)/\Fr (zcs H (.slice a ps.length cap) qv) w wx))
 case first=>
  clear c2 z2 c3 z3 hHl
  go_region_law (refine zby _ rfl (.tmp 32) (.tmp 40) 107 rfl 172 _ 19 152 Tryz.underlying107 Tryz.infoRunZ rfl (by decide) (by decide) (.slice a ps.length cap) ps.length (zaE ps) W0.heap.size (zaz (zaZ (last+1) (d:Nat))) (by rfl) (by exact HA0.out.1.rB.alloc _) (by exact heap_alloc_new _ _) (by rfl) rfl (zeV _) (by omega) ?_;intro g1 cap1 w1 hown1 hgrow hat hlt1;have hq1:w1.cell? ⟨H,3,none⟩=some (.slice a ps.length cap):=(zaa (zal (OneMore.alloc _ _).drew hgrow HA0.out.1.blk HNT.out)).trans rfl;have hf1:w1.frozen? ⟨H,3,none⟩=false:=zab (zal (OneMore.alloc _ _).drew hgrow HA0.out.1.blk HNT.out))
  all_goals
   go_wp2_with fail
   go_meet
   case rel=>
    have hB1:=zal (OneMore.alloc _ _).drew hgrow HA0.out.1.blk HNT.out
    have hfr:Fr (fun k=>(Value.slice a ps.length cap).ownBlock=some k) W0 w1:=Fr.of_push (OneMore.alloc _ _).drew hgrow fun k hk=>hk
    have hsz:w.heap.size=W0.heap.size:=by rw [HW0.out,zaq]
    refine ⟨rfl,.slice (some ⟨g1,0,none⟩) (ps.length+1) cap1,⟨by rw [zah _ hB1];rfl,fun e he=>zaj (HA0.out.1.oB e he) fun b hb=>?_,HA0.out.1.ql,HA0.out.1.dis,?_,HRL.out⟩,fun k hk=>?_,?_⟩
    .obtain ⟨c,hc⟩:=zad (HA0.out.1.oB e he) hb
     rw [Below.heap_setCell _ _ _ _ (zac hc HA0.out.1.blk (by decide))]
     exact hfr.block b (zae hc) fun hh=>by
      obtain ⟨c2,hc2⟩:=zad HA0.out.1.rB hh
      exact zac hc hc2 (by decide) rfl
    .rw [zfm,List.length_append]
     refine zaj hown1 fun b hb=>?_
     obtain ⟨c,hc⟩:=zad hown1 hb
     exact Below.heap_setCell _ _ _ _ (zac hc hB1 (by decide))
    .rcases hk with rfl|hk|hk
     .exact .inl (.inl rfl)
     .exact .inl (.inr (.inl hk))
     .simp [Value.ownBlock] at hk
      subst hk
      rcases hat with h|h
      .exact .inl (.inr (.inr h))
      .right;simp at h;omega
    .exact (HA0.out.2.trans (hfr.mono fun k _ hk=>.inr (.inr hk))).setCell ⟨H,3,none⟩ (.inl (.inl rfl)) _
 case rest=>
  obtain ⟨rfl,HX⟩:=hcut
  obtain ⟨rv',h1,h2,h3⟩:=HX.out
  have HP2:Hid (Calls Tryz.prog 93 #[.pointer (some ⟨H,0,none⟩),.int .i64 (ps.length:Nat)] wc fun e w'=>e=.returned (.tuple #[])/\ProcOut w w' H code rec now (last+1) (.slice a ps.length cap) qv (zcc qs d RR.1) (zck (ps++[zaZ (last+1) (d:Nat)]) ps.length RR.2.1 RR.2.2)):=HP.out wc rv' h1 h2 h3
  clear h1 h2 h3 HX HP c2 z2 c3 z3 hHl d2 d3 y3 hHl0
  go_wp2_with fail
  refine HP2.out.mono ?_
  rintro e w2 ⟨rfl,ho⟩
  have k2:w2.cell? ⟨H,2,none⟩=some (.int .i64 (last+1)):=by
   obtain ⟨⟨_,_,h1,_⟩,_⟩:=ho
   exact (zaa h1.blk).trans rfl
  have HO:=zHd ho
  clear ho HP2
  go_wp2_with fail
  go_ret2
  exact ⟨rfl,HO.out⟩
end Go.Proofs.YtmmmnghiegajmaaGreat
