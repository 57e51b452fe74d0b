import Derived.Test.YtmmmnghiegajmaaGreatM35
import Derived.Deep.LoopGhost
set_option maxHeartbeats 8000000
set_option maxRecDepth 20000
open Go.RowKit Go.Proofs.Herald Go.Proofs.Tryz
namespace Go.Proofs.Herald
def cR (q:List aj):Prop:=q.Pairwise fun a b=>¬ (a.run=b.run/\a.num=b.num)
structure fd (q:List aj)(id sent:Int):Prop where
 dist:cR q
 pos:∀ m∈q,0<m.num
 own:∀ m∈q,m.run=id->m.num<=sent
def bX (id:Int)(q q':List aj):Prop:=∀ m∈q',m.run=id\/m∈q
theorem bX.refl (id:Int)(q:List aj):bX id q q:=fun _ hm=>.inr hm
theorem bX.trans {id:Int}{a b c:List aj}(h:bX id a b)(k:bX id b c):bX id a c:=fun m hm=>by
 rcases k m hm with h1|h1
 .exact .inl h1
 .exact h m h1
theorem cR.take {q:List aj}(h:cR q)(id num:Int):cR (dr q id num):=List.Pairwise.filter _ h
theorem fd.take {q:List aj}{id sent:Int}(h:fd q id sent)(a b:Int):fd (dr q a b) id sent:=
 ⟨h.dist.take a b,fun m hm=>h.pos m (List.mem_filter.mp hm).1,fun m hm=>h.own m (List.mem_filter.mp hm).1⟩
theorem bX.take (id a b:Int)(q:List aj):bX id q (dr q a b):=fun _ hm=>.inr (List.mem_filter.mp hm).1
theorem Cn {m:aj}:∀ {q q':List aj},jq q m=some q'->cR q->(∀ x∈q,x.run=m.run->x.num<m.num)->cR q'/\∀ x∈q',x=m\/x∈q:=by
 intro q;induction q with
 | nil=>intro q' h;cases h
 | cons x r ih=>
  intro q' h hd hn;rw[jq]at h;rw[cR,List.pairwise_cons]at hd;split at h
  .rename_i hx;cases h
   refine⟨?_,fun y hy=>?_⟩
   .rw[cR,List.pairwise_cons];refine⟨fun y hy hh=>?_,hd.2⟩;have:=hn y (Qf _ hy) hh.1.symm;omega
   .rcases List.mem_cons.mp hy with h|h
    .exact .inl h
    .exact .inr (Qf _ h)
  .cases hr:jq r m with
   | none=>rw[hr]at h;cases h
   | some r'=>
    rw[hr]at h;cases h
    obtain⟨h1,h2⟩:=ih hr hd.2 fun y hy=>hn y (Qf _ hy);refine⟨?_,fun y hy=>?_⟩
    .rw[cR,List.pairwise_cons];refine⟨fun y hy hh=>?_,h1⟩;rcases h2 y hy with rfl|h
     .have:=hn x (List.mem_cons_self ..) hh.1;omega
     .exact hd.1 y h hh
    .rcases List.mem_cons.mp hy with h|h
     .exact .inr (by rw[h];exact List.mem_cons_self ..)
     .rcases h2 y h with h|h
      .exact .inl h
      .exact .inr (Qf _ h)
theorem Gg {q:List aj}{p:Pr}{key:Int}(h:fd q p.id p.sent)(h0:0<=p.sent):fd (aB q p key).1 (aB q p key).2.1.id (aB q p key).2.1.sent/\bX p.id q (aB q p key).1:=by
 unfold aB;cases hp:fR q ⟨p.dev,p.id,p.sent+1,key⟩ with
 | none=>exact⟨h,bX.refl _ _⟩
 | some q'=>
  have hn:∀ x∈q,x.run=p.id->x.num<p.sent+1:=fun x hx hr=>by have:=h.own x hx hr;omega
  have A0:cR q'/\∀ x∈q',x=⟨p.dev,p.id,p.sent+1,key⟩\/x∈q:=by
   unfold fR at hp;cases ha:jq q ⟨p.dev,p.id,p.sent+1,key⟩ with
   | some q2=>
    rw[ha]at hp;cases hp
    exact Cn ha h.dist hn
   | none=>
    rw[ha]at hp;simp only at hp;split at hp
    .cases hp
    .cases hp
     refine⟨?_,fun x hx=>?_⟩
     .rw[cR,List.pairwise_append];refine⟨h.dist,by simp,fun x hx y hy hh=>?_⟩;rw[List.mem_singleton]at hy;subst hy;have:=hn x hx hh.1;have h2:x.num=p.sent+1:=hh.2;omega
     .rcases List.mem_append.mp hx with hx|hx
      .exact .inr hx
      .exact .inl (List.mem_singleton.mp hx)
  refine⟨⟨A0.1,fun m hm=>?_,fun m hm hr=>?_⟩,fun m hm=>?_⟩
  .rcases A0.2 m hm with rfl|hm
   .show 0<p.sent+1;omega
   .exact h.pos m hm
  .rcases A0.2 m hm with rfl|hm
   .exact Int.le_refl _
   .have:=h.own m hm hr;show m.num<=p.sent+1;omega
  .rcases A0.2 m hm with rfl|hm
   .exact .inl rfl
   .exact .inr hm
theorem vo (p:Pr)(a c:Int):(iz p a c).id=p.id/\(iz p a c).sent=p.sent:=by
 unfold iz lP;repeat' split
 all_goals exact⟨rfl,rfl⟩
theorem Fn {now:Int}{x:am}{q:List aj}{p:Pr}(h:fd q p.id p.sent)(h0:0<=p.sent):fd (eB now x q p).1 (eB now x q p).2.1.id (eB now x q p).2.1.sent/\bX p.id q (eB now x q p).1/\0<=(eB now x q p).2.1.sent:=by
 have hs:∀ (p':Pr) (key:Int),p'.id=p.id->p'.sent=p.sent->fd (aB q p' key).1 (aB q p' key).2.1.id (aB q p' key).2.1.sent/\bX p.id q (aB q p' key).1/\0<=(aB q p' key).2.1.sent:=fun p' key h1 h2=>by
  have h3:=Gg (q:=q) (p:=p') (key:=key) (by rw[h1,h2];exact h) (by rw[h2];exact h0);have h4:=(kD q p' key).2.2.2.1;rw[h1]at h3;exact⟨h3.1,h3.2,by omega⟩
 unfold eB;split
 .exact⟨h,bX.refl _ _,h0⟩
 .split
  .exact hs _ _ rfl rfl
  .split
   .exact⟨h,bX.refl _ _,h0⟩
   .split
    .split
     .exact hs _ _ rfl rfl
     .exact hs _ _ rfl rfl
    .split
     .exact⟨h,bX.refl _ _,h0⟩
     .split
      .exact⟨h,bX.refl _ _,h0⟩
      .split
       .exact hs _ _ rfl rfl
       .split
        .obtain⟨e1,e2⟩:=vo (bJ p) x.a x.c;refine⟨?_,bX.refl _ _,?_⟩
         .show fd q (iz (bJ p) x.a x.c).id (iz (bJ p) x.a x.c).sent;rw[e1,e2];exact h
         .show 0<=(iz (bJ p) x.a x.c).sent;rw[e2];exact h0
        .split;iterate 2
          .exact⟨h,bX.refl _ _,h0⟩
theorem qN {now:Int}{cs:List am}:∀ (f:Nat) {q:List aj} {p:Pr},fd q p.id p.sent->0<=p.sent->fd (ci now cs f q p).1 p.id (ci now cs f q p).2.1.sent/\bX p.id q (ci now cs f q p).1:=by
 intro f;induction f with
 | zero=>intro q p h _;exact⟨h,bX.refl _ _⟩
 | succ f ih=>
  intro q p h h0;rw[ci];split
  .obtain⟨h1,h2,h3⟩:=Fn (now:=now) (x:=cs[p.els.toNat]) h h0;have A0:=sM now cs[p.els.toNat] q p;split
   .have h4:=ih h1 h3;rw[A0]at h4;exact⟨h4.1,h2.trans h4.2⟩
   .rw[A0]at h1;exact⟨h1,h2⟩
  .exact⟨h,bX.refl _ _⟩
theorem GK {now:Int}{cs:List am}{yes:Bool}{q:List aj}{p:Pr}(h:fd q p.id p.sent)(h0:0<=p.sent):fd (eM now cs yes q p).1 p.id (eM now cs yes q p).2.1.sent/\bX p.id q (eM now cs yes q p).1:=by
 unfold eM;split
 .exact qN (p:={p with els:=p.tow}) 10000 h h0
 .split
  .exact qN 10000 h h0
  .have h1:=qN (now:=now) (cs:=cs) 10000 (h.take p.id p.num) h0;exact⟨h1.1,(bX.take _ _ _ _).trans h1.2⟩
structure bR (h:az Pr):Prop where
 dist:∀ d,cR (h.qs d)
 pos:∀ d,∀ m∈h.qs d,0<m.num
 old:∀ d,∀ m∈h.qs d,m.run<=h.last
 own:∀ r∈h.rs,∀ d,∀ m∈h.qs d,m.run=r.id->m.num<=r.sent
theorem bR.new:bR dM:=⟨fun _=>List.Pairwise.nil,fun _ m hm=>(by simp[dM]at hm),fun _ m hm=>(by simp[dM]at hm),fun r hr=>(by simp[dM]at hr)⟩
theorem bR.now {h:az Pr}(H:bR h)(t:Int):bR {h with now:=t}:=⟨H.dist,H.pos,H.old,H.own⟩
theorem bR.did {E:bM Pr}(hE:∀ p,E.pub p=cF p){h:az Pr}(H:bR h){rs:List Pr}{d:Nat}{q':List aj}{p':Pr}{done:Bool}{id:Int}(hid:p'.id=id)(hl:id<=h.last)(hq:fd q' id p'.sent)(hfrom:bX id (h.qs d) q')(hrs:∀ y∈rs,y.id≠id->y∈h.rs)(hoth:∀ e,e≠d->∀ m∈h.qs e,m.run=id->m.num<=p'.sent):
  bR {h with qs:=bU h.qs d q',rs:=dP E rs p' done}:=by
 have A2:∀ y:Pr,(E.pub y).id=y.id:=fun y=>by rw[hE];rfl
 have A0:∀ e,∀ m∈bU h.qs d q' e,(e=d/\m∈q')\/(e≠d/\m∈h.qs e):=fun e m hm=>by
  unfold bU at hm;split at hm
  .rename_i he;exact .inl ⟨he,hm⟩
  .rename_i he;exact .inr ⟨he,hm⟩
 refine⟨fun e=>?_,fun e m hm=>?_,fun e m hm=>?_,fun r hr e m hm hrun=>?_⟩
 .show cR (bU h.qs d q' e);unfold bU;split
  .exact hq.dist
  .exact H.dist e
 .rcases A0 e m hm with ⟨_,hm⟩|⟨_,hm⟩
  .exact hq.pos m hm
  .exact H.pos e m hm
 .show m.run<=h.last;rcases A0 e m hm with ⟨_,hm⟩|⟨_,hm⟩
  .rcases hfrom m hm with h1|h1
   .rw[h1];exact hl
   .exact H.old d m h1
  .exact H.old e m hm
 .rcases sf hr with ⟨_,rfl⟩|⟨hr,hne⟩
  .rw[hid]at hrun;rcases A0 e m hm with ⟨_,hm⟩|⟨he,hm⟩
   .exact hq.own m hm hrun
   .exact hoth e he m hm hrun
  .rw[A2,A2,hid]at hne;have A1:=hrs r hr hne;rcases A0 e m hm with ⟨_,hm⟩|⟨_,hm⟩
   .rcases hfrom m hm with h1|h1
    .exact absurd (hrun.symm.trans h1) hne
    .exact H.own r A1 d m h1 hrun
   .exact H.own r A1 e m hm hrun
theorem Dw {now:Int}{cs:List am}{yes:Bool}{q:List aj}{p:Pr}:p.sent<=(eM now cs yes q p).2.1.sent:=by
 have A2:∀ (q:List aj) (p:Pr) (key:Int),p.sent<=(aB q p key).2.1.sent:=fun q p key=>(kD q p key).2.2.2.1;have A0:∀ (x:am) (q:List aj) (p:Pr),p.sent<=(eB now x q p).2.1.sent:=fun x q p=>by
  unfold eB;repeat' split
  all_goals first|exact Int.le_refl _|exact A2 _ _ _|skip
  rw[(vo _ _ _).2];exact Int.le_refl _
 have A1:∀ (f:Nat) (q:List aj) (p:Pr),p.sent<=(ci now cs f q p).2.1.sent:=by
  intro f;induction f with
  | zero=>intro q p;exact Int.le_refl _
  | succ f ih=>
   intro q p;rw[ci];split
   .split
    .exact Int.le_trans (A0 _ _ _) (ih _ _)
    .exact A0 _ _ _
   .exact Int.le_refl _
 unfold eM;split
 .exact A1 10000 q {p with els:=p.tow}
 .split
  .exact A1 _ _ _
  .exact A1 _ _ _
theorem bR.go {cs:List am}{h:az Pr}(H:bR h){p:Pr}(hp:p∈h.rs)(yes:Bool)(h0:0<=p.sent)(hl:p.id<=h.last):bR (fv (aE cs) h p yes):=by
 have hE:∀ p,(aE cs).pub p=cF p:=fun _=>rfl;have h1:=GK (now:=h.now) (cs:=cs) (yes:=yes) (q:=h.qs p.dev.toNat) (p:=p) ⟨H.dist _,H.pos _,H.own p hp _⟩ h0;exact H.did hE (rs:=h.rs) (d:=p.dev.toNat) (id:=p.id) (qL _ _ _ _ _) hl h1.1 h1.2 (fun y hy _=>hy) fun e _ m hm hr=>Int.le_trans (H.own p hp e m hm hr) Dw
theorem bR.tickN {cs:List am}{G:Pr->Prop}(hE:dl (aE cs) G)(en:Int)(hen:en<=1000000000):∀ (f:Nat) {C:Int} {h:az Pr},cC (aE cs) G C h->bR h->bR (Herald.gS (aE cs) en f h):=by
 intro f;induction f with
 | zero=>intro C h _ H;exact H
 | succ f ih=>
  intro C h hk H;unfold Herald.gS;cases hd:iM (aE cs) en h.rs with
  | none=>exact H
  | some r=>
   obtain⟨hr,h1,h2⟩:=nD hd;have ht:=hk.til r hr;have h0:=hk.now0;have A0:=hk.go hE hr false ((aE cs).pub r).til (by omega) (by omega) h2 (fun hh=>by cases hh);exact ih A0 (bR.go (H.now ((aE cs).pub r).til) hr false (hk.sent r hr).1 (hk.id r hr))
theorem bR.tick {cs:List am}{G:Pr->Prop}(hE:dl (aE cs) G){C:Int}{h:az Pr}(hk:cC (aE cs) G C h)(H:bR h)(n:Int):bR (dU (aE cs) h n).2:=by
 unfold dU;split
 .exact H
 .rename_i hn;have h3:h.now+n<=1000000000:=by omega
  exact(bR.tickN hE _ h3 5000 hk H).now _
theorem bR.ack {cs:List am}{G:Pr->Prop}{C:Int}{h:az Pr}(hk:cC (aE cs) G C h)(H:bR h)(id num:Int):bR (di (aE cs) h id num).2:=by
 unfold di;cases hf:fm (aE cs) h.rs id with
 | none=>exact H
 | some r=>
  have hr:r∈h.rs:=List.mem_of_find?_eq_some hf;simp only;split
  .exact H
  .split
   .exact H
   .exact bR.go H hr true (hk.sent r hr).1 (hk.id r hr)
theorem bR.cancel {cs:List am}{h:az Pr}(H:bR h)(id:Int):bR (dH (aE cs) h id).2:=by
 unfold dH;cases hf:fm (aE cs) h.rs id with
 | none=>exact H
 | some r=>
  have A0:∀ e,∀ m∈bU h.qs ((aE cs).pub r).dev.toNat (dr (h.qs ((aE cs).pub r).dev.toNat) id 0) e,m∈h.qs e:=fun e m hm=>by
   unfold bU at hm;split at hm
   .rename_i he;rw[he];exact(List.mem_filter.mp hm).1
   .exact hm
  refine⟨fun e=>?_,fun e m hm=>H.pos e m (A0 e m hm),fun e m hm=>H.old e m (A0 e m hm),fun y hy e m hm hr=>H.own y (List.mem_filter.mp hy).1 e m (A0 e m hm) hr⟩;show cR (bU _ _ _ e);unfold bU;split
  .exact(H.dist _).take _ _
  .exact H.dist e
theorem bR.drain {h:az Pr}(H:bR h)(dev:Int):bR (cU h dev).2.2:=by
 unfold cU;split
 .exact H
 .cases hq:h.qs dev.toNat with
  | nil=>exact H
  | cons m r=>
   have hd:=H.dist dev.toNat;rw[hq,cR,List.pairwise_cons]at hd;have A0:∀ e,∀ x∈bU h.qs dev.toNat r e,x∈h.qs e:=fun e x hx=>by
    unfold bU at hx;split at hx
    .rename_i he;rw[he,hq];exact Qf _ hx
    .exact hx
   refine⟨fun e=>?_,fun e x hx=>H.pos e x (A0 e x hx),fun e x hx=>H.old e x (A0 e x hx),fun y hy e x hx hr=>H.own y hy e x (A0 e x hx) hr⟩;show cR (bU _ _ _ e);unfold bU;split
   .exact hd.2
   .exact H.dist e
theorem BC {q:List aj}{m:aj}(h:cR (m::q))(hp:0<m.num):dr (m::q) m.run m.num=q:=by
 rw[cR,List.pairwise_cons]at h;unfold dr;rw[List.filter_cons_of_neg (by unfold cQ;simp)];refine List.filter_eq_self.mpr fun x hx=>?_;have:=h.1 x hx;unfold cQ;by_cases hr:x.run=m.run
 .have hn:¬ x.num=m.num:=fun hh=>this ⟨hr.symm,hh.symm⟩;have h0:¬ m.num=0:=by omega
  simp[hr,hn,h0]
 .simp[hr]
theorem bR.trig {cs:List am}{h:az Pr}(H:bR h)(_hids:∀ r∈h.rs,r.id<=h.last)(dev:Int):bR (cP (aE cs) h dev).2.2:=by
 unfold cP;split
 .exact H
 .split
  .exact H
  .have hE:∀ p,(aE cs).pub p=cF p:=fun _=>rfl;have H1:bR {h with last:=h.last+1}:=⟨H.dist,H.pos,fun d m hm=>by have:=H.old d m hm;show m.run<=h.last+1;omega,H.own⟩;have A0:∀ d,∀ m∈h.qs d,m.run=h.last+1->False:=fun d m hm hr=>by have:=H.old d m hm;omega
   have h1:=qN (now:=h.now) (cs:=cs) 10000 (q:=h.qs dev.toNat) (p:=dg (h.last+1) dev) ⟨H.dist _,H.pos _,fun m hm hr=>(A0 _ m hm hr).elim⟩ (Int.le_refl 0);exact H1.did hE (rs:=h.rs++[dg (h.last+1) dev]) (d:=dev.toNat) (id:=h.last+1) (nJ _ _ _ _ _) (Int.le_refl _) h1.1 h1.2 (fun y hy hne=>by
    rcases List.mem_append.mp hy with hy|hy
    .exact hy
    .rw[List.mem_singleton.mp hy]at hne;exact absurd rfl hne) fun e _ m hm hr=>(A0 e m hm hr).elim
end Go.Proofs.Herald
namespace Go.Proofs.YtmmmnghiegajmaaGreat
structure MH (w:World)(H:Nat)(code rec:Value)(cs:List am)(h:az Pr)(rv:Value)(qv:Nat->Value):Prop where
 at':bK w H code rec h.now h.last rv qv h.qs h.rs
 cd:w.ownsRow 0 91 4 code cs.length (aZ cs)
structure bf (w w':World)(H:Nat)(code rec:Value)(cs:List am)(h:az Pr)(rv:Value)(qv:Nat->Value):Prop where
 ex:∃ rv' qv',MH w' H code rec cs h rv' qv'/\∀ k,bQ H rv' qv' k->bQ H rv qv k\/w.heap.size<=k
 fr:Fr (bQ H rv qv) w w'
theorem bf.of_proc {w w':World}{H:Nat}{code rec:Value}{cs:List am}{h h':az Pr}{rv:Value}{qv:Nat->Value}{qs:Nat->List aj}{ps:List Pr}(H0:MH w H code rec cs h rv qv)(ho:aW w w' H code rec h'.now h'.last rv qv qs ps)(e1:h'.qs=qs)(e2:h'.rs=ps):bf w w' H code rec cs h' rv qv:=by
 subst e1 e2;obtain⟨⟨A1,A0,h1,h2⟩,h3⟩:=ho;exact⟨⟨A1,A0,⟨h1,H0.at'.code h3 H0.cd⟩,h2⟩,h3⟩
theorem bf.below {w w':World}{H:Nat}{code rec:Value}{cs:List am}{h:az Pr}{rv:Value}{qv:Nat->Value}(H0:MH w H code rec cs h rv qv)(hb:Below w.heap.size w w'):bf w w' H code rec cs h rv qv:=by
 have hf:Fr (bQ H rv qv) w w':=(Fr.of_below hb).mono fun k hk hs=>by omega
 exact⟨⟨rv,qv,⟨H0.at'.below hb,H0.at'.code hf H0.cd⟩,fun k hk=>.inl hk⟩,hf⟩
theorem bK.setNow {w:World}{H:Nat}{code rec:Value}{now last:Int}{rv:Value}{qv:Nat->Value}{qs:Nat->List aj}{ps:List Pr}(h:bK w H code rec now last rv qv qs ps)(t:Int):bK (w.setCell ⟨H,1,none⟩ (.int .i64 t)) H code rec t last rv qv qs ps:=by
 refine⟨by rw[cG _ h.blk];rfl,fun d hd=>aT (h.oB d hd) fun b hb=>?_,h.ql,h.dis,aT h.rB fun b hb=>?_,h.rl⟩
 .obtain⟨c,hc⟩:=ax (h.oB d hd) hb;exact q8 _ _ _ _ (aA hc h.blk (by decide))
 .obtain⟨c,hc⟩:=ax h.rB hb;exact q8 _ _ _ _ (aA hc h.blk (by decide))
theorem sX {cs:List am}{C:Int}{h:az Pr}(hk:cC (aE cs) (im cs) C h){p:Pr}(hp:p∈h.rs):∃ d:Nat,d<3/\p.dev=(d:Nat)/\p.dev.toNat=d/\0<=p.sent/\p.sent<=C/\h.now<=p.til/\p.til<=2000000000/\im cs p:=by
 have h1:=hk.dev p hp;have h2:=hk.sent p hp;have h3:=hk.til p hp;have e:(aE cs).pub p=cF p:=rfl;rw[e]at h1 h2 h3;refine⟨p.dev.toNat,?_,?_,rfl,h2.1,h2.2,h3.1,h3.2,hk.good p hp⟩
 .have:p.dev<=2:=h1.2;omega
 .have:0<=p.dev:=h1.1;omega
structure iE (w:World)(H:Nat)(code rec:Value)(cs:List am)(h:az Pr)(rv:Value)(qv:Nat->Value)(C en:Int)(k:Nat)(wr:World)(hj:az Pr)(Cj:Int)(rvj:Value)(qvj:Nat->Value):Prop where
 at':MH wr H code rec cs hj rvj qvj
 ok:cC (aE cs) (im cs) Cj hj
 C1:Cj+10000*k<=C+50000000
 ms:fe (aE cs) en hj.rs<=k
 eq:gS (aE cs) en k hj=gS (aE cs) en 5000 h
 fr:Fr (bQ H rv qv) w wr
 own:∀ k,bQ H rvj qvj k->bQ H rv qv k\/w.heap.size<=k
theorem Dk (H:Nat)(code rec:Value)(cs:List am)(h:az Pr)(rv:Value)(qv:Nat->Value)(n C:Int)(w:World)(H0:MH w H code rec cs h rv qv)(hk:cC (aE cs) (im cs) C h)(hn:¬ (1<=n/\n<=999)\/1000000000<h.now+n):
  Calls prog 69 #[.pointer (some ⟨H,0,none⟩),.int .i64 n] w fun e w'=>e=.returned (.int .i64 14)/\bf w w' H code rec cs h rv qv:=by
 have c1:w.cell? ⟨H,1,none⟩=some (.int .i64 h.now):=(ag H0.at'.blk).trans rfl;have n0:=hk.now0;have n1:=hk.now1;have HS:Hid (bf w w H code rec cs h rv qv):=bf.below H0 (v7 _ _);clear H0 hk;by_cases h1:n<1
 .clear hn;go_enter func69,ntmps69
  go_wp2_with fail
  go_ret;exact⟨rfl,HS.out⟩
 .by_cases h2:999<n
  .clear hn;go_enter func69,ntmps69
   go_wp2_with fail
   go_ret;exact⟨rfl,HS.out⟩
  .have h3:1000000000 - h.now<n:=by omega
   have A0:1<=n:=by omega
   have A1:n<=999:=by omega
   clear hn h1 h2;go_enter func69,ntmps69
   go_wp2_with fail
   go_ret;exact⟨rfl,HS.out⟩
theorem BV (H:Nat)(code rec:Value)(cs:List am)(h:az Pr)(rv:Value)(qv:Nat->Value)(n C:Int)(w:World)(hsnd:em cs=true)(hE:dl (aE cs) (im cs))(H0:MH w H code rec cs h rv qv)(hk:cC (aE cs) (im cs) C h)(hC:C<=900000000000000000)(hn1:1<=n)(hn2:n<=999)(hn3:h.now+n<=1000000000):
  Calls prog 69 #[.pointer (some ⟨H,0,none⟩),.int .i64 n] w fun e w'=>e=.returned (.int .i64 0)/\bf w w' H code rec cs {gS (aE cs) (h.now+n) 5000 h with now:=h.now+n} rv qv:=by
 have c1:w.cell? ⟨H,1,none⟩=some (.int .i64 h.now):=(ag H0.at'.blk).trans rfl;have n0:=hk.now0;obtain⟨en,B7⟩:∃ en,en=h.now+n:=⟨_,rfl⟩;rw[<- B7];have D3:=ah B7;have E0:en<=1000000000:=by omega
 have B8:0<=en:=by omega
 have B0:Hid (iE w H code rec cs h rv qv C en 5000 w h C rv qv):=by
  refine⟨H0,hk,by omega,?_,rfl,Fr.refl _ _,fun k hk=>.inl hk⟩;have h1:=sh (E:=aE cs) (en:=en) (t:=h.now) 1000 (by omega) h.rs (fun r hr=>(hk.til r hr).1);have h2:=hk.len;have:h.rs.length*1000<=5*1000:=Nat.mul_le_mul_right _ h2;omega
 have A9:Hid (∀ (W:World) (hj:az Pr) (A1:Value) (A0:Nat->Value),MH W H code rec cs hj A1 A0->hj.rs.length<=5->Calls prog 100 #[.pointer (some ⟨H,0,none⟩),.int .i64 en] W fun e w'=>e=.returned (.int .i64 (ni en hj.rs:Nat))/\Below W.heap.size W w'/\MH w' H code rec cs hj A1 A0):=fun W hj A1 A0 hm hl=>by
  refine(Gv H code rec hj.now hj.last A1 A0 hj.qs hj.rs en W hm.at' (by omega) B8 (by omega)).mono ?_;rintro e w' ⟨rfl,hb⟩;obtain⟨⟨_,_,h1,_⟩,_⟩:=bf.below hm hb;have hf:Fr (bQ H A1 A0) W w':=(Fr.of_below hb).mono fun k hk hs=>by omega
  exact⟨rfl,hb,hm.at'.below hb,hm.at'.code hf hm.cd⟩
 have C9:=hk.len;clear B7 hk;have E1:¬ n<1:=by omega
 go_enter func69,ntmps69
 go_wp2_with fail
 rw[<- D3];refine(A9 w h rv qv H0 C9).mono ?_;rintro e w1 ⟨rfl,C7,D0⟩;have D5:Hid (iE w H code rec cs h rv qv C en 5000 w1 h C rv qv):=⟨D0,B0.ok,B0.C1,B0.ms,B0.eq,(Fr.of_below C7).mono fun k hk hs=>by omega,fun k hk=>.inl hk⟩;clear C7 D0 H0 c1 B0 C9;go_wp2_with fail
 go_loopg [6] 5000 (fun k u wr=>∃ (hj:az Pr) (Cj:Int) (A1:Value) (A0:Nat->Value),u=.int .i64 (ni en hj.rs:Nat)/\Hid (iE w H code rec cs h rv qv C en k wr hj Cj A1 A0))
 case atStart=>exact⟨h,C,rv,qv,rfl,D5⟩
 case round=>
  obtain⟨hj,Cj,A1,A0,rfl,HT⟩:=hrel;obtain⟨a,D7,B1⟩:=bD HT.at'.at'.rB;have c3:wr.cell? ⟨H,3,none⟩=some (.slice a hj.rs.length D7):=by rw[<- B1];exact(ag HT.at'.at'.blk).trans rfl
  have c1:wr.cell? ⟨H,1,none⟩=some (.int .i64 hj.now):=(ag HT.at'.at'.blk).trans rfl;have z1:wr.frozen? ⟨H,1,none⟩=false:=aC HT.at'.at'.blk;have E4:=HT.ok.len;rcases DN (E:=aE cs) (fun _=>rfl) en hj.rs with ⟨f1,f2⟩|⟨i,hi,f1,f2⟩
  .have B2:Hid (gS (aE cs) en 5000 h=hj):=by
    show _=_;rw[<- HT.eq];cases gk with
    | zero=>rfl
    | succ k=>rw[gS,f1]
   have D4:Hid (bf w (wr.setCell ⟨H,1,none⟩ (.int .i64 en)) H code rec cs {gS (aE cs) en 5000 h with now:=en} rv qv):=by
    rw[B2];have hA:=HT.at'.at'.setNow en;have hf:Fr (bQ H A1 A0) wr (wr.setCell ⟨H,1,none⟩ (.int .i64 en)):=(Fr.refl _ _).setCell ⟨H,1,none⟩ (.inl (.inl rfl)) _;exact⟨⟨A1,A0,⟨hA,HT.at'.at'.code hf HT.at'.cd⟩,HT.own⟩,HT.fr.setCell ⟨H,1,none⟩ (.inl (.inl rfl)) _⟩
   rw[f2];clear f1 f2 B1;go_wp2_with fail
   go_ret;exact⟨rfl,D4⟩
  .obtain⟨A8,B9,A5⟩:=nD f1;obtain⟨g,D8,C0,_,_⟩:=HT.at'.at'.rB.form (by omega);rw[C0]at B1;simp at B1;obtain⟨rfl,rfl⟩:=B1;obtain⟨_,_,_,_,_,_,_,_,_,_,_,_,_,⟨e0,e1,e2,e3,e4⟩,_⟩:=oU (by rw[<- C0];exact HT.at'.at'.rB) HT.at'.at'.rl hi;obtain⟨d,D9,hdev,B6,hs0,hs1,ht0,ht1,A3⟩:=sX HT.ok A8;have D2:=HT.ok.now0;have C6:=HT.C1;have A2:((aE cs).pub hj.rs[i]).til=hj.rs[i].til:=rfl;rw[A2]at B9 A5;have E3:1<=gk:=by
    have h1:=HT.ms;have h2:1<=fe (aE cs) en hj.rs:=by
     have h3:∀ (l:List Pr),hj.rs[i]∈l->1<=fe (aE cs) en l:=by
      intro l;induction l with
      | nil=>intro h;cases h
      | cons y l ih=>
       intro h;simp only[fe,List.map_cons,List.sum_cons]at ih ⊢;rcases List.mem_cons.mp h with h|h
       .rw[<- h,A2];omega
       .have:=ih h;omega
     exact h3 _ A8
    omega
   obtain⟨k,rfl⟩:∃ k,gk=k+1:=⟨gk - 1,by omega⟩;have B2:Hid (gS (aE cs) en 5000 h=gS (aE cs) en k (fv (aE cs) {hj with now:=hj.rs[i].til} hj.rs[i] false)):=by
    show _=_;rw[<- HT.eq,gS,f1];rfl
   have B5:=hE.on hj.rs[i].til false (hj.qs d) hj.rs[i] (HT.ok.good _ A8) (HT.ok.qlen d) (fun hh=>by cases hh);have B3:Hid (fv (aE cs) {hj with now:=hj.rs[i].til} hj.rs[i] false={hj with now:=hj.rs[i].til,qs:=bU hj.qs d (eM hj.rs[i].til cs false (hj.qs d) hj.rs[i]).1,rs:=fZ hj.rs i (eM hj.rs[i].til cs false (hj.qs d) hj.rs[i]).2.1 (eM hj.rs[i].til cs false (hj.qs d) hj.rs[i]).2.2}):=by
    show _=_;rw[<- qf (E:=aE cs) (fun _=>rfl) HT.ok.nd hi (qL _ _ _ _ _)];unfold fv;rw[show((aE cs).pub hj.rs[i]).dev.toNat=d from B6];rfl
   have C5:Hid (cC (aE cs) (im cs) (Cj+10000) (fv (aE cs) {hj with now:=hj.rs[i].til} hj.rs[i] false)):=HT.ok.go hE A8 false hj.rs[i].til (by omega) (by omega) A5 (fun hh=>by cases hh);have C4:Hid (fe (aE cs) en (fv (aE cs) {hj with now:=hj.rs[i].til} hj.rs[i] false).rs<=k):=by
    show fe (aE cs) en _<=k;unfold fv;rw[show((aE cs).pub hj.rs[i]).dev.toNat=d from B6];have h1:=sg (E:=aE cs) (en:=en) (r:=hj.rs[i]) (r':=((aE cs).on hj.rs[i].til false (hj.qs d) hj.rs[i]).2.1) (done:=((aE cs).on hj.rs[i].til false (hj.qs d) hj.rs[i]).2.2) B5.id (by rw[A2];exact B9) (fun hd=>by rw[A2];exact(B5.stop hd).2.1) hj.rs A8 HT.ok.nd;have h2:=HT.ms;exact Nat.le_of_lt_succ (Qh h1 h2)
   have HW:Hid (Calls prog 101 #[.pointer (some ⟨H,0,none⟩),.int .i64 (i:Nat)] (wr.setCell ⟨H,1,none⟩ (.int .i64 hj.rs[i].til)) fun e w'=>e=.returned (.tuple #[])/\∃ A7 A6,iE w H code rec cs h rv qv C en k w' (fv (aE cs) {hj with now:=hj.rs[i].til} hj.rs[i] false) (Cj+10000) A7 A6):=by
    have hA:=HT.at'.at'.setNow hj.rs[i].til;have hf:Fr (bQ H A1 A0) wr (wr.setCell ⟨H,1,none⟩ (.int .i64 hj.rs[i].til)):=(Fr.refl _ _).setCell ⟨H,1,none⟩ (.inl (.inl rfl)) _;have hM:MH (wr.setCell ⟨H,1,none⟩ (.int .i64 hj.rs[i].til)) H code rec cs {hj with now:=hj.rs[i].til} A1 A0:=⟨hA,HT.at'.at'.code hf HT.at'.cd⟩;refine(Dm H code rec hj.rs[i].til hj.last A1 A0 hj.qs hj.rs i d cs _ hA (by omega) hi D9 hdev hM.cd hsnd A3 (by omega) (by omega) (by omega)).mono ?_;rintro e w' ⟨rfl,ho⟩;have hO:=bf.of_proc (h':=fv (aE cs) {hj with now:=hj.rs[i].til} hj.rs[i] false) hM (by rw[B3];exact ho) (by rw[B3]) (by rw[B3]);obtain⟨⟨A7,A6,h1,h2⟩,h3⟩:=hO;refine⟨rfl,A7,A6,⟨h1,C5,by
      have:(10000:Int)*((k:Int)+1)=10000*k+10000:=by omega
      push_cast at C6;omega,C4.out,B2.out.symm,?_,fun b hb=>?_⟩⟩
    .have f1:Fr (fun b=>bQ H rv qv b\/w.heap.size<=b) w wr:=HT.fr.mono fun b _ hb=>.inl hb;have f2:Fr (fun b=>bQ H rv qv b\/w.heap.size<=b) wr w':=(hf.trans h3).mono fun b _ hb=>HT.own b hb;exact(f1.trans f2).mono fun b hb hs=>by
      rcases hs with h|h
      .exact h
      .omega
    .rcases h2 b hb with h|h
     .exact HT.own b h
     .right;have h4:=HT.fr.size;have h5:=hf.size;omega
   have E2:(i:Int)<(hj.rs.length:Int):=by omega
   rw[f2];clear f1 f2 A8 B9 A5 A3 B5 B3 C5 C4 B2 C6 ht0 ht1 hs0 hs1 hdev B6 C0;go_wp2_with fail
   refine HW.mono ?_;rintro e w2 ⟨rfl,A7,A6,B4⟩;have A4:=ah B4;have C2:=A9 w2 _ A7 A6 B4.at' B4.ok.len;clear B4;generalize fv (aE cs) {hj with now:=hj.rs[i].til} hj.rs[i] false=h2 at *;have C3:=ah C2;clear C2;go_wp2_with fail
   refine Calls.mono C3 ?_;rintro e w3 ⟨rfl,C8,D1⟩;have D6:Hid (iE w H code rec cs h rv qv C en k w3 h2 (Cj+10000) A7 A6):=⟨D1,A4.ok,A4.C1,A4.ms,A4.eq,A4.fr.trans ((Fr.of_below C8).mono fun b hb hs=>by omega),A4.out.own⟩;clear C8 D1 A4 C3;go_wp2_with fail
   go_roundg k
   case measure=>omega
   case rel=>exact⟨h2,Cj+10000,A7,A6,rfl,D6⟩
theorem pu (d:Nat)(hd:d<3)(w:World):Calls prog 92 #[.int .i64 (d:Nat)] w fun e w'=>e=.returned (.bool true)/\w=w':=by
 have h1:(d:Int)<3:=by omega
 have h0:(0:Int)<=d:=by omega
 go_enter func92,ntmps92
 go_wp2_with fail
 go_ret;exact⟨rfl,rfl⟩
theorem tQ (dev:Int)(hd:¬ (0<=dev/\dev<=2))(w:World):Calls prog 92 #[.int .i64 dev] w fun e w'=>e=.returned (.bool false)/\w=w':=by
 by_cases h0:0<=dev
 .have h1:3<=dev:=by omega
  clear hd;go_enter func92,ntmps92
  go_wp2_with fail
  go_ret;exact⟨dX (decide_eq_false (by omega)),rfl⟩
 .have h1:dev<0:=by omega
  clear hd h0;go_enter func92,ntmps92
  go_wp2_with fail
  go_ret;exact⟨rfl,rfl⟩
theorem nM {w:World}{R:Nat}{e:TypeId}{u0 u1 u2 u3:Value}(h:w.heap[R]?=some (.cells #[u0,u1,u2,u3] e (0,0))):
  w.cell? ⟨R,0,none⟩=some u0/\w.cell? ⟨R,1,none⟩=some u1/\w.cell? ⟨R,2,none⟩=some u2/\w.cell? ⟨R,3,none⟩=some u3/\w.frozen? ⟨R,0,none⟩=false/\w.frozen? ⟨R,1,none⟩=false/\w.frozen? ⟨R,2,none⟩=false/\w.frozen? ⟨R,3,none⟩=false:=
 ⟨(ag h).trans rfl,(ag h).trans rfl,(ag h).trans rfl,(ag h).trans rfl,aC h,aC h,aC h,aC h⟩
theorem zI (H:Nat)(dev:Int)(w:World)(hd:¬ (0<=dev/\dev<=2)):
  Calls prog 78 #[.pointer (some ⟨H,0,none⟩),.int .i64 dev] w fun e w'=>e=.returned (.tuple #[.agg #[.int .i64 0,.int .i64 0,.int .i64 0,.int .i64 0],.int .i64 8])/\Below w.heap.size w w':=by
 have HD:Hid (∀ W:World,Calls prog 92 #[.int .i64 dev] W fun e w'=>e=.returned (.bool false)/\W=w'):=fun W=>tQ dev hd W;clear hd;go_enter func78,ntmps78
 go_wp2_with fail
 refine(HD _).mono ?_;rintro e w1 ⟨rfl,rfl⟩;go_wp2_with fail
 refine bodyPost_ret (v:=.tuple #[.agg #[.int .i64 0,.int .i64 0,.int .i64 0,.int .i64 0],.int .i64 8]) (by simp[results,results78,go_sem]) rfl ⟨rfl,?_⟩;exact(v7 _ _).alloc (v9 _) _
theorem zf (H:Nat)(code rec:Value)(now last:Int)(rv:Value)(qv:Nat->Value)(qs:Nat->List aj)(ps:List Pr)(d:Nat)(w:World)(h:bK w H code rec now last rv qv qs ps)(hd:d<3)(hq:qs d=[]):
  Calls prog 78 #[.pointer (some ⟨H,0,none⟩),.int .i64 (d:Nat)] w fun e w'=>e=.returned (.tuple #[.agg #[.int .i64 0,.int .i64 0,.int .i64 0,.int .i64 0],.int .i64 13])/\Below w.heap.size w w':=by
 have HD:Hid (∀ W:World,Calls prog 92 #[.int .i64 (d:Nat)] W fun e w'=>e=.returned (.bool true)/\W=w'):=fun W=>pu d hd W;have ho:=h.oB d hd;rw[hq]at ho;obtain⟨a,A0,hv⟩:=bD ho;have c4:w.cell? ⟨H,4+d,none⟩=some (.slice a 0 A0):=by rw[ag h.blk,qo hd,hv];rfl
 have A1:H<w.heap.size:=ak h.blk;have A2:(d:Int)<3:=by omega
 clear h hq ho hv;go_enter func78,ntmps78
 go_wp2_with fail
 refine(HD _).mono ?_;rintro e w1 ⟨rfl,rfl⟩;go_wp2_with fail
 refine bodyPost_ret (v:=.tuple #[.agg #[.int .i64 0,.int .i64 0,.int .i64 0,.int .i64 0],.int .i64 13]) (by simp[results,results78,go_sem]) rfl ⟨rfl,?_⟩;exact(v7 _ _).alloc (v9 _) _
theorem BU (H:Nat)(code rec:Value)(now last:Int)(rv:Value)(qv:Nat->Value)(qs:Nat->List aj)(ps:List Pr)(d:Nat)(m:aj)(r:List aj)(w:World)(h:bK w H code rec now last rv qv qs ps)(hd:d<3)(hq:qs d=m::r)(hn:¬ m.num=0):
  Calls prog 78 #[.pointer (some ⟨H,0,none⟩),.int .i64 (d:Nat)] w fun e w'=>e=.returned (.tuple #[.agg #[.int .i64 m.dev,.int .i64 m.run,.int .i64 m.num,.int .i64 m.key],.int .i64 0])/\aW w w' H code rec now last rv qv (bU qs d (dr (m::r) m.run m.num)) ps:=by
 have HD:Hid (∀ W:World,Calls prog 92 #[.int .i64 (d:Nat)] W fun e w'=>e=.returned (.bool true)/\W=w'):=fun W=>pu d hd W;have ho:=h.oB d hd;have A0:=h.ql d hd;rw[hq]at ho A0;obtain⟨g,A4,hv,_,B0⟩:=ho.form (by simp);have A1:=ho;rw[hv]at A1;obtain⟨e0,e1,e2,e3⟩:=ld A1 (k:=0) (by simp);simp only[Nat.zero_mul,Nat.zero_add,List.getElem_cons_zero]at e0 e1 e2 e3;have c4:w.cell? ⟨H,4+d,none⟩=some (.slice (some ⟨g,0,none⟩) (m::r).length A4):=by rw[ag h.blk,qo hd,hv]
 have A5:H<w.heap.size:=ak h.blk;have A9:(d:Int)<3:=by omega
 have HH:Hid (bK w H code rec now last rv qv qs ps/\qs d=m::r/\(m::r).length<=4):=⟨h,hq,A0⟩;have A7:0<(m::r).length:=by simp
 generalize hL:(m::r).length=L at *;have A8:((L:Int)==0)=false:=by simp;omega
 have HT:Hid (∀ o1 o2,Calls prog 106 #[.pointer (some ⟨H,4+d,none⟩),.int .i64 m.run,.int .i64 m.num] ((w.alloc o1).alloc o2).drew fun e w'=>e=.returned (.tuple #[])/\(∃ v',bK w' H code rec now last rv (bL qv d v') (bU qs d (dr (m::r) m.run m.num)) ps/\(∀ k,bQ H rv (bL qv d v') k->bQ H rv qv k\/w.heap.size+2<=k)/\Fr (bQ H rv qv) w w')/\w'.heap[w.heap.size]?=some o1/\w'.heap[w.heap.size+1]?=some o2):=fun o1 o2=>by
  have hb:Below w.heap.size w ((w.alloc o1).alloc o2).drew:=(((v7 _ _).alloc (v9 _) _).alloc (by simp) _).drew;have h1:=HH.1.below hb;refine(xp H (4+d) _ _ (qv d) (qs d) m.run m.num _ (h1.que hd) hn).mono ?_;rintro e w' ⟨rfl,v',A3⟩;have A2:=A3.fr;obtain⟨k1,k2,k3⟩:=h1.took hd A3 (sO _ _ _ (HH.1.ql d hd));rw[HH.2.1]at k1;refine⟨rfl,⟨v',k1,fun k hk=>?_,((((Fr.refl _ _).alloc _).alloc _).drew).trans k3⟩,?_,?_⟩
  .rcases k2 k hk with h|h
   .exact .inl h
   .right;have e:((w.alloc o1).alloc o2).drew.heap.size=w.heap.size+2:=by show((w.alloc o1).alloc o2).heap.size=_;simp
    omega
  .rw[A2.block w.heap.size (by show _<((w.alloc o1).alloc o2).heap.size;simp;omega) (by omega)];show((w.alloc o1).alloc o2).heap[w.heap.size]?=_;rw[q9 _ _ _ (by simp)];exact v8 _ _
  .rw[A2.block (w.heap.size+1) (by show _<((w.alloc o1).alloc o2).heap.size;simp) (by omega)];exact ey _ _ _
 clear h hq ho hv A1 A0 hn hL;go_enter func78,ntmps78
 go_upto_region 6 with (go_at_call 92;refine(HD _).mono ?_;rintro e w1 ⟨rfl,rfl⟩)
 go_cut [0] (fun x wx=>x=.pointer (some ⟨H,0,none⟩)/\Hid ((∃ v',bK wx H code rec now last rv (bL qv d v') (bU qs d (dr (m::r) m.run m.num)) ps/\(∀ k,bQ H rv (bL qv d v') k->bQ H rv qv k\/w.heap.size+2<=k)/\Fr (bQ H rv qv) w wx)/\wx.heap[w.heap.size]?=some (.cells #[.int .i64 0,.int .i64 0,.int .i64 0,.int .i64 0] 87)/\wx.heap[w.heap.size+1]?=some (.cells #[.int .i64 m.dev,.int .i64 m.run,.int .i64 m.num,.int .i64 m.key] 87)))
 case first=>
  go_region_with (go_at_call 106;refine(HT _ _).mono ?_;rintro e w2 ⟨rfl,ho⟩)
  all_goals
   go_wp2_with fail
   go_meet;case rel=>exact⟨rfl,ho⟩
 case rest=>
  obtain⟨rfl,HX⟩:=hcut;obtain⟨r0,r1,r2,r3,y0,y1,y2,y3⟩:=nM HX.2.1;obtain⟨s0,s1,s2,s3,_⟩:=nM HX.2.2;clear HT HD c4 e0 e1 e2 e3 A5;go_wp2_with fail
  refine bodyPost_ret (v:=.tuple #[.agg #[.int .i64 m.dev,.int .i64 m.run,.int .i64 m.num,.int .i64 m.key],.int .i64 0]) (by simp[results,results78,go_sem,r0,r1,r2,r3]) rfl ⟨rfl,?_⟩;obtain⟨v',h1,h2,h3⟩:=HX.1;have A6:∀ k,bQ H rv (bL qv d v') k->k≠w.heap.size:=fun k hk=>by
   rcases h2 k hk with h|h
   .have:=HH.1.lt h;omega
   .omega
  refine⟨⟨rv,_,h1.keep fun k hk=>?_,fun k hk=>?_⟩,?_⟩
  .have:=A6 k hk;rw[q8 _ _ _ _ this,q8 _ _ _ _ this,q8 _ _ _ _ this,q8 _ _ _ _ this]
  .rcases h2 k hk with h|h
   .exact .inl h
   .exact .inr (by omega)
  .have hw:w.heap.size<=(⟨w.heap.size,0,none⟩:Addr).block:=v9 _;exact(((h3.setCell ⟨w.heap.size,0,none⟩ (.inr hw) _).setCell ⟨w.heap.size,1,none⟩ (.inr hw) _).setCell ⟨w.heap.size,2,none⟩ (.inr hw) _).setCell ⟨w.heap.size,3,none⟩ (.inr hw) _
theorem bK.setLast {w:World}{H:Nat}{code rec:Value}{now last:Int}{rv:Value}{qv:Nat->Value}{qs:Nat->List aj}{ps:List Pr}(h:bK w H code rec now last rv qv qs ps)(t:Int):bK (w.setCell ⟨H,2,none⟩ (.int .i64 t)) H code rec now t rv qv qs ps:=by
 refine⟨by rw[cG _ h.blk];rfl,fun d hd=>aT (h.oB d hd) fun b hb=>?_,h.ql,h.dis,aT h.rB fun b hb=>?_,h.rl⟩
 .obtain⟨c,hc⟩:=ax (h.oB d hd) hb;exact q8 _ _ _ _ (aA hc h.blk (by decide))
 .obtain⟨c,hc⟩:=ax h.rB hb;exact q8 _ _ _ _ (aA hc h.blk (by decide))
theorem BW (H:Nat)(dev:Int)(w:World)(hd:¬ (0<=dev/\dev<=2)):
  Calls prog 63 #[.pointer (some ⟨H,0,none⟩),.int .i64 dev] w fun e w'=>e=.returned (.tuple #[.int .i64 0,.int .i64 8])/\w'=w:=by
 have HD:Hid (∀ W:World,Calls prog 92 #[.int .i64 dev] W fun e w'=>e=.returned (.bool false)/\W=w'):=fun W=>tQ dev hd W;clear hd;go_enter func63,ntmps63
 go_wp2_with fail
 refine(HD _).mono ?_;rintro e w1 ⟨rfl,rfl⟩;go_wp2_with fail
 go_ret2;exact⟨rfl,rfl⟩
theorem zJ (H:Nat)(code rec:Value)(now last:Int)(rv:Value)(qv:Nat->Value)(qs:Nat->List aj)(ps:List Pr)(d:Nat)(w:World)(h:bK w H code rec now last rv qv qs ps)(hd:d<3)(hl:5<=ps.length)(hl2:ps.length<=1000):
  Calls prog 63 #[.pointer (some ⟨H,0,none⟩),.int .i64 (d:Nat)] w fun e w'=>e=.returned (.tuple #[.int .i64 0,.int .i64 9])/\w'=w:=by
 have HD:Hid (∀ W:World,Calls prog 92 #[.int .i64 (d:Nat)] W fun e w'=>e=.returned (.bool true)/\W=w'):=fun W=>pu d hd W;obtain⟨a,A0,hv⟩:=bD h.rB;have c3:w.cell? ⟨H,3,none⟩=some (.slice a ps.length A0):=by rw[<- hv];exact(ag h.blk).trans rfl
 have A1:(5:Int)<=(ps.length:Int):=by omega
 clear h hv;go_enter func63,ntmps63
 go_wp2_with fail
 refine(HD _).mono ?_;rintro e w1 ⟨rfl,rfl⟩;go_wp2_with fail
 go_ret2;exact⟨rfl,rfl⟩
theorem Dl (H:Nat)(code rec:Value)(now last:Int)(rv:Value)(qv:Nat->Value)(qs:Nat->List aj)(ps:List Pr)(d:Nat)(cs:List am)(w:World)(h:bK w H code rec now last rv qv qs ps)(hd:d<3)(hl:¬ 5<=ps.length)(hla:0<=last)(hlb:last<=1000000000000000000)
  (hc:w.ownsRow 0 91 4 code cs.length (aZ cs)) (hsnd:em cs=true) (ht0:0<=now) (ht1:now<=1000000000):
  Calls prog 63 #[.pointer (some ⟨H,0,none⟩),.int .i64 (d:Nat)] w fun e w'=>e=.returned (.tuple #[.int .i64 (last+1),.int .i64 0])/\aW w w' H code rec now (last+1) rv qv (bU qs d (ci now cs 10000 (qs d) (dg (last+1) (d:Nat))).1) (fZ (ps++[dg (last+1) (d:Nat)]) ps.length (ci now cs 10000 (qs d) (dg (last+1) (d:Nat))).2.1 (ci now cs 10000 (qs d) (dg (last+1) (d:Nat))).2.2):=by
 have HD:Hid (∀ W:World,Calls prog 92 #[.int .i64 (d:Nat)] W fun e w'=>e=.returned (.bool true)/\W=w'):=fun W=>pu d hd W;obtain⟨a,A1,hv⟩:=bD h.rB;subst hv;have c2:w.cell? ⟨H,2,none⟩=some (.int .i64 last):=(ag h.blk).trans rfl;have z2:w.frozen? ⟨H,2,none⟩=false:=aC h.blk;have c3:w.cell? ⟨H,3,none⟩=some (.slice a ps.length A1):=(ag h.blk).trans rfl;have z3:w.frozen? ⟨H,3,none⟩=false:=aC h.blk;have B0:H<w.heap.size:=ak h.blk;have B6:(ps.length:Int)<5:=by omega
 obtain⟨W0,A6⟩:∃ W0,W0=w.setCell ⟨H,2,none⟩ (.int .i64 (last+1)):=⟨_,rfl⟩;have A8:=ah A6;have A0:Hid (bK W0 H code rec now (last+1) (.slice a ps.length A1) qv qs ps/\Fr (bQ H (.slice a ps.length A1) qv) w W0):=by
  rw[A6];exact⟨h.setLast _,(Fr.refl _ _).setCell ⟨H,2,none⟩ (.inl (.inl rfl)) _⟩
 have A4:Hid ((Value.slice a ps.length A1).ownBlock≠some H):=fun hh=>by
  obtain⟨c,B3⟩:=ax h.rB hh;exact aA B3 h.blk (by decide) rfl
 have HP:Hid (∀ wc A3,bK wc H code rec now (last+1) A3 qv qs (ps++[dg (last+1) (d:Nat)])->(∀ k,bQ H A3 qv k->bQ H (.slice a ps.length A1) qv k\/w.heap.size<=k)->Fr (bQ H (.slice a ps.length A1) qv) w wc->Calls prog 93 #[.pointer (some ⟨H,0,none⟩),.int .i64 (ps.length:Nat)] wc fun e w'=>e=.returned (.tuple #[])/\aW w w' H code rec now (last+1) (.slice a ps.length A1) qv (bU qs d (ci now cs 10000 (qs d) (dg (last+1) (d:Nat))).1) (fZ (ps++[dg (last+1) (d:Nat)]) ps.length (ci now cs 10000 (qs d) (dg (last+1) (d:Nat))).2.1 (ci now cs 10000 (qs d) (dg (last+1) (d:Nat))).2.2)):=fun wc A3 h1 h2 h3=>by
  have A2:(ps++[dg (last+1) (d:Nat)])[ps.length]'(by simp)=dg (last+1) (d:Nat):=by simp
  have hk:=qi H code rec now (last+1) A3 qv qs (ps++[dg (last+1) (d:Nat)]) ps.length d cs wc h1 (by simp;omega) (by simp) hd (by rw[A2];rfl) (h.code h3 hc) hsnd (by rw[A2];exact FM (h.ql d hd)) (by rw[A2];show(0:Int)<=_;omega) ht0 ht1;rw[A2]at hk;refine hk.mono ?_;rintro e w' ⟨rfl,ho⟩;exact⟨rfl,ho.trans h2 h3⟩
 generalize ci now cs 10000 (qs d) (dg (last+1) (d:Nat))=RR at *;have B2:Hid (∀ p∈ps++[dg (last+1) (d:Nat)],p.regs.length=12):=fun p hp=>by
  rcases List.mem_append.mp hp with hp|hp
  .exact h.rl p hp
  .rw[List.mem_singleton.mp hp];rfl
 clear h hc hsnd A6;have B7:¬ 5<=(ps.length:Int):=by omega
 go_enter func63,ntmps63
 go_upto_region 7 with (go_at_call 92;refine(HD _).mono ?_;rintro e w1 ⟨rfl,rfl⟩)
 rw[<- A8];have d2:W0.cell? ⟨H,2,none⟩=some (.int .i64 (last+1)):=(ag A0.1.blk).trans rfl;have d3:W0.cell? ⟨H,3,none⟩=some (.slice a ps.length A1):=(ag A0.1.blk).trans rfl;have y3:W0.frozen? ⟨H,3,none⟩=false:=aC A0.1.blk;have A5:H<W0.heap.size:=ak A0.1.blk;go_cut [6] (fun r wx=>r=.int .i64 (ps.length:Nat)/\Hid (∃ A3,bK wx H code rec now (last+1) A3 qv qs (ps++[dg (last+1) (d:Nat)])/\(∀ k,bQ H A3 qv k->bQ H (.slice a ps.length A1) qv k\/w.heap.size<=k)/\Fr (bQ H (.slice a ps.length A1) qv) w wx))
 case first=>
  clear c2 z2 c3 z3 B0;go_region_law (refine jk _ rfl (.tmp 32) (.tmp 40) 107 rfl 172 _ 19 152 underlying107 Tryz.infoRunZ rfl (by decide) (by decide) (.slice a ps.length A1) ps.length (ew ps) W0.heap.size (cV (dg (last+1) (d:Nat))) (by rfl) (by exact A0.1.rB.alloc _) (by exact v8 _ _) (by rfl) rfl (ri _) (by omega) ?_;intro g1 cap1 w1 hown1 hgrow hat hlt1;have B8:w1.cell? ⟨H,3,none⟩=some (.slice a ps.length A1):=(ag (cM (ae.alloc _ _).drew hgrow A0.1.blk A4)).trans rfl;have B5:w1.frozen? ⟨H,3,none⟩=false:=aC (cM (ae.alloc _ _).drew hgrow A0.1.blk A4))
  all_goals
   go_wp2_with fail
   go_meet;case rel=>
    have A9:=cM (ae.alloc _ _).drew hgrow A0.1.blk A4;have B1:Fr (fun k=>(Value.slice a ps.length A1).ownBlock=some k) W0 w1:=Fr.of_push (ae.alloc _ _).drew hgrow fun k hk=>hk;have B9:w.heap.size=W0.heap.size:=by rw[A8,ef]
    refine⟨rfl,.slice (some ⟨g1,0,none⟩) (ps.length+1) cap1,⟨by rw[cG _ A9];rfl,fun e he=>aT (A0.1.oB e he) fun b hb=>?_,A0.1.ql,A0.1.dis,?_,B2⟩,fun k hk=>?_,?_⟩
    .obtain⟨c,hc⟩:=ax (A0.1.oB e he) hb;rw[q8 _ _ _ _ (aA hc A0.1.blk (by decide))];exact B1.block b (ak hc) fun hh=>by
      obtain⟨c2,B4⟩:=ax A0.1.rB hh;exact aA hc B4 (by decide) rfl
    .rw[tX,List.length_append];refine aT hown1 fun b hb=>?_;obtain⟨c,hc⟩:=ax hown1 hb;exact q8 _ _ _ _ (aA hc A9 (by decide))
    .rcases hk with rfl|hk|hk
     .exact .inl (.inl rfl)
     .exact .inl (.inr (.inl hk))
     .simp[Value.ownBlock]at hk;subst hk;rcases hat with h|h
      .exact .inl (.inr (.inr h))
      .right;simp at h;omega
    .exact(A0.2.trans (B1.mono fun k _ hk=>.inr (.inr hk))).setCell ⟨H,3,none⟩ (.inl (.inl rfl)) _
 case rest=>
  obtain⟨rfl,HX⟩:=hcut;obtain⟨A3,h1,h2,h3⟩:=id HX;have A7:Hid (Calls prog 93 #[.pointer (some ⟨H,0,none⟩),.int .i64 (ps.length:Nat)] wc fun e w'=>e=.returned (.tuple #[])/\aW w w' H code rec now (last+1) (.slice a ps.length A1) qv (bU qs d RR.1) (fZ (ps++[dg (last+1) (d:Nat)]) ps.length RR.2.1 RR.2.2)):=HP wc A3 h1 h2 h3;clear h1 h2 h3 HX HP c2 z2 c3 z3 B0 d2 d3 y3 A5;go_wp2_with fail
  refine A7.mono ?_;rintro e w2 ⟨rfl,ho⟩;have k2:w2.cell? ⟨H,2,none⟩=some (.int .i64 (last+1)):=by
   obtain⟨⟨_,_,h1,_⟩,_⟩:=ho;exact(ag h1.blk).trans rfl
  have HO:=ah ho;clear ho A7;go_wp2_with fail
  go_ret2;exact⟨rfl,HO⟩
end Go.Proofs.YtmmmnghiegajmaaGreat
