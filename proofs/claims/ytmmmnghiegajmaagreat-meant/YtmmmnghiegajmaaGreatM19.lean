import Derived.Test.YtmmmnghiegajmaaGreatM17
import Derived.Test.YtmmmnghiegajmaaGreatM18
import Derived.Deep.LoopGhost
namespace Go.Proofs.YtmmmnghiegajmaaGreat
open Go.RowKit Go.Proofs.Herald
theorem Still.of_below {B0:Nat}{w w':World}(h:Below w.heap.size w w'):Still B0 w w':=fun k hk _=>h.block k hk
theorem Still.trans {B0:Nat}{a b c:World}(h:Still B0 a b)(hs:a.heap.size<=b.heap.size)(h2:Still B0 b c):Still B0 a c:=fun k hk hd=>by
 have e:=h k hk hd
 refine (h2 k (by omega) ?_).trans e
 rcases hd with hd|⟨c',t,z,hc,ht⟩
 .exact .inl hd
 .exact .inr ⟨c',t,z,by rw [e];exact hc,ht⟩
theorem SimCore.still {w w':World}{S Q P R:Nat}{cv:Md}{pv:Value}{rec:ByteArray}{now last:Int}{qv:Nat->Value}{qs:Nat->List Msg}{p:Pr}{d B0:Nat}(h:SimCore w S Q P R cv pv rec now last qv qs p)(hd:d<3)(hb:∀ k,zei S Q P R (qv d) k->B0<=k)(hf:Fr (zei S Q P R (qv d)) w w'):Still B0 w w':=by
 intro k hk hs
 refine hf.block k hk fun ho=>?_
 rcases hs with hs|⟨c,t,z,hc,ht⟩
 .have:=hb k ho;omega
 .have key:∀ {c2:Array Value} {t2:TypeId},w.heap[k]?=some (.cells c2 t2 (0,0))->t2≠177->t2≠133->False:=fun h2 h3 h4=>by
   rw [hc] at h2
   simp only [Option.some.injEq,Obj.cells.injEq] at h2
   obtain ⟨_,rfl,_⟩:=h2
   rcases ht with rfl|rfl
   .exact h3 rfl
   .exact h4 rfl
  rcases ho with rfl|rfl|rfl|rfl|ho
  .exact key h.pB (by decide) (by decide)
  .exact key h.qB (by decide) (by decide)
  .exact key h.rB (by decide) (by decide)
  .exact key h.sB (by decide) (by decide)
  .obtain ⟨c2,hc2⟩:=zad (h.oB d hd) ho
   exact key hc2 (by decide) (by decide)
theorem SimCore.setYN {w:World}{S Q P R:Nat}{cv cv':Md}{pv:Value}{rec:ByteArray}{now last:Int}{qv:Nat->Value}{qs:Nat->List Msg}{p:Pr}(h:SimCore w S Q P R cv pv rec now last qv qs p)(j:Nat)(u:Value)(h1:cv'.tx=cv.tx/\cv'.pg=cv.pg/\cv'.code=cv.code)
  (hc:(#[.int .i64 p.id,.int .i64 p.dev,.int .i64 p.sent,.int .i64 p.til,.int .i64 p.num,cv.yv,cv.nv,.slice (some ⟨R,0,none⟩) 12 12,.int .i64 p.tow,.int .i64 p.els]:Array Value).setIfInBounds j u =
   #[.int .i64 p.id,.int .i64 p.dev,.int .i64 p.sent,.int .i64 p.til,.int .i64 p.num,cv'.yv,cv'.nv,.slice (some ⟨R,0,none⟩) 12 12,.int .i64 p.tow,.int .i64 p.els]):
  SimCore (w.setCell ⟨P,j,none⟩ u) S Q P R cv' pv rec now last qv qs p:=by
 refine ⟨?_,?_,fun d hd=>zaj (h.oB d hd) fun b hb=>?_,h.dis,?_,?_,h.rl⟩
 .rw [Below.heap_setCell _ _ _ _ (zac h.sB h.pB (by decide)),h1.1,h1.2.1,h1.2.2];exact h.sB
 .rw [Below.heap_setCell _ _ _ _ (zac h.qB h.pB (by decide))];exact h.qB
 .obtain ⟨c,hc⟩:=zad (h.oB d hd) hb
  exact Below.heap_setCell _ _ _ _ (zac hc h.pB (by decide))
 .rw [zah _ h.pB,hc]
 .rw [Below.heap_setCell _ _ _ _ (zac h.rB h.pB (by decide))];exact h.rB
structure LinkT (t:ByteArray)(B0:Nat)(w:World)(x:Rs)(r:TR):Prop where
 p:r.p=x.p
 base:B0<=w.heap.size
 yes:ItemsAt t w B0 x.yv r.yes
 no:ItemsAt t w B0 x.nv r.no
 okY:ItsOk t r.yes
 okN:ItsOk t r.no
structure DoAt (t:ByteArray)(B0 S Q:Nat)(s:Sd)(pv:Value)(rec:ByteArray)(now last:Int)(qv:Nat->Value)(qs:Nat->List Msg)(x:Rs)(d:Nat)(r0:TR)(res:List Msg×TR×Bool)(w:World)(k:Nat)(wr:World)(lv:Value)(its:List It)(q:List Msg)(p:Pr)(v:Value):Prop where
 items:ItemsAt t wr B0 lv its
 ok:ItsOk t its
 core:SimCore wr S Q x.P x.R (s.md x.yv x.nv) pv rec now last (upd qv d v) (upd qs d q) p
 ms:msL t its<k
 k1:k<=6401
 eq:doT t now k its q {r0 with p:=p}=res
 ql:q.length<=4
 dev:p.dev=x.p.dev
 id:p.id=x.p.id
 s0:0<=p.sent
 s1:p.sent+k<=x.p.sent+6401
 hv:∀ b,v.ownBlock=some b->(qv d).ownBlock=some b\/w.heap.size<=b
 fr:Fr (zei S Q x.P x.R (qv d)) w wr
theorem zkA {w:World}{M:Nat}{e:TypeId}{u0 u1 u2 u3 u4 u5 u6 u7:Value}(h:w.heap[M]?=some (.cells [u0,u1,u2,u3,u4,u5,u6,u7].toArray e (0,0))):
  w.cell? ⟨M,0,none⟩=some u0/\w.cell? ⟨M,1,none⟩=some u1/\w.cell? ⟨M,2,none⟩=some u2/\w.cell? ⟨M,3,none⟩=some u3/\w.cell? ⟨M,4,none⟩=some u4/\w.cell? ⟨M,5,none⟩=some u5/\w.cell? ⟨M,6,none⟩=some u6/\w.cell? ⟨M,7,none⟩=some u7:=
 ⟨(zaa h).trans rfl,(zaa h).trans rfl,(zaa h).trans rfl,(zaa h).trans rfl,(zaa h).trans rfl,(zaa h).trans rfl,(zaa h).trans rfl,(zaa h).trans rfl⟩
def DoOut (t:ByteArray)(B0 S Q:Nat)(s:Sd)(pv:Value)(rec:ByteArray)(now last:Int)(qv:Nat->Value)(qs:Nat->List Msg)(L:List (Nat×Int))(x:Rs)(d:Nat)(res:List Msg×TR×Bool)(w w':World):Prop:=
 ∃ x' v pv',RunOut w w' S Q s pv rec now last qv qs L x d res.1 x' res.2.2 v pv'/\(res.2.2=false->LinkT t B0 w' x' res.2.1)
theorem DoAt.ended {t:ByteArray}{B0 S Q:Nat}{s:Sd}{pv pv':Value}{rec:ByteArray}{now last:Int}{qv:Nat->Value}{qs:Nat->List Msg}{x:Rs}{d:Nat}{r0:TR}{res:List Msg×TR×Bool}{w:World}{k:Nat}{wr wr2 w':World}{lv:Value}{its:List It}{q:List Msg}{p:Pr}{v:Value}{L:List (Nat×Int)}
  (h:DoAt t B0 S Q s pv rec now last qv qs x d r0 res w k wr lv its q p v) (hres:res=(q,{r0 with p:=p},true)) (hf2:Fr (zei S Q x.P x.R (qv d)) w wr2)
  (hC:SimCore w' S Q x.P x.R (s.md x.yv x.nv) pv' rec now last (upd qv d v) (upd qs d q) p) (ho:w'.ownsRow 0 144 1 pv' (L.filter (fun y=>y.2 != p.id)).length (zf8 (L.filter (fun y=>y.2 != p.id)))) (hn:∀ b,pv'.ownBlock=some b->wr2.heap.size<=b) (hf:Fr (fun k=>k=S) wr2 w'):DoOut t B0 S Q s pv rec now last qv qs L x d res w w':=by
 subst hres
 exact ⟨{x with p:=p},v,pv',⟨hC,rfl,rfl,h.id,h.hv,fun hh=>(by cases hh),fun _=>⟨ho,fun b hb=>Nat.le_trans hf2.size (hn b hb)⟩,hf2.trans (hf.mono fun k _ hk=>.inr (.inr (.inr (.inl hk))))⟩,fun hh=>(by cases hh)⟩
structure MidAt (B0 S Q:Nat)(pv:Value)(rec:ByteArray)(now last:Int)(qv:Nat->Value)(qs:Nat->List Msg)(x:Rs)(d:Nat)(w wr:World)(o:Obj)(u:World)(cv:Md)(q:List Msg)(p:Pr)(v:Value):Prop where
 core:SimCore u S Q x.P x.R cv pv rec now last (upd qv d v) (upd qs d q) p
 mark:u.heap[wr.heap.size]?=some o
 still:Still B0 wr u
 size:wr.heap.size<=u.heap.size
 fr:Fr (zei S Q x.P x.R (qv d)) w u
 hv:∀ b,v.ownBlock=some b->(qv d).ownBlock=some b\/w.heap.size<=b
 low:x.P<wr.heap.size/\Q<wr.heap.size/\S<wr.heap.size/\x.R<wr.heap.size/\∀ b,v.ownBlock=some b->b≠wr.heap.size
 base:∀ k,zei S Q x.P x.R v k->B0<=k
theorem DoAt.mid {t:ByteArray}{B0 S Q:Nat}{s:Sd}{pv:Value}{rec:ByteArray}{now last:Int}{qv:Nat->Value}{qs:Nat->List Msg}{x:Rs}{d:Nat}{r0:TR}{res:List Msg×TR×Bool}{w:World}{k:Nat}{wr:World}{lv:Value}{its:List It}{q:List Msg}{p:Pr}{v:Value}
  (h:DoAt t B0 S Q s pv rec now last qv qs x d r0 res w k wr lv its q p v) (hd:d<3) (hb:∀ k,zei S Q x.P x.R (qv d) k->B0<=k) (hB:B0<=w.heap.size) (c:Array Value):MidAt B0 S Q pv rec now last qv qs x d w wr (.cells c 177 (0,0)) (wr.alloc (.cells c 177 (0,0))) (s.md x.yv x.nv) q p v:=by
 have hbl:Below wr.heap.size wr (wr.alloc (.cells c 177 (0,0))):=(Below.refl _ _).alloc (Nat.le_refl _) _
 refine ⟨h.core.below hbl,heap_alloc_new _ _,Still.of_below hbl,hbl.size,h.fr.alloc _,h.hv,⟨zae h.core.pB,zae h.core.qB,zae h.core.sB,zae h.core.rB,fun b hb=>?_⟩,fun k hk=>?_⟩
 .obtain ⟨c,hc⟩:=zad (h.core.oB d hd) (by rw [zaM];exact hb)
  have:=zae hc
  omega
 .rcases hk with rfl|rfl|rfl|rfl|hk
  .exact hb _ (.inl rfl)
  .exact hb _ (.inr (.inl rfl))
  .exact hb _ (.inr (.inr (.inl rfl)))
  .exact hb _ (.inr (.inr (.inr (.inl rfl))))
  .rcases h.hv k hk with h1|h1
   .exact hb _ (.inr (.inr (.inr (.inr h1))))
   .omega
theorem MidAt.items {t:ByteArray}{B0 S Q:Nat}{pv:Value}{rec:ByteArray}{now last:Int}{qv:Nat->Value}{qs:Nat->List Msg}{x:Rs}{d:Nat}{w wr:World}{o:Obj}{u:World}{cv:Md}{q:List Msg}{p:Pr}{v lv:Value}{l:List It}(h:MidAt B0 S Q pv rec now last qv qs x d w wr o u cv q p v)(hB:B0<=wr.heap.size)(hi:ItemsAt t wr B0 lv l):ItemsAt t u B0 lv l:=hi.keep h.still hB
theorem MidAt.below {B0 S Q:Nat}{pv:Value}{rec:ByteArray}{now last:Int}{qv:Nat->Value}{qs:Nat->List Msg}{x:Rs}{d:Nat}{w wr:World}{o:Obj}{u u':World}{cv:Md}{q:List Msg}{p:Pr}{v:Value}(h:MidAt B0 S Q pv rec now last qv qs x d w wr o u cv q p v)(hb:Below u.heap.size u u'):MidAt B0 S Q pv rec now last qv qs x d w wr o u' cv q p v:=
 ⟨h.core.below hb,(hb.block _ (zae h.mark)).trans h.mark,h.still.trans h.size (Still.of_below hb),Nat.le_trans h.size hb.size,h.fr.trans ((Fr.of_below hb).mono fun k hk hs=>by omega),h.hv,h.low,h.base⟩
theorem MidAt.step {B0 S Q:Nat}{pv:Value}{rec:ByteArray}{now last:Int}{qv:Nat->Value}{qs:Nat->List Msg}{x:Rs}{d:Nat}{w wr:World}{o:Obj}{u u':World}{cv cv':Md}{q q':List Msg}{p p':Pr}{v v':Value}(h:MidAt B0 S Q pv rec now last qv qs x d w wr o u cv q p v)(hd:d<3)(hB:B0<=w.heap.size)
  (hC:SimCore u' S Q x.P x.R cv' pv rec now last (upd qv d v') (upd qs d q') p') (hv':∀ b,v'.ownBlock=some b->v.ownBlock=some b\/u.heap.size<=b) (hf:Fr (fun k=>k=x.P\/k=Q\/v.ownBlock=some k) u u'):MidAt B0 S Q pv rec now last qv qs x d w wr o u' cv' q' p' v':=by
 have hf2:Fr (zei S Q x.P x.R (upd qv d v d)) u u':=hf.mono fun k _ hk=>by
  rw [zaM]
  rcases hk with hk|hk|hk
  .exact .inl hk
  .exact .inr (.inl hk)
  .exact .inr (.inr (.inr (.inr hk)))
 have hw:=h.fr.size
 have hm:=zae h.mark
 refine ⟨hC,(hf.block _ hm ?_).trans h.mark,h.still.trans h.size (h.core.still hd (by rw [zaM];exact h.base) hf2),Nat.le_trans h.size hf.size,Fr.wide h.fr (hf.mono fun k _ hk=>?_),fun b hb=>?_,⟨h.low.1,h.low.2.1,h.low.2.2.1,h.low.2.2.2.1,fun b hb=>?_⟩,fun k hk=>?_⟩
 .rintro (hk|hk|hk)
  .have:=h.low.1;omega
  .have:=h.low.2.1;omega
  .exact h.low.2.2.2.2 _ hk rfl
 .rcases hk with hk|hk|hk
  .exact .inl (.inl hk)
  .exact .inl (.inr (.inl hk))
  .rcases h.hv k hk with h1|h1
   .exact .inl (.inr (.inr (.inr (.inr h1))))
   .exact .inr h1
 .rcases hv' b hb with h1|h1
  .exact h.hv b h1
  .exact .inr (by omega)
 .rcases hv' b hb with h1|h1
  .exact h.low.2.2.2.2 b h1
  .omega
 .rcases hk with hk|hk|hk|hk|hk
  .exact h.base k (.inl hk)
  .exact h.base k (.inr (.inl hk))
  .exact h.base k (.inr (.inr (.inl hk)))
  .exact h.base k (.inr (.inr (.inr (.inl hk))))
  .rcases hv' k hk with h1|h1
   .exact h.base k (.inr (.inr (.inr (.inr h1))))
   .omega
theorem MidAt.send {B0 S Q:Nat}{pv:Value}{rec:ByteArray}{now last:Int}{qv:Nat->Value}{qs:Nat->List Msg}{x:Rs}{d:Nat}{w wr:World}{o:Obj}{u:World}{cv:Md}{q:List Msg}{p:Pr}{v:Value}(h:MidAt B0 S Q pv rec now last qv qs x d w wr o u cv q p v)(hd:d<3)(hB:B0<=w.heap.size)(key:Int)(hdev:p.dev=(d:Nat))(hl:q.length<=4)(hs0:0<=p.sent)(hs1:p.sent<=1000000000000000000):
  Calls Tryz.prog 96 #[.pointer (some ⟨S,0,none⟩),.pointer (some ⟨x.P,0,none⟩),.int .i64 key] u fun e u'=>e=.returned (.int .i64 (zan q p key).2.2)/\∃ v',MidAt B0 S Q pv rec now last qv qs x d w wr o u' cv (zan q p key).1 (zan q p key).2.1 v':=by
 have h1:=zqI S Q x.P x.R cv pv rec now last _ _ p key d u h.core hd hdev (by rw [zaM];exact hl) hs0 hs1
 rw [zaM,zaM] at h1
 refine h1.mono ?_
 rintro e u' ⟨rfl,v',hC,hv,hf⟩
 rw [ziQ,ziQ] at hC
 exact ⟨rfl,v',h.step hd hB hC hv hf⟩
theorem MidAt.stop {B0 S Q:Nat}{pv:Value}{rec:ByteArray}{now last:Int}{qv:Nat->Value}{qs:Nat->List Msg}{x:Rs}{d:Nat}{w wr:World}{o:Obj}{u:World}{cv:Md}{q:List Msg}{p:Pr}{v:Value}(h:MidAt B0 S Q pv rec now last qv qs x d w wr o u cv q p v)(hd:d<3)(hB:B0<=w.heap.size)(n num:Int)(h1:-1000000000000<=now+n)(h2:now+n<=1000000000000):
  Calls Tryz.prog 97 #[.pointer (some ⟨S,0,none⟩),.pointer (some ⟨x.P,0,none⟩),.int .i64 n,.int .i64 num] u fun e u'=>e=.returned (.tuple #[])/\MidAt B0 S Q pv rec now last qv qs x d w wr o u' cv q (zbL p now n num) v:=by
 refine (zqJ S Q x.P x.R cv pv rec now last _ _ p n num u h.core h1 h2).mono ?_
 rintro e u' ⟨rfl,hC,hf⟩
 exact ⟨rfl,h.step hd hB hC (fun _ hb=>.inl hb) (hf.mono fun k _ hk=>.inl hk)⟩
theorem MidAt.put {B0 S Q:Nat}{pv:Value}{rec:ByteArray}{now last:Int}{qv:Nat->Value}{qs:Nat->List Msg}{x:Rs}{d:Nat}{w wr:World}{o:Obj}{u:World}{s:Sd}{yv nv:Value}{q:List Msg}{p:Pr}{v:Value}(h:MidAt B0 S Q pv rec now last qv qs x d w wr o u (s.md yv nv) q p v)(hd:d<3)(hB:B0<=w.heap.size)(z:Value):
  MidAt B0 S Q pv rec now last qv qs x d w wr o (u.setCell ⟨x.P,5,none⟩ z) (s.md z nv) q p v/\MidAt B0 S Q pv rec now last qv qs x d w wr o (u.setCell ⟨x.P,6,none⟩ z) (s.md yv z) q p v:=
 ⟨h.step hd hB (h.core.setYN 5 z ⟨rfl,rfl,rfl⟩ rfl) (fun _ hb=>.inl hb) ((Fr.refl _ _).setCell ⟨x.P,5,none⟩ (.inl (.inl rfl)) _),h.step hd hB (h.core.setYN 6 z ⟨rfl,rfl,rfl⟩ rfl) (fun _ hb=>.inl hb) ((Fr.refl _ _).setCell ⟨x.P,6,none⟩ (.inl (.inl rfl)) _)⟩
theorem MidAt.putStill {B0 S Q:Nat}{pv:Value}{rec:ByteArray}{now last:Int}{qv:Nat->Value}{qs:Nat->List Msg}{x:Rs}{d:Nat}{w wr:World}{o:Obj}{u:World}{cv:Md}{q:List Msg}{p:Pr}{v:Value}(h:MidAt B0 S Q pv rec now last qv qs x d w wr o u cv q p v)(hd:d<3)(j:Nat)(z:Value):Still B0 u (u.setCell ⟨x.P,j,none⟩ z):=
 h.core.still hd (by rw [zaM];exact h.base) ((Fr.refl _ _).setCell ⟨x.P,j,none⟩ (.inl (.inl rfl)) _)
theorem MidAt.next {t:ByteArray}{B0 S Q:Nat}{s:Sd}{pv:Value}{rec:ByteArray}{now last:Int}{qv:Nat->Value}{qs:Nat->List Msg}{x:Rs}{d:Nat}{r0:TR}{res:List Msg×TR×Bool}{w wr:World}{o:Obj}{u:World}{q:List Msg}{p:Pr}{v lv:Value}{l:List It}{k:Nat}(h:MidAt B0 S Q pv rec now last qv qs x d w wr o u (s.md x.yv x.nv) q p v)
  (hi:ItemsAt t u B0 lv l) (ok:ItsOk t l) (ms:msL t l<k) (k1:k<=6401) (eq:doT t now k l q {r0 with p:=p}=res) (ql:q.length<=4) (dev:p.dev=x.p.dev) (id:p.id=x.p.id) (s0:0<=p.sent) (s1:p.sent+k<=x.p.sent+6401):DoAt t B0 S Q s pv rec now last qv qs x d r0 res w k u lv l q p v:=
 ⟨hi,ok,h.core,ms,k1,eq,ql,dev,id,s0,s1,h.hv,h.fr⟩
theorem MidAt.out {t:ByteArray}{B0 S Q:Nat}{s:Sd}{pv:Value}{rec:ByteArray}{now last:Int}{qv:Nat->Value}{qs:Nat->List Msg}{x:Rs}{d:Nat}{w wr:World}{o:Obj}{u:World}{yv nv:Value}{q:List Msg}{p:Pr}{v:Value}{L:List (Nat×Int)}{ys ns:List It}(h:MidAt B0 S Q pv rec now last qv qs x d w wr o u (s.md yv nv) q p v)(id:p.id=x.p.id)(hB:B0<=w.heap.size)
  (hy:ItemsAt t u B0 yv ys) (hn:ItemsAt t u B0 nv ns) (oy:ItsOk t ys) (on:ItsOk t ns):DoOut t B0 S Q s pv rec now last qv qs L x d (q,⟨p,ys,ns⟩,false) w u:=
 ⟨{x with p:=p,yv:=yv,nv:=nv},v,pv,⟨h.core,rfl,rfl,id,h.hv,fun _=>rfl,fun hh=>(by cases hh),h.fr⟩,fun _=>⟨rfl,Nat.le_trans hB h.fr.size,hy,hn,oy,on⟩⟩
theorem ItemsAt.form {t:ByteArray}{w:World}{B0:Nat}{v:Value}{l:List It}(h:ItemsAt t w B0 v l):∃ a n c,v=.slice a n c:=by
 obtain ⟨us,a,cap,_,h2,_⟩:=h
 exact ⟨a,_,cap,h2⟩
theorem zlt (t:ByteArray)(B0 dd:Nat)(hh:Hd)(A B:Tree dd)(i:Nat)(ua ub:Value)(sx:ByteArray)(hsx:sx=t.extract hh.p.1 hh.p.2)(rv:Value)(rest:List It)(w:World)(hB:B0<=w.heap.size)(hX:SubsAt t w B0 (⟨dd,(hh,A,B),i⟩,(ua,ub)))(hR:ItemsAt t w B0 rv rest)(hm:rest.length<=1000000):
  Calls Tryz.prog 98 #[.agg #[.string sx,.int .i64 hh.key,.int .i64 hh.n,.int .i64 hh.m,ua,ub,.int .i64 hh.p.1,.int .i64 ((i:Int)+1)],rv] w fun e w'=>∃ ov,e=.returned ov/\ItemsAt t w' B0 ov ((⟨dd,(hh,A,B),i+1⟩:It)::rest)/\Below w.heap.size w w':=by
 subst hsx
 exact zpU t B0 (⟨dd,(hh,A,B),i+1⟩,(ua,ub)) rv rest w hB hX hR hm
end Go.Proofs.YtmmmnghiegajmaaGreat
set_option maxHeartbeats 8000000
namespace Go.Proofs.YtmmmnghiegajmaaGreat
open Go.RowKit Go.Proofs.Herald
set_option maxRecDepth 20000 in
theorem zrk (t:ByteArray)(B0 S Q:Nat)(s:Sd)(pv:Value)(rec:ByteArray)(now last:Int)(qv:Nat->Value)(qs:Nat->List Msg)(L:List (Nat×Int))(x:Rs)(d:Nat)(r0:TR)(its:List It)(lv:Value)(w:World)
  (h:SimCore w S Q x.P x.R (s.md x.yv x.nv) pv rec now last qv qs x.p) (hL:ProcsAt w pv L) (hl:L.length<=1000) (hlk:LinkT t B0 w x r0) (hI:ItemsAt t w B0 lv its) (hok:ItsOk t its) (hb:∀ k,zei S Q x.P x.R (qv d) k->B0<=k)
  (hd:d<3) (hdev:x.p.dev=(d:Nat)) (hq:(qs d).length<=4) (hs0:0<=x.p.sent) (hs1:x.p.sent<=999999999999990000) (hn0:0<=now) (hn1:now<=1000000000):
  Calls Tryz.prog 66 #[.pointer (some ⟨S,0,none⟩),.pointer (some ⟨x.P,0,none⟩),lv] w fun e w'=>e=.returned (.tuple #[])/\DoOut t B0 S Q s pv rec now last qv qs L x d (doT t now (msL t its+1) its (qs d) r0) w w':=by
 obtain ⟨res,hres⟩:∃ res,res=doT t now (msL t its+1) its (qs d) r0:=⟨_,rfl⟩
 rw [<- hres]
 have H0:Hid (DoAt t B0 S Q s pv rec now last qv qs x d r0 res w (msL t its+1) w lv its (qs d) x.p (qv d)):=by
  have h1:=hok.msb
  refine ⟨hI,hok,by rw [zeu,zeu];exact h,by omega,by omega,?_,hq,rfl,rfl,hs0,by omega,fun b hb=>.inl hb,Fr.refl _ _⟩
  rw [hres,<- hlk.p]
 have HW:Hid (SimCore w S Q x.P x.R (s.md x.yv x.nv) pv rec now last qv qs x.p/\ProcsAt w pv L/\LinkT t B0 w x r0/\(∀ k,zei S Q x.P x.R (qv d) k->B0<=k)):=⟨h,hL,hlk,hb⟩
 clear h hL hlk hI hok hb hres hq hs0
 obtain ⟨K,hK⟩:∃ K,K=msL t its+1:=⟨_,rfl⟩
 rw [<- hK] at H0
 clear hK
 go_enter Tryz.func66,Tryz.ntmps66
 go_wp2_with fail
 go_loopg [2] K (fun k lv wr=>∃ (its:List It) (q:List Msg) (p:Pr) (v:Value),Hid (DoAt t B0 S Q s pv rec now last qv qs x d r0 res w k wr lv its q p v))
 case atStart=>exact ⟨its,_,_,_,H0⟩
 case round=>
  clear H0 its
  obtain ⟨its,q,p,v,HT⟩:=hrel
  cases its with
  | nil=>
   obtain ⟨a,cap,rfl⟩:=HT.out.items.nil'
   have HE:Hid (res=(q,{r0 with p:=p},true)):=by
    show _=_
    rw [<- HT.out.eq]
    cases gk with
    | zero=>rfl
    | succ k=>rfl
   have HP:Hid (ProcsAt wr pv L):=HW.out.2.1.after HW.out.1 HT.out.core HT.out.id hd HT.out.fr
   go_wp2_with fail
   refine (znR S Q x.P x.R _ pv rec now last _ _ p L wr HT.out.core HP.out hl).mono ?_
   rintro e w3 ⟨rfl,pv',hC3,ho3,hn3,hf3⟩
   have HO:Hid (DoOut t B0 S Q s pv rec now last qv qs L x d res w w3):=HT.out.ended HE.out HT.out.fr hC3 ho3 hn3 hf3
   clear hC3 ho3 hn3 hf3
   go_wp2_with fail
   go_end0
   exact ⟨rfl,HO.out⟩
  | cons it l=>
   obtain ⟨dd,⟨hh,A,B⟩,i⟩:=it
   obtain ⟨g,off,cap,ub,rfl,hc1,hc2,hgl,hsub,hcell,hrest⟩:=HT.out.items.cons
   obtain ⟨ua,uz⟩:=ub
   obtain ⟨a1,n1,cp1,e1⟩:=hsub.1.one
   obtain ⟨a2,n2,cp2,e2⟩:=hsub.2.1.one
   dsimp only at e1 e2
   subst e1
   subst e2
   obtain ⟨sx,hsx⟩:∃ sx,sx=t.extract hh.p.1 hh.p.2:=⟨_,rfl⟩
   have hby:zaf t hh.p=sx.data.toList:=by rw [hsx];rfl
   have c0:wr.cell? ⟨g,off,none⟩=some (.string sx):=by rw [hsx];exact hcell 0 _ rfl
   have c1:wr.cell? ⟨g,off+1,none⟩=some (.int .i64 hh.key):=hcell 1 _ rfl
   have c2:wr.cell? ⟨g,off+2,none⟩=some (.int .i64 hh.n):=hcell 2 _ rfl
   have c3:wr.cell? ⟨g,off+3,none⟩=some (.int .i64 hh.m):=hcell 3 _ rfl
   have c4:wr.cell? ⟨g,off+4,none⟩=some (.slice a1 n1 cp1):=hcell 4 _ rfl
   have c5:wr.cell? ⟨g,off+5,none⟩=some (.slice a2 n2 cp2):=hcell 5 _ rfl
   have c6:wr.cell? ⟨g,off+6,none⟩=some (.int .i64 hh.p.1):=hcell 6 _ rfl
   have c7:wr.cell? ⟨g,off+7,none⟩=some (.int .i64 (i:Nat)):=hcell 7 _ rfl
   have HSUB:=zHd hsub
   have HB:Hid (B0<=w.heap.size/\B0<=wr.heap.size):=⟨HW.out.2.2.1.base,Nat.le_trans HW.out.2.2.1.base HT.out.fr.size⟩
   have HIT:=HT.out.ok.all ⟨dd,(hh,A,B),i⟩ (List.mem_cons_self ..)
   have hms:=HT.out.ms
   have hmsI:1<=msI t ⟨dd,(hh,A,B),i⟩:=by unfold msI msS;split <;> omega
   rw [zc5] at hms
   obtain ⟨k,rfl⟩:∃ k,gk=k+1:=⟨gk - 1,by omega⟩
   have hll:l.length<=6400:=HT.out.ok.tail.len
   have hpd:p.dev=(d:Nat):=HT.out.dev.trans hdev
   have hpq:=HT.out.ql
   have hp0:=HT.out.s0
   have hp1:=HT.out.s1
   have hk1:=HT.out.k1
   have HM:=HT.out.mid hd HW.out.2.2.2 HB.out.1 #[.string sx,.int .i64 hh.key,.int .i64 hh.n,.int .i64 hh.m,.slice a1 n1 cp1,.slice a2 n2 cp2,.int .i64 hh.p.1,.int .i64 (i:Nat)]
   have HM0:=zHd HM
   have HKD:=zHd hby
   obtain ⟨rv,hrv⟩:∃ rv,rv=if cap=1 then Value.slice (some ⟨g,off,none⟩) l.length 0 else Value.slice (some ⟨g,off+8,none⟩) l.length (cap - 1):=⟨_,rfl⟩
   have HR:Hid (ItemsAt t wr B0 rv l):=by
    show ItemsAt t wr B0 rv l
    rw [hrv]
    split
    .have hl0:l=[]:=List.length_eq_zero_iff.mp (by omega)
     subst hl0
     exact ⟨[],_,0,rfl,rfl,Nat.le_refl _,Nat.zero_le _,fun h=>by simp at h,fun x hx=>by simp at hx⟩
    .exact hrest
   have HRV:=zHd hrv
   have HSX:=zHd hsx
   clear HM hrest hsub hcell hsx hby hrv
   rcases HIT.hd.kind with hk|hk|hk|hk|hk|hk
   .
    have hk':sx.data.toList=zci:=HKD.out.symm.trans hk
    have b1:(sx.toList==[115,101,110,100])=true:=zaO hk'
    have hkept:=zb6 q p hh.key
    have HN:Hid (∀ u v',MidAt B0 S Q pv rec now last qv qs x d w wr (.cells #[.string sx,.int .i64 hh.key,.int .i64 hh.n,.int .i64 hh.m,.slice a1 n1 cp1,.slice a2 n2 cp2,.int .i64 hh.p.1,.int .i64 (i:Nat)] 177 (0,0)) u (s.md x.yv x.nv) (zan q p hh.key).1 (zan q p hh.key).2.1 v'->DoAt t B0 S Q s pv rec now last qv qs x d r0 res w k u rv l (zan q p hh.key).1 (zan q p hh.key).2.1 v'):=fun u v' hm=>
     hm.next (hm.items HB.out.2 HR.out) HT.out.ok.tail (by omega) (by omega) ((zlc (x:=⟨dd,(hh,A,B),i⟩) hk).symm.trans HT.out.eq) (zhx q p hh.key hpq) (hkept.2.2.1.trans HT.out.dev) (hkept.2.1.trans HT.out.id) (by omega) (by omega)
    have HS:Hid (Calls Tryz.prog 96 #[.pointer (some ⟨S,0,none⟩),.pointer (some ⟨x.P,0,none⟩),.int .i64 hh.key] _ _):=HM0.out.send hd HB.out.1 hh.key hpd hpq hp0 (by omega)
    clear hk hk' HIT hkept
    by_cases hcap:cap=1
    all_goals
     first|rw [if_pos hcap] at HRV|rw [if_neg hcap] at HRV
     go_wp2_with fail
     refine HS.out.mono ?_
     rintro e w1 ⟨rfl,v',hm⟩
     have HD:Hid (DoAt t B0 S Q s pv rec now last qv qs x d r0 res w k w1 rv l (zan q p hh.key).1 (zan q p hh.key).2.1 v'):=HN.out w1 v' hm
     rw [HRV.out] at HD
     clear hm HS HN c0 c1 c2 c3 c4 c5 c6 c7
     go_wp2_with fail
     go_roundg k
     case measure=>omega
     case rel=>exact ⟨_,_,_,_,HD⟩
   .
    have hk':sx.data.toList=zcB:=HKD.out.symm.trans hk
    have b1:(sx.toList==[115,101,110,100])=false:=zas (by rw [hk'];decide)
    have b2:(sx.toList==[119,97,105,116])=true:=zaO hk'
    obtain ⟨hn2,hn3⟩:=HIT.hd.wait_n hk
    dsimp only at hn2 hn3
    have HE:Hid (res=(q,{{r0 with p:=p} with p:=zbL p now hh.n 0,no:=l},false)):=HT.out.eq.symm.trans (zle (x:=⟨dd,(hh,A,B),i⟩) hk)
    have HS:Hid (Calls Tryz.prog 97 #[.pointer (some ⟨S,0,none⟩),.pointer (some ⟨x.P,0,none⟩),.int .i64 hh.n,.int .i64 0] _ _):=HM0.out.stop hd HB.out.1 hh.n 0 (by omega) (by omega)
    clear hk hk' HIT
    by_cases hcap:cap=1
    all_goals
     first|rw [if_pos hcap] at HRV|rw [if_neg hcap] at HRV
     rw [HRV.out] at HR
     go_wp2_with fail
     refine HS.out.mono ?_
     rintro e w1 ⟨rfl,hm⟩
     have p6:w1.cell? ⟨x.P,6,none⟩=some x.nv:=(zaa hm.core.pB).trans rfl
     have z6:w1.frozen? ⟨x.P,6,none⟩=false:=zab hm.core.pB
     have HM1:=zHd hm
     clear hm HS c0 c1 c2 c3 c4 c5 c6 c7
     go_wp2_with fail
     (try simp only [Exit.inBlock,Exit.then]);refine bodyPost_ret (results_none rfl _ _ _) rfl ?_
     refine ⟨rfl,?_⟩
     rw [HE.out]
     have fin:∀ z,ItemsAt t wr B0 z l->DoOut t B0 S Q s pv rec now last qv qs L x d (q,{{r0 with p:=p} with p:=zbL p now hh.n 0,no:=l},false) w (w1.setCell ⟨x.P,6,none⟩ z):=fun z hz=>by
      have hm2:=(HM1.out.put hd HB.out.1 z).2
      exact hm2.out (HT.out.id) HB.out.1 (HW.out.2.2.1.yes.keep (HW.out.1.still hd HW.out.2.2.2 hm2.fr) HB.out.1) (hm2.items HB.out.2 hz) HW.out.2.2.1.okY HT.out.ok.tail
     exact fin _ HR.out
   .
    have hk':sx.data.toList=zcN:=HKD.out.symm.trans hk
    have b1:(sx.toList==[115,101,110,100])=false:=zas (by rw [hk'];decide)
    have b2:(sx.toList==[119,97,105,116])=false:=zas (by rw [hk'];decide)
    have b3:(sx.toList==[115,116,111,112])=true:=zaO hk'
    have HE:Hid (res=(q,{r0 with p:=p},true)):=HT.out.eq.symm.trans (zld (x:=⟨dd,(hh,A,B),i⟩) hk)
    have HD:Hid (∀ u,MidAt B0 S Q pv rec now last qv qs x d w wr (.cells #[.string sx,.int .i64 hh.key,.int .i64 hh.n,.int .i64 hh.m,.slice a1 n1 cp1,.slice a2 n2 cp2,.int .i64 hh.p.1,.int .i64 (i:Nat)] 177 (0,0)) u (s.md x.yv x.nv) q p v->DoAt t B0 S Q s pv rec now last qv qs x d r0 res w k u (.slice none 0 0) [] q p v):=fun u hm=>
     hm.next (ItemsAt.none t u B0) (ItsOk.nil t) (by rw [zpM];omega) (by omega) (by rw [HE.out];cases k <;> rfl) hpq HT.out.dev HT.out.id hp0 (by omega)
    clear hk hk' HIT
    by_cases hcap:cap=1
    all_goals
     go_wp2_with fail
     go_roundg k
     case measure=>omega
     case rel=>exact ⟨_,_,_,_,HD.out _ HM0.out⟩
   .
    have hk':sx.data.toList=zec:=HKD.out.symm.trans hk
    have b1:(sx.toList==[115,101,110,100])=false:=zas (by rw [hk'];decide)
    have b2:(sx.toList==[119,97,105,116])=false:=zas (by rw [hk'];decide)
    have b3:(sx.toList==[115,116,111,112])=false:=zas (by rw [hk'];decide)
    have b4:(sx.toList==[97,115,107])=true:=zaO hk'
    obtain ⟨hn2,hn3⟩:=HIT.hd.ask_n hk
    dsimp only at hn2 hn3
    have hkept:=zb6 q p hh.key
    have hq':=zhx q p hh.key hpq
    have hmo:=zeO (t:=t) (x:=⟨dd,(hh,A,B),i⟩) (by rw [hk];exact nAR)
    dsimp only at hmo
    have HEN:Hid ((zan q p hh.key).2.2=0->doT t now k (zaT dd B++l) (zan q p hh.key).1 {r0 with p:=(zan q p hh.key).2.1}=res):=fun h0=>(zhW (r:={r0 with p:=p}) (x:=⟨dd,(hh,A,B),i⟩) hk h0).symm.trans HT.out.eq
    have HEY:Hid (¬ (zan q p hh.key).2.2=0->res=((zan q p hh.key).1,⟨zbL (zan q p hh.key).2.1 now hh.n (zan q p hh.key).2.2,zaT dd A++l,zaT dd B++l⟩,false)):=fun h0=>HT.out.eq.symm.trans (zg9 (r:={r0 with p:=p}) (x:=⟨dd,(hh,A,B),i⟩) hk h0)
    have HOY:Hid (ItsOk t (zaT dd A++l)):=HT.out.ok.yes (x:=⟨dd,(hh,A,B),i⟩) (.inl hk)
    have HON:Hid (ItsOk t (zaT dd B++l)):=HT.out.ok.no (x:=⟨dd,(hh,A,B),i⟩) (.inl hk)
    have hly:=HOY.out.len
    have hln:=HON.out.len
    rw [List.length_append] at hly hln
    have hml:msL t (zaT dd B++l)<k:=by rw [zcg,zdw];omega
    have HS:=HM0.out.send hd HB.out.1 hh.key hpd hpq hp0 (by omega)
    obtain ⟨r,hr⟩:∃ r,r=zan q p hh.key:=⟨_,rfl⟩
    rw [<- hr] at HS HEN HEY hkept hq'
    clear hr
    obtain ⟨q',p',m⟩:=r
    dsimp only at HS HEN HEY hkept hq'
    have HS':Hid (Calls Tryz.prog 96 #[.pointer (some ⟨S,0,none⟩),.pointer (some ⟨x.P,0,none⟩),.int .i64 hh.key] _ _):=HS
    have HKP:Hid (p'.dev=x.p.dev/\p'.id=x.p.id):=⟨hkept.2.2.1.trans HT.out.dev,hkept.2.1.trans HT.out.id⟩
    obtain ⟨_,_,_,hk4,hk5⟩:=hkept
    clear hk hk' HIT HS hmo
    by_cases hcap:cap=1
    all_goals
     first|rw [if_pos hcap] at HRV|rw [if_neg hcap] at HRV
     rw [HRV.out] at HR
     go_wp2_with fail
     refine HS'.out.mono ?_
     rintro e w1 ⟨rfl,v',hm⟩
     have HM1:=zHd hm
     obtain ⟨m0,m1,m2,m3,m4,m5,m6,m7⟩:=zkA hm.mark
     clear hm HS' c0 c1 c2 c3 c4 c5 c6 c7
     by_cases h0:m=0
     .have b5:(m==0)=true:=by simpa using h0
      have HEN2:Hid (_=_):=HEN.out h0
      have hB1:B0<=w1.heap.size:=Nat.le_trans HB.out.2 HM1.out.size
      have HBF:Hid (Calls Tryz.prog 67 #[.slice a2 n2 cp2,_] w1 _):=zde t B0 dd B _ _ l w1 hB1 (HSUB.out.keep HM1.out.still).2.1 (HM1.out.items HB.out.2 HR.out) (by omega) (by omega)
      clear h0 HEN HEY hB1
      go_wp2_with fail
      refine HBF.out.mono ?_
      rintro e w2 ⟨ov,rfl,hi,hb⟩
      have HD:Hid (DoAt t B0 S Q s pv rec now last qv qs x d r0 res w k w2 ov (zaT dd B++l) q' p' v'):=(HM1.out.below hb).next hi HON.out hml (by omega) HEN2.out hq' HKP.out.1 HKP.out.2 (by omega) (by omega)
      clear hi hb HBF m0 m1 m2 m3 m4 m5 m6 m7
      go_wp2_with fail
      go_roundg k
      case measure=>omega
      case rel=>exact ⟨_,_,_,_,HD⟩
     .have b5:(m==0)=false:=by simpa using h0
      have HEY2:Hid (res=_):=HEY.out h0
      have HST:Hid (Calls Tryz.prog 97 #[.pointer (some ⟨S,0,none⟩),.pointer (some ⟨x.P,0,none⟩),.int .i64 hh.n,.int .i64 m] w1 _):=HM1.out.stop hd HB.out.1 hh.n m (by omega) (by omega)
      clear h0 HEN HEY
      go_wp2_with fail
      refine HST.out.mono ?_
      rintro e w2 ⟨rfl,hm⟩
      clear m0 m1 m2 m3 m4 m5 m6 m7 HST
      obtain ⟨m0,m1,m2,m3,m4,m5,m6,m7⟩:=zkA hm.mark
      have HM2:=zHd hm
      have HBF:Hid (Calls Tryz.prog 67 #[.slice a1 n1 cp1,_] w2 _):=zde t B0 dd A _ _ l w2 (Nat.le_trans HB.out.2 hm.size) (HSUB.out.keep hm.still).1 (hm.items HB.out.2 HR.out) (by omega) (by omega)
      clear hm
      go_wp2_with fail
      refine HBF.out.mono ?_
      rintro e w3 ⟨ov,rfl,hi,hb⟩
      clear m0 m1 m2 m3 m4 m5 m6 m7 HBF
      have hm:=HM2.out.below hb
      have HM3:=zHd hm
      have HI3:=zHd hi
      obtain ⟨oa,on,oc,rfl⟩:=hi.form
      have p5:w3.cell? ⟨x.P,5,none⟩=some x.yv:=(zaa hm.core.pB).trans rfl
      have z5:w3.frozen? ⟨x.P,5,none⟩=false:=zab hm.core.pB
      have hm4:=(hm.put hd HB.out.1 (.slice oa on oc)).1
      obtain ⟨m0,m1,m2,m3,m4,m5,m6,m7⟩:=zkA hm4.mark
      have HM4:=zHd hm4
      have HBF:Hid (Calls Tryz.prog 67 #[.slice a2 n2 cp2,_] (w3.setCell ⟨x.P,5,none⟩ (.slice oa on oc)) _):=zde t B0 dd B _ _ l _ (Nat.le_trans HB.out.2 hm4.size) (HSUB.out.keep hm4.still).2.1 (hm4.items HB.out.2 HR.out) (by omega) (by omega)
      have HST4:Hid (Still B0 w3 (w3.setCell ⟨x.P,5,none⟩ (.slice oa on oc))/\w3.heap.size<=(w3.setCell ⟨x.P,5,none⟩ (.slice oa on oc)).heap.size/\B0<=w3.heap.size):=⟨hm.putStill hd 5 _,by simp,Nat.le_trans HB.out.2 hm.size⟩
      clear hm hi hb hm4
      go_wp2_with fail
      refine HBF.out.mono ?_
      rintro e w5 ⟨ov2,rfl,hi,hb⟩
      clear m0 m1 m2 m3 m4 m5 m6 m7 HBF p5 z5
      have hm:=HM4.out.below hb
      have HM5:=zHd hm
      obtain ⟨oa2,on2,oc2,rfl⟩:=hi.form
      have HI5:Hid (ItemsAt t w5 B0 (.slice oa2 on2 oc2) (zaT dd B++l)/\ItemsAt t w5 B0 (.slice oa on oc) (zaT dd A++l)):=⟨hi,HI3.out.keep (HST4.out.1.trans HST4.out.2.1 (Still.of_below hb)) HST4.out.2.2⟩
      have p6:w5.cell? ⟨x.P,6,none⟩=some x.nv:=(zaa hm.core.pB).trans rfl
      have z6:w5.frozen? ⟨x.P,6,none⟩=false:=zab hm.core.pB
      have HFIN:Hid (DoOut t B0 S Q s pv rec now last qv qs L x d res w (w5.setCell ⟨x.P,6,none⟩ (.slice oa2 on2 oc2))):=by
       have hm6:=(hm.put hd HB.out.1 (.slice oa2 on2 oc2)).2
       have hst6:=hm.putStill hd 6 (.slice oa2 on2 oc2)
       have hB5:=Nat.le_trans HB.out.2 hm.size
       show DoOut _ _ _ _ _ _ _ _ _ _ _ _ _ _ _ _ _
       rw [HEY2.out]
       exact hm6.out HKP.out.2 HB.out.1 (HI5.out.2.keep hst6 hB5) (HI5.out.1.keep hst6 hB5) HOY.out HON.out
      clear hm hi hb
      go_wp2_with fail
      (try simp only [Exit.inBlock,Exit.then]);refine bodyPost_ret (results_none rfl _ _ _) rfl ?_
      exact ⟨rfl,HFIN.out⟩
   .
    have hk':sx.data.toList=zbd:=HKD.out.symm.trans hk
    have b1:(sx.toList==[115,101,110,100])=false:=zas (by rw [hk'];decide)
    have b2:(sx.toList==[119,97,105,116])=false:=zas (by rw [hk'];decide)
    have b3:(sx.toList==[115,116,111,112])=false:=zas (by rw [hk'];decide)
    have b4:(sx.toList==[97,115,107])=false:=zas (by rw [hk'];decide)
    have b5:(sx.toList==[114,101,116,114,121])=true:=zaO hk'
    obtain ⟨hn2,hn3,hm2,hm3⟩:=HIT.hd.retry_m hk
    have hi6:=HIT.retry hk
    dsimp only at hn2 hn3 hm2 hm3 hi6
    have hmo:=zeO (t:=t) (x:=⟨dd,(hh,A,B),i⟩) (by rw [hk];exact nTR)
    dsimp only at hmo
    have HOY:Hid (ItsOk t (zaT dd A++l)):=HT.out.ok.yes (x:=⟨dd,(hh,A,B),i⟩) (.inr hk)
    have HON:Hid (ItsOk t (zaT dd B++l)):=HT.out.ok.no (x:=⟨dd,(hh,A,B),i⟩) (.inr hk)
    have hly:=HOY.out.len
    have hln:=HON.out.len
    rw [List.length_append] at hly hln
    by_cases him:(i:Int)=hh.m
    .have bi:((i:Int)==hh.m)=true:=by simpa using him
     have HEN:Hid (doT t now k (zaT dd B++l) q {r0 with p:=p}=res):=(zfF (r:={r0 with p:=p}) (x:=⟨dd,(hh,A,B),i⟩) hk him).symm.trans HT.out.eq
     have hml:msL t (zaT dd B++l)<k:=by rw [zcg,zdw];omega
     clear hk hk' HIT hmo him
     by_cases hcap:cap=1
     all_goals
      first|rw [if_pos hcap] at HRV|rw [if_neg hcap] at HRV
      rw [HRV.out] at HR
      have HBF:Hid (Calls Tryz.prog 67 #[.slice a2 n2 cp2,_] _ _):=zde t B0 dd B _ _ l _ (Nat.le_trans HB.out.2 HM0.out.size) (HSUB.out.keep HM0.out.still).2.1 (HM0.out.items HB.out.2 HR.out) (by omega) (by omega)
      go_wp2_with fail
      refine HBF.out.mono ?_
      rintro e w2 ⟨ov,rfl,hi,hb⟩
      have HD:Hid (DoAt t B0 S Q s pv rec now last qv qs x d r0 res w k w2 ov (zaT dd B++l) q p v):=(HM0.out.below hb).next hi HON.out hml (by omega) HEN.out hpq HT.out.dev HT.out.id (by omega) (by omega)
      clear hi hb HBF c0 c1 c2 c3 c4 c5 c6 c7
      go_wp2_with fail
      go_roundg k
      case measure=>omega
      case rel=>exact ⟨_,_,_,_,HD⟩
    .have bi:((i:Int)==hh.m)=false:=by simpa using him
     have hkept:=zb6 q p hh.key
     have HEY:Hid (res=((zan q p hh.key).1,⟨zbL (zan q p hh.key).2.1 now (hh.n*2 ^ i) (zan q p hh.key).2.2,zaT dd A++l,(⟨dd,(hh,A,B),i+1⟩:It)::l⟩,false)):=HT.out.eq.symm.trans (zeL (r:={r0 with p:=p}) (x:=⟨dd,(hh,A,B),i⟩) hk him)
     have HOA:Hid (ItsOk t ((⟨dd,(hh,A,B),i+1⟩:It)::l)):=HT.out.ok.again (x:=⟨dd,(hh,A,B),i⟩) hk him
     have HS:=HM0.out.send hd HB.out.1 hh.key hpd hpq hp0 (by omega)
     obtain ⟨r,hr⟩:∃ r,r=zan q p hh.key:=⟨_,rfl⟩
     rw [<- hr] at HS HEY hkept
     clear hr
     obtain ⟨q',p',m⟩:=r
     dsimp only at HS HEY hkept
     have HS':Hid (Calls Tryz.prog 96 #[.pointer (some ⟨S,0,none⟩),.pointer (some ⟨x.P,0,none⟩),.int .i64 hh.key] _ _):=HS
     have HKP:Hid (p'.id=x.p.id):=hkept.2.1.trans HT.out.id
     have hi5:i<=5:=by omega
     have hpow:(1:Int)<=2 ^ i/\(2:Int) ^ i<=64:=⟨Herald.ziA,zjA (by omega)⟩
     have hnn:1<=hh.n*2 ^ i/\hh.n*2 ^ i<=64000:=by
      have h1:=Int.mul_le_mul hn3 hpow.2 (by omega) (by omega)
      have h2:=Int.mul_le_mul hn2 hpow.1 (by omega) (by omega)
      omega
     clear hk hk' HIT HS hmo him hkept
     by_cases hcap:cap=1
     all_goals
      first|rw [if_pos hcap] at HRV|rw [if_neg hcap] at HRV
      rw [HRV.out] at HR
      go_wp2_with fail
      refine HS'.out.mono ?_
      rintro e w1 ⟨rfl,v',hm⟩
      have HM1:=zHd hm
      obtain ⟨m0,m1,m2,m3,m4,m5,m6,m7⟩:=zkA hm.mark
      clear hm HS' c0 c1 c2 c3 c4 c5 c6 c7
      have HST:Hid (Calls Tryz.prog 97 #[.pointer (some ⟨S,0,none⟩),.pointer (some ⟨x.P,0,none⟩),.int .i64 (hh.n*2 ^ i),.int .i64 m] w1 _):=HM1.out.stop hd HB.out.1 (hh.n*2 ^ i) m (by omega) (by omega)
      go_wp2_with fail
      refine HST.out.mono ?_
      rintro e w2 ⟨rfl,hm⟩
      clear m0 m1 m2 m3 m4 m5 m6 m7 HST
      obtain ⟨m0,m1,m2,m3,m4,m5,m6,m7⟩:=zkA hm.mark
      have HM2:=zHd hm
      have HBF:Hid (Calls Tryz.prog 67 #[.slice a1 n1 cp1,_] w2 _):=zde t B0 dd A _ _ l w2 (Nat.le_trans HB.out.2 hm.size) (HSUB.out.keep hm.still).1 (hm.items HB.out.2 HR.out) (by omega) (by omega)
      clear hm
      go_wp2_with fail
      refine HBF.out.mono ?_
      rintro e w3 ⟨ov,rfl,hi,hb⟩
      clear m0 m1 m2 m3 m4 m5 m6 m7 HBF
      have hm:=HM2.out.below hb
      have HM3:=zHd hm
      have HI3:=zHd hi
      obtain ⟨oa,on,oc,rfl⟩:=hi.form
      have p5:w3.cell? ⟨x.P,5,none⟩=some x.yv:=(zaa hm.core.pB).trans rfl
      have z5:w3.frozen? ⟨x.P,5,none⟩=false:=zab hm.core.pB
      have hm4:=(hm.put hd HB.out.1 (.slice oa on oc)).1
      obtain ⟨m0,m1,m2,m3,m4,m5,m6,m7⟩:=zkA hm4.mark
      have HM4:=zHd hm4
      have HBF:Hid (Calls Tryz.prog 98 #[.agg #[.string sx,.int .i64 hh.key,.int .i64 hh.n,.int .i64 hh.m,.slice a1 n1 cp1,.slice a2 n2 cp2,.int .i64 hh.p.1,.int .i64 ((i:Int)+1)],_] (w3.setCell ⟨x.P,5,none⟩ (.slice oa on oc)) _):=zlt t B0 dd hh A B i _ _ sx HSX.out _ l _ (Nat.le_trans HB.out.2 hm4.size) (HSUB.out.keep hm4.still) (hm4.items HB.out.2 HR.out) (by omega)
      have HST4:Hid (Still B0 w3 (w3.setCell ⟨x.P,5,none⟩ (.slice oa on oc))/\w3.heap.size<=(w3.setCell ⟨x.P,5,none⟩ (.slice oa on oc)).heap.size/\B0<=w3.heap.size):=⟨hm.putStill hd 5 _,by simp,Nat.le_trans HB.out.2 hm.size⟩
      clear hm hi hb hm4
      go_wp2_with fail
      refine HBF.out.mono ?_
      rintro e w5 ⟨ov2,rfl,hi,hb⟩
      clear m0 m1 m2 m3 m4 m5 m6 m7 HBF p5 z5
      have hm:=HM4.out.below hb
      obtain ⟨oa2,on2,oc2,rfl⟩:=hi.form
      have HI5:Hid (ItemsAt t w5 B0 (.slice oa2 on2 oc2) ((⟨dd,(hh,A,B),i+1⟩:It)::l)/\ItemsAt t w5 B0 (.slice oa on oc) (zaT dd A++l)):=⟨hi,HI3.out.keep (HST4.out.1.trans HST4.out.2.1 (Still.of_below hb)) HST4.out.2.2⟩
      have p6:w5.cell? ⟨x.P,6,none⟩=some x.nv:=(zaa hm.core.pB).trans rfl
      have z6:w5.frozen? ⟨x.P,6,none⟩=false:=zab hm.core.pB
      have HFIN:Hid (DoOut t B0 S Q s pv rec now last qv qs L x d res w (w5.setCell ⟨x.P,6,none⟩ (.slice oa2 on2 oc2))):=by
       have hm6:=(hm.put hd HB.out.1 (.slice oa2 on2 oc2)).2
       have hst6:=hm.putStill hd 6 (.slice oa2 on2 oc2)
       have hB5:=Nat.le_trans HB.out.2 hm.size
       show DoOut _ _ _ _ _ _ _ _ _ _ _ _ _ _ _ _ _
       rw [HEY.out]
       exact hm6.out HKP.out HB.out.1 (HI5.out.2.keep hst6 hB5) (HI5.out.1.keep hst6 hB5) HOY.out HOA.out
      clear hm hi hb
      go_wp2_with fail
      (try simp only [Exit.inBlock,Exit.then]);refine bodyPost_ret (results_none rfl _ _ _) rfl ?_
      exact ⟨rfl,HFIN.out⟩
   .
    have hk':sx.data.toList=zax:=HKD.out.symm.trans hk
    have b1:(sx.toList==[115,101,110,100])=false:=zas (by rw [hk'];decide)
    have b2:(sx.toList==[119,97,105,116])=false:=zas (by rw [hk'];decide)
    have b3:(sx.toList==[115,116,111,112])=false:=zas (by rw [hk'];decide)
    have b4:(sx.toList==[97,115,107])=false:=zas (by rw [hk'];decide)
    have b5:(sx.toList==[114,101,116,114,121])=false:=zas (by rw [hk'];decide)
    have b6:(sx.toList==[114,101,112,101,97,116])=true:=zaO hk'
    obtain ⟨hn2,hn3⟩:=HIT.hd.repeat_n hk
    have hi9:=HIT.repeat' hk
    dsimp only at hn2 hn3 hi9
    by_cases hin:(i:Int)<hh.n
    .have HO1:Hid (ItsOk t ((⟨dd,(hh,A,B),i+1⟩:It)::l)/\ItsOk t (zaT dd A++(⟨dd,(hh,A,B),i+1⟩:It)::l)):=HT.out.ok.more (x:=⟨dd,(hh,A,B),i⟩) hk hin
     have HE:Hid (doT t now k (zaT dd A++(⟨dd,(hh,A,B),i+1⟩:It)::l) q {r0 with p:=p}=res):=(zel (r:={r0 with p:=p}) (x:=⟨dd,(hh,A,B),i⟩) hk hin).symm.trans HT.out.eq
     have hml:msL t (zaT dd A++(⟨dd,(hh,A,B),i+1⟩:It)::l)<k:=by
      rw [zcg,zdw,zc5,zcT (x:=(⟨dd,(hh,A,B),i+1⟩:It)) hk]
      rw [zcT (x:=(⟨dd,(hh,A,B),i⟩:It)) hk] at hms
      have e:=zfd (n:=hh.n.toNat) (i:=i) (W:=msT t dd A) (by omega)
      dsimp only at hms ⊢
      omega
     have hlx:=HO1.out.2.len
     rw [List.length_append,List.length_cons] at hlx
     have HD:Hid (∀ u ov,MidAt B0 S Q pv rec now last qv qs x d w wr (.cells #[.string sx,.int .i64 hh.key,.int .i64 hh.n,.int .i64 hh.m,.slice a1 n1 cp1,.slice a2 n2 cp2,.int .i64 hh.p.1,.int .i64 (i:Nat)] 177 (0,0)) u (s.md x.yv x.nv) q p v->ItemsAt t u B0 ov (zaT dd A++(⟨dd,(hh,A,B),i+1⟩:It)::l)->DoAt t B0 S Q s pv rec now last qv qs x d r0 res w k u ov (zaT dd A++(⟨dd,(hh,A,B),i+1⟩:It)::l) q p v):=fun u ov hm hi=>
      hm.next hi HO1.out.2 hml (by omega) HE.out hpq HT.out.dev HT.out.id hp0 (by omega)
     have hwrap:IntKind.i64.wrap ((i:Int)+1)=(i:Int)+1:=by rw [IntKind.wrap_i64];omega
     clear hk hk' HIT hml hms hmsI
     by_cases hcap:cap=1
     all_goals
      first|rw [if_pos hcap] at HRV|rw [if_neg hcap] at HRV
      rw [HRV.out] at HR
      go_upto_region 29 with fail
      have HONE:Hid (∀ u,MidAt B0 S Q pv rec now last qv qs x d w wr (.cells #[.string sx,.int .i64 hh.key,.int .i64 hh.n,.int .i64 hh.m,.slice a1 n1 cp1,.slice a2 n2 cp2,.int .i64 hh.p.1,.int .i64 (i:Nat)] 177 (0,0)) u (s.md x.yv x.nv) q p v->Calls Tryz.prog 98 #[.agg #[.string sx,.int .i64 hh.key,.int .i64 hh.n,.int .i64 hh.m,.slice a1 n1 cp1,.slice a2 n2 cp2,.int .i64 hh.p.1,.int .i64 ((i:Int)+1)],_] u _):=fun u hm=>by
       exact zlt t B0 dd hh A B i _ _ sx HSX.out _ l u (Nat.le_trans HB.out.2 hm.size) (HSUB.out.keep hm.still) (hm.items HB.out.2 HR.out) (by omega)
      have HBEF:Hid (∀ u oa on oc,MidAt B0 S Q pv rec now last qv qs x d w wr (.cells #[.string sx,.int .i64 hh.key,.int .i64 hh.n,.int .i64 hh.m,.slice a1 n1 cp1,.slice a2 n2 cp2,.int .i64 hh.p.1,.int .i64 (i:Nat)] 177 (0,0)) u (s.md x.yv x.nv) q p v->ItemsAt t u B0 (.slice oa on oc) ((⟨dd,(hh,A,B),i+1⟩:It)::l)->Calls Tryz.prog 67 #[.slice a1 n1 cp1,.slice oa on oc] u _):=fun u oa on oc hm hi=>zde t B0 dd A _ _ ((⟨dd,(hh,A,B),i+1⟩:It)::l) u (Nat.le_trans HB.out.2 hm.size) (HSUB.out.keep hm.still).1 hi (by omega) (by rw [List.length_cons];omega)
      have HMD:Hid (MidAt B0 S Q pv rec now last qv qs x d w wr (.cells #[.string sx,.int .i64 hh.key,.int .i64 hh.n,.int .i64 hh.m,.slice a1 n1 cp1,.slice a2 n2 cp2,.int .i64 hh.p.1,.int .i64 (i:Nat)] 177 (0,0)) _ (s.md x.yv x.nv) q p v):=HM0.out.below (Below.refl _ _).drew
      have HONC:Hid (Calls Tryz.prog 98 #[.agg #[.string sx,.int .i64 hh.key,.int .i64 hh.n,.int .i64 hh.m,.slice a1 n1 cp1,.slice a2 n2 cp2,.int .i64 hh.p.1,   .int .i64 ((i:Int)+1)],_] _ _):=HONE.out _ HMD.out
      clear HONE
      go_region_with (first
       | (go_at_call 98;(with_reducible refine HONC.out.mono ?_);rintro e w2 ⟨ov,rfl,hi,hb⟩;obtain ⟨oa,on,oc,rfl⟩:=hi.form;have hm2:=HMD.out.below hb;obtain ⟨m0,m1,m2,m3,m4,m5,m6,m7⟩:=zkA hm2.mark;have HM2:Hid (MidAt B0 S Q pv rec now last qv qs x d w wr (.cells #[.string sx,.int .i64 hh.key,.int .i64 hh.n,.int .i64 hh.m,.slice a1 n1 cp1,.slice a2 n2 cp2,.int .i64 hh.p.1,.int .i64 (i:Nat)] 177 (0,0)) w2 (s.md x.yv x.nv) q p v):=hm2;have HI2:Hid (ItemsAt t w2 B0 (.slice oa on oc) _):=hi;clear hi hb hm2)
       | (go_at_call 67;have HBC:Hid (Calls Tryz.prog 67 #[.slice a1 n1 cp1,.slice oa on oc] w2 _):=HBEF.out _ _ _ _ HM2.out HI2.out;(with_reducible refine HBC.out.mono ?_);rintro e w3 ⟨ov,rfl,hi,hb⟩;obtain ⟨oa2,on2,oc2,rfl⟩:=hi.form;have HD3:Hid (DoAt t B0 S Q s pv rec now last qv qs x d r0 res w k w3 (.slice oa2 on2 oc2) (zaT dd A++(⟨dd,(hh,A,B),i+1⟩:It)::l) q p v):=HD.out _ _ (HM2.out.below hb) hi;clear hi hb HBC))
      all_goals
       clear HD HONC HBEF c0 c1 c2 c3 c4 c5 c6 c7
       go_wp2_with fail
       go_roundg k
       case measure=>omega
       case rel=>exact ⟨_,_,_,_,HD3⟩
    .have HN:Hid (∀ u,MidAt B0 S Q pv rec now last qv qs x d w wr (.cells #[.string sx,.int .i64 hh.key,.int .i64 hh.n,.int .i64 hh.m,.slice a1 n1 cp1,.slice a2 n2 cp2,.int .i64 hh.p.1,.int .i64 (i:Nat)] 177 (0,0)) u (s.md x.yv x.nv) q p v->DoAt t B0 S Q s pv rec now last qv qs x d r0 res w k u rv l q p v):=fun u hm=>
      hm.next (hm.items HB.out.2 HR.out) HT.out.ok.tail (by omega) (by omega) ((zfi (r:={r0 with p:=p}) (x:=⟨dd,(hh,A,B),i⟩) hk hin).symm.trans HT.out.eq) hpq HT.out.dev HT.out.id hp0 (by omega)
     clear hk hk' HIT
     by_cases hcap:cap=1
     all_goals
      first|rw [if_pos hcap] at HRV|rw [if_neg hcap] at HRV
      have HD:=HN.out _ HM0.out
      rw [HRV.out] at HD
      have HD2:=zHd HD
      clear HD HN
      go_wp2_with fail
      go_roundg k
      case measure=>omega
      case rel=>exact ⟨_,_,_,_,HD2⟩
end Go.Proofs.YtmmmnghiegajmaaGreat
