import Derived.Test.YtmmmnghiegajmaaGreatM30
import Derived.Test.YtmmmnghiegajmaaGreatM21
import Derived.Deep.LoopGhost
set_option maxHeartbeats 8000000
set_option maxRecDepth 400000
open Go.RowKit Go.Proofs.Herald Go.Proofs.Tryz
namespace Go.Proofs.YtmmmnghiegajmaaGreat
theorem aN.of_below {B0:Nat}{w w':World}(h:Below w.heap.size w w'):aN B0 w w':=fun k hk _=>h.block k hk
theorem aN.trans {B0:Nat}{a b c:World}(h:aN B0 a b)(hs:a.heap.size<=b.heap.size)(h2:aN B0 b c):aN B0 a c:=fun k hk hd=>by
 have e:=h k hk hd;refine(h2 k (by omega) ?_).trans e;rcases hd with hd|⟨c',t,z,hc,ht⟩
 .exact .inl hd
 .exact .inr ⟨c',t,z,by rw[e];exact hc,ht⟩
theorem au.still {w w':World}{S Q P R:Nat}{cv:Md}{pv:Value}{rec:ByteArray}{now last:Int}{qv:Nat->Value}{qs:Nat->List aj}{p:Pr}{d B0:Nat}(h:au w S Q P R cv pv rec now last qv qs p)(hd:d<3)(hb:∀ k,il S Q P R (qv d) k->B0<=k)(hf:Fr (il S Q P R (qv d)) w w'):aN B0 w w':=by
 intro k hk hs;refine hf.block k hk fun ho=>?_;rcases hs with hs|⟨c,t,z,hc,ht⟩
 .have:=hb k ho;omega
 .have key:∀ {c2:Array Value} {t2:TypeId},w.heap[k]?=some (.cells c2 t2 (0,0))->t2≠177->t2≠133->False:=fun h2 h3 h4=>by
   rw[hc]at h2;simp only[Option.some.injEq,Obj.cells.injEq]at h2;obtain⟨_,rfl,_⟩:=h2;rcases ht with rfl|rfl
   .exact h3 rfl
   .exact h4 rfl
  rcases ho with rfl|rfl|rfl|rfl|ho
  .exact key h.pB (by decide) (by decide)
  .exact key h.qB (by decide) (by decide)
  .exact key h.rB (by decide) (by decide)
  .exact key h.sB (by decide) (by decide)
  .obtain⟨c2,A0⟩:=ax (h.oB d hd) ho;exact key A0 (by decide) (by decide)
theorem au.setYN {w:World}{S Q P R:Nat}{cv cv':Md}{pv:Value}{rec:ByteArray}{now last:Int}{qv:Nat->Value}{qs:Nat->List aj}{p:Pr}(h:au w S Q P R cv pv rec now last qv qs p)(j:Nat)(u:Value)(h1:cv'.tx=cv.tx/\cv'.pg=cv.pg/\cv'.code=cv.code)
  (hc:(#[.int .i64 p.id,.int .i64 p.dev,.int .i64 p.sent,.int .i64 p.til,.int .i64 p.num,cv.yv,cv.nv,.slice (some ⟨R,0,none⟩) 12 12,.int .i64 p.tow,.int .i64 p.els]:Array Value).setIfInBounds j u =
   #[.int .i64 p.id,.int .i64 p.dev,.int .i64 p.sent,.int .i64 p.til,.int .i64 p.num,cv'.yv,cv'.nv,.slice (some ⟨R,0,none⟩) 12 12,.int .i64 p.tow,.int .i64 p.els]):
  au (w.setCell ⟨P,j,none⟩ u) S Q P R cv' pv rec now last qv qs p:=by
 refine⟨?_,?_,fun d hd=>aT (h.oB d hd) fun b hb=>?_,h.dis,?_,?_,h.rl⟩
 .rw[q8 _ _ _ _ (aA h.sB h.pB (by decide)),h1.1,h1.2.1,h1.2.2];exact h.sB
 .rw[q8 _ _ _ _ (aA h.qB h.pB (by decide))];exact h.qB
 .obtain⟨c,hc⟩:=ax (h.oB d hd) hb;exact q8 _ _ _ _ (aA hc h.pB (by decide))
 .rw[cG _ h.pB,hc]
 .rw[q8 _ _ _ _ (aA h.rB h.pB (by decide))];exact h.rB
structure dS (t:ByteArray)(B0:Nat)(w:World)(x:Rs)(r:TR):Prop where
 p:r.p=x.p
 base:B0<=w.heap.size
 yes:aw t w B0 x.yv r.yes
 no:aw t w B0 x.nv r.no
 okY:aK t r.yes
 okN:aK t r.no
structure eU (t:ByteArray)(B0 S Q:Nat)(s:Sd)(pv:Value)(rec:ByteArray)(now last:Int)(qv:Nat->Value)(qs:Nat->List aj)(x:Rs)(d:Nat)(r0:TR)(res:List aj×TR×Bool)(w:World)(k:Nat)(wr:World)(lv:Value)(its:List It)(q:List aj)(p:Pr)(v:Value):Prop where
 items:aw t wr B0 lv its
 ok:aK t its
 core:au wr S Q x.P x.R (s.md x.yv x.nv) pv rec now last (bL qv d v) (bL qs d q) p
 ms:dF t its<k
 k1:k<=6401
 eq:cD t now k its q {r0 with p:=p}=res
 ql:q.length<=4
 dev:p.dev=x.p.dev
 id:p.id=x.p.id
 s0:0<=p.sent
 s1:p.sent+k<=x.p.sent+6401
 hv:∀ b,v.ownBlock=some b->(qv d).ownBlock=some b\/w.heap.size<=b
 fr:Fr (il S Q x.P x.R (qv d)) w wr
theorem mY {w:World}{M:Nat}{e:TypeId}{u0 u1 u2 u3 u4 u5 u6 u7:Value}(h:w.heap[M]?=some (.cells [u0,u1,u2,u3,u4,u5,u6,u7].toArray e (0,0))):
  w.cell? ⟨M,0,none⟩=some u0/\w.cell? ⟨M,1,none⟩=some u1/\w.cell? ⟨M,2,none⟩=some u2/\w.cell? ⟨M,3,none⟩=some u3/\w.cell? ⟨M,4,none⟩=some u4/\w.cell? ⟨M,5,none⟩=some u5/\w.cell? ⟨M,6,none⟩=some u6/\w.cell? ⟨M,7,none⟩=some u7:=
 ⟨(ag h).trans rfl,(ag h).trans rfl,(ag h).trans rfl,(ag h).trans rfl,(ag h).trans rfl,(ag h).trans rfl,(ag h).trans rfl,(ag h).trans rfl⟩
def cW (t:ByteArray)(B0 S Q:Nat)(s:Sd)(pv:Value)(rec:ByteArray)(now last:Int)(qv:Nat->Value)(qs:Nat->List aj)(L:List (Nat×Int))(x:Rs)(d:Nat)(res:List aj×TR×Bool)(w w':World):Prop:=
 ∃ x' v pv',fS w w' S Q s pv rec now last qv qs L x d res.1 x' res.2.2 v pv'/\(res.2.2=false->dS t B0 w' x' res.2.1)
theorem eU.ended {t:ByteArray}{B0 S Q:Nat}{s:Sd}{pv pv':Value}{rec:ByteArray}{now last:Int}{qv:Nat->Value}{qs:Nat->List aj}{x:Rs}{d:Nat}{r0:TR}{res:List aj×TR×Bool}{w:World}{k:Nat}{wr wr2 w':World}{lv:Value}{its:List It}{q:List aj}{p:Pr}{v:Value}{L:List (Nat×Int)}
  (h:eU t B0 S Q s pv rec now last qv qs x d r0 res w k wr lv its q p v) (hres:res=(q,{r0 with p:=p},true)) (hf2:Fr (il S Q x.P x.R (qv d)) w wr2)
  (hC:au w' S Q x.P x.R (s.md x.yv x.nv) pv' rec now last (bL qv d v) (bL qs d q) p) (ho:w'.ownsRow 0 144 1 pv' (L.filter (fun y=>y.2 != p.id)).length (fy (L.filter (fun y=>y.2 != p.id)))) (hn:∀ b,pv'.ownBlock=some b->wr2.heap.size<=b) (hf:Fr (fun k=>k=S) wr2 w'):cW t B0 S Q s pv rec now last qv qs L x d res w w':=by
 subst hres;exact⟨{x with p:=p},v,pv',⟨hC,rfl,rfl,h.id,h.hv,fun hh=>(by cases hh),fun _=>⟨ho,fun b hb=>Qc hf2.size (hn b hb)⟩,hf2.trans (hf.mono fun k _ hk=>.inr (.inr (.inr (.inl hk))))⟩,fun hh=>(by cases hh)⟩
structure bp (B0 S Q:Nat)(pv:Value)(rec:ByteArray)(now last:Int)(qv:Nat->Value)(qs:Nat->List aj)(x:Rs)(d:Nat)(w wr:World)(o:Obj)(u:World)(cv:Md)(q:List aj)(p:Pr)(v:Value):Prop where
 core:au u S Q x.P x.R cv pv rec now last (bL qv d v) (bL qs d q) p
 mark:u.heap[wr.heap.size]?=some o
 still:aN B0 wr u
 size:wr.heap.size<=u.heap.size
 fr:Fr (il S Q x.P x.R (qv d)) w u
 hv:∀ b,v.ownBlock=some b->(qv d).ownBlock=some b\/w.heap.size<=b
 low:x.P<wr.heap.size/\Q<wr.heap.size/\S<wr.heap.size/\x.R<wr.heap.size/\∀ b,v.ownBlock=some b->b≠wr.heap.size
 base:∀ k,il S Q x.P x.R v k->B0<=k
theorem eU.mid {t:ByteArray}{B0 S Q:Nat}{s:Sd}{pv:Value}{rec:ByteArray}{now last:Int}{qv:Nat->Value}{qs:Nat->List aj}{x:Rs}{d:Nat}{r0:TR}{res:List aj×TR×Bool}{w:World}{k:Nat}{wr:World}{lv:Value}{its:List It}{q:List aj}{p:Pr}{v:Value}
  (h:eU t B0 S Q s pv rec now last qv qs x d r0 res w k wr lv its q p v) (hd:d<3) (hb:∀ k,il S Q x.P x.R (qv d) k->B0<=k) (hB:B0<=w.heap.size) (c:Array Value):bp B0 S Q pv rec now last qv qs x d w wr (.cells c 177) (wr.alloc (.cells c 177)) (s.md x.yv x.nv) q p v:=by
 have A0:Below wr.heap.size wr (wr.alloc (.cells c 177)):=(v7 _ _).alloc (v9 _) _;refine⟨h.core.below A0,v8 _ _,aN.of_below A0,A0.size,h.fr.alloc _,h.hv,⟨ak h.core.pB,ak h.core.qB,ak h.core.sB,ak h.core.rB,fun b hb=>?_⟩,fun k hk=>?_⟩
 .obtain⟨c,hc⟩:=ax (h.core.oB d hd) (by rw[ec];exact hb);have:=ak hc;omega
 .rcases hk with rfl|rfl|rfl|rfl|hk
  .exact hb _ (.inl rfl)
  .exact hb _ (.inr (.inl rfl))
  .exact hb _ (.inr (.inr (.inl rfl)))
  .exact hb _ (.inr (.inr (.inr (.inl rfl))))
  .rcases h.hv k hk with h1|h1
   .exact hb _ (.inr (.inr (.inr (.inr h1))))
   .omega
theorem bp.items {t:ByteArray}{B0 S Q:Nat}{pv:Value}{rec:ByteArray}{now last:Int}{qv:Nat->Value}{qs:Nat->List aj}{x:Rs}{d:Nat}{w wr:World}{o:Obj}{u:World}{cv:Md}{q:List aj}{p:Pr}{v lv:Value}{l:List It}(h:bp B0 S Q pv rec now last qv qs x d w wr o u cv q p v)(hB:B0<=wr.heap.size)(hi:aw t wr B0 lv l):aw t u B0 lv l:=hi.keep h.still hB
theorem bp.below {B0 S Q:Nat}{pv:Value}{rec:ByteArray}{now last:Int}{qv:Nat->Value}{qs:Nat->List aj}{x:Rs}{d:Nat}{w wr:World}{o:Obj}{u u':World}{cv:Md}{q:List aj}{p:Pr}{v:Value}(h:bp B0 S Q pv rec now last qv qs x d w wr o u cv q p v)(hb:Below u.heap.size u u'):bp B0 S Q pv rec now last qv qs x d w wr o u' cv q p v:=
 ⟨h.core.below hb,(hb.block _ (ak h.mark)).trans h.mark,h.still.trans h.size (aN.of_below hb),Qc h.size hb.size,h.fr.trans ((Fr.of_below hb).mono fun k hk hs=>by omega),h.hv,h.low,h.base⟩
theorem bp.step {B0 S Q:Nat}{pv:Value}{rec:ByteArray}{now last:Int}{qv:Nat->Value}{qs:Nat->List aj}{x:Rs}{d:Nat}{w wr:World}{o:Obj}{u u':World}{cv cv':Md}{q q':List aj}{p p':Pr}{v v':Value}(h:bp B0 S Q pv rec now last qv qs x d w wr o u cv q p v)(hd:d<3)(hB:B0<=w.heap.size)
  (hC:au u' S Q x.P x.R cv' pv rec now last (bL qv d v') (bL qs d q') p') (hv':∀ b,v'.ownBlock=some b->v.ownBlock=some b\/u.heap.size<=b) (hf:Fr (fun k=>k=x.P\/k=Q\/v.ownBlock=some k) u u'):bp B0 S Q pv rec now last qv qs x d w wr o u' cv' q' p' v':=by
 have A0:Fr (il S Q x.P x.R (bL qv d v d)) u u':=hf.mono fun k _ hk=>by
  rw[ec];rcases hk with hk|hk|hk
  .exact .inl hk
  .exact .inr (.inl hk)
  .exact .inr (.inr (.inr (.inr hk)))
 have hw:=h.fr.size;have hm:=ak h.mark;refine⟨hC,(hf.block _ hm ?_).trans h.mark,h.still.trans h.size (h.core.still hd (by rw[ec];exact h.base) A0),Qc h.size hf.size,Fr.wide h.fr (hf.mono fun k _ hk=>?_),fun b hb=>?_,⟨h.low.1,h.low.2.1,h.low.2.2.1,h.low.2.2.2.1,fun b hb=>?_⟩,fun k hk=>?_⟩
 .rintro(hk|hk|hk)
  .have:=h.low.1;omega
  .have:=h.low.2.1;omega
  .exact h.low.2.2.2.2 _ hk rfl
 .rcases hk with hk|hk|hk
  .exact .inl (.inl hk)
  .exact .inl (.inr (.inl hk))
  .rcases h.hv k hk with h1|h1
   .exact .inl (.inr (.inr (.inr (.inr h1))))
   .exact .inr h1
 .rcases hv' b hb with h1|h1
  .exact h.hv b h1
  .exact .inr (by omega)
 .rcases hv' b hb with h1|h1
  .exact h.low.2.2.2.2 b h1
  .omega
 .rcases hk with hk|hk|hk|hk|hk
  .exact h.base k (.inl hk)
  .exact h.base k (.inr (.inl hk))
  .exact h.base k (.inr (.inr (.inl hk)))
  .exact h.base k (.inr (.inr (.inr (.inl hk))))
  .rcases hv' k hk with h1|h1
   .exact h.base k (.inr (.inr (.inr (.inr h1))))
   .omega
theorem bp.send {B0 S Q:Nat}{pv:Value}{rec:ByteArray}{now last:Int}{qv:Nat->Value}{qs:Nat->List aj}{x:Rs}{d:Nat}{w wr:World}{o:Obj}{u:World}{cv:Md}{q:List aj}{p:Pr}{v:Value}(h:bp B0 S Q pv rec now last qv qs x d w wr o u cv q p v)(hd:d<3)(hB:B0<=w.heap.size)(key:Int)(hdev:p.dev=(d:Nat))(hl:q.length<=4)(hs0:0<=p.sent)(hs1:p.sent<=1000000000000000000):
  Calls prog 96 #[.pointer (some ⟨S,0,none⟩),.pointer (some ⟨x.P,0,none⟩),.int .i64 key] u fun e u'=>e=.returned (.int .i64 (aB q p key).2.2)/\∃ v',bp B0 S Q pv rec now last qv qs x d w wr o u' cv (aB q p key).1 (aB q p key).2.1 v':=by
 have h1:=He S Q x.P x.R cv pv rec now last _ _ p key d u h.core hd hdev (by rw[ec];exact hl) hs0 hs1;rw[ec,ec]at h1;refine h1.mono ?_;rintro e u' ⟨rfl,v',hC,hv,hf⟩;rw[qI,qI]at hC;exact⟨rfl,v',h.step hd hB hC hv hf⟩
theorem bp.stop {B0 S Q:Nat}{pv:Value}{rec:ByteArray}{now last:Int}{qv:Nat->Value}{qs:Nat->List aj}{x:Rs}{d:Nat}{w wr:World}{o:Obj}{u:World}{cv:Md}{q:List aj}{p:Pr}{v:Value}(h:bp B0 S Q pv rec now last qv qs x d w wr o u cv q p v)(hd:d<3)(hB:B0<=w.heap.size)(n num:Int)(h1:-1000000000000<=now+n)(h2:now+n<=1000000000000):
  Calls prog 97 #[.pointer (some ⟨S,0,none⟩),.pointer (some ⟨x.P,0,none⟩),.int .i64 n,.int .i64 num] u fun e u'=>e=.returned (.tuple #[])/\bp B0 S Q pv rec now last qv qs x d w wr o u' cv q (dY p now n num) v:=by
 refine(Hf S Q x.P x.R cv pv rec now last _ _ p n num u h.core h1 h2).mono ?_;rintro e u' ⟨rfl,hC,hf⟩;exact⟨rfl,h.step hd hB hC (fun _ hb=>.inl hb) (hf.mono fun k _ hk=>.inl hk)⟩
theorem bp.put {B0 S Q:Nat}{pv:Value}{rec:ByteArray}{now last:Int}{qv:Nat->Value}{qs:Nat->List aj}{x:Rs}{d:Nat}{w wr:World}{o:Obj}{u:World}{s:Sd}{yv nv:Value}{q:List aj}{p:Pr}{v:Value}(h:bp B0 S Q pv rec now last qv qs x d w wr o u (s.md yv nv) q p v)(hd:d<3)(hB:B0<=w.heap.size)(z:Value):
  bp B0 S Q pv rec now last qv qs x d w wr o (u.setCell ⟨x.P,5,none⟩ z) (s.md z nv) q p v/\bp B0 S Q pv rec now last qv qs x d w wr o (u.setCell ⟨x.P,6,none⟩ z) (s.md yv z) q p v:=
 ⟨h.step hd hB (h.core.setYN 5 z ⟨rfl,rfl,rfl⟩ rfl) (fun _ hb=>.inl hb) ((Fr.refl _ _).setCell ⟨x.P,5,none⟩ (.inl (.inl rfl)) _),h.step hd hB (h.core.setYN 6 z ⟨rfl,rfl,rfl⟩ rfl) (fun _ hb=>.inl hb) ((Fr.refl _ _).setCell ⟨x.P,6,none⟩ (.inl (.inl rfl)) _)⟩
theorem bp.putStill {B0 S Q:Nat}{pv:Value}{rec:ByteArray}{now last:Int}{qv:Nat->Value}{qs:Nat->List aj}{x:Rs}{d:Nat}{w wr:World}{o:Obj}{u:World}{cv:Md}{q:List aj}{p:Pr}{v:Value}(h:bp B0 S Q pv rec now last qv qs x d w wr o u cv q p v)(hd:d<3)(j:Nat)(z:Value):aN B0 u (u.setCell ⟨x.P,j,none⟩ z):=
 h.core.still hd (by rw[ec];exact h.base) ((Fr.refl _ _).setCell ⟨x.P,j,none⟩ (.inl (.inl rfl)) _)
theorem bp.next {t:ByteArray}{B0 S Q:Nat}{s:Sd}{pv:Value}{rec:ByteArray}{now last:Int}{qv:Nat->Value}{qs:Nat->List aj}{x:Rs}{d:Nat}{r0:TR}{res:List aj×TR×Bool}{w wr:World}{o:Obj}{u:World}{q:List aj}{p:Pr}{v lv:Value}{l:List It}{k:Nat}(h:bp B0 S Q pv rec now last qv qs x d w wr o u (s.md x.yv x.nv) q p v)
  (hi:aw t u B0 lv l) (ok:aK t l) (ms:dF t l<k) (k1:k<=6401) (eq:cD t now k l q {r0 with p:=p}=res) (ql:q.length<=4) (dev:p.dev=x.p.dev) (id:p.id=x.p.id) (s0:0<=p.sent) (s1:p.sent+k<=x.p.sent+6401):eU t B0 S Q s pv rec now last qv qs x d r0 res w k u lv l q p v:=
 ⟨hi,ok,h.core,ms,k1,eq,ql,dev,id,s0,s1,h.hv,h.fr⟩
theorem bp.out {t:ByteArray}{B0 S Q:Nat}{s:Sd}{pv:Value}{rec:ByteArray}{now last:Int}{qv:Nat->Value}{qs:Nat->List aj}{x:Rs}{d:Nat}{w wr:World}{o:Obj}{u:World}{yv nv:Value}{q:List aj}{p:Pr}{v:Value}{L:List (Nat×Int)}{ys ns:List It}(h:bp B0 S Q pv rec now last qv qs x d w wr o u (s.md yv nv) q p v)(id:p.id=x.p.id)(hB:B0<=w.heap.size)
  (hy:aw t u B0 yv ys) (hn:aw t u B0 nv ns) (oy:aK t ys) (on:aK t ns):cW t B0 S Q s pv rec now last qv qs L x d (q,⟨p,ys,ns⟩,false) w u:=
 ⟨{x with p:=p,yv:=yv,nv:=nv},v,pv,⟨h.core,rfl,rfl,id,h.hv,fun _=>rfl,fun hh=>(by cases hh),h.fr⟩,fun _=>⟨rfl,Qc hB h.fr.size,hy,hn,oy,on⟩⟩
theorem aw.form {t:ByteArray}{w:World}{B0:Nat}{v:Value}{l:List It}(h:aw t w B0 v l):∃ a n c,v=.slice a n c:=by
 obtain⟨us,a,A0,_,h2,_⟩:=h;exact⟨a,_,A0,h2⟩
theorem xj (t:ByteArray)(B0 dd:Nat)(hh:Hd)(A B:af dd)(i:Nat)(ua ub:Value)(sx:ByteArray)(hsx:sx=t.extract hh.p.1 hh.p.2)(rv:Value)(rest:List It)(w:World)(hB:B0<=w.heap.size)(hX:dy t w B0 (⟨dd,(hh,A,B),i⟩,(ua,ub)))(hR:aw t w B0 rv rest)(hm:rest.length<=1000000):
  Calls prog 98 #[.agg #[.string sx,.int .i64 hh.key,.int .i64 hh.n,.int .i64 hh.m,ua,ub,.int .i64 hh.p.1,.int .i64 ((i:Int)+1)],rv] w fun e w'=>∃ ov,e=.returned ov/\aw t w' B0 ov ((⟨dd,(hh,A,B),i+1⟩:It)::rest)/\Below w.heap.size w w':=by
 subst hsx;exact FW t B0 (⟨dd,(hh,A,B),i+1⟩,(ua,ub)) rv rest w hB hX hR hm
theorem yt (t:ByteArray)(B0 S Q:Nat)(s:Sd)(pv:Value)(rec:ByteArray)(now last:Int)(qv:Nat->Value)(qs:Nat->List aj)(L:List (Nat×Int))(x:Rs)(d:Nat)(r0:TR)(its:List It)(lv:Value)(w:World)
  (h:au w S Q x.P x.R (s.md x.yv x.nv) pv rec now last qv qs x.p) (hL:cj w pv L) (hl:L.length<=1000) (hlk:dS t B0 w x r0) (hI:aw t w B0 lv its) (hok:aK t its) (hb:∀ k,il S Q x.P x.R (qv d) k->B0<=k)
  (hd:d<3) (hdev:x.p.dev=(d:Nat)) (hq:(qs d).length<=4) (hs0:0<=x.p.sent) (hs1:x.p.sent<=999999999999990000) (hn0:0<=now) (hn1:now<=1000000000):
  Calls prog 66 #[.pointer (some ⟨S,0,none⟩),.pointer (some ⟨x.P,0,none⟩),lv] w fun e w'=>e=.returned (.tuple #[])/\cW t B0 S Q s pv rec now last qv qs L x d (cD t now (dF t its+1) its (qs d) r0) w w':=by
 obtain⟨res,C9⟩:∃ res,res=cD t now (dF t its+1) its (qs d) r0:=⟨_,rfl⟩;rw[<- C9];have H0:Hid (eU t B0 S Q s pv rec now last qv qs x d r0 res w (dF t its+1) w lv its (qs d) x.p (qv d)):=by
  have h1:=hok.msb;refine⟨hI,hok,by rw[mT,mT];exact h,by omega,by omega,?_,hq,rfl,rfl,hs0,by omega,fun b hb=>.inl hb,Fr.refl _ _⟩;rw[C9,<- hlk.p]
 have HW:Hid (au w S Q x.P x.R (s.md x.yv x.nv) pv rec now last qv qs x.p/\cj w pv L/\dS t B0 w x r0/\(∀ k,il S Q x.P x.R (qv d) k->B0<=k)):=⟨h,hL,hlk,hb⟩;clear h hL hlk hI hok hb C9 hq hs0;obtain⟨K,hK⟩:∃ K,K=dF t its+1:=⟨_,rfl⟩;rw[<- hK]at H0;clear hK;go_enter func66,ntmps66
 go_wp2_with fail
 go_loopg [2] K (fun k lv wr=>∃ (its:List It) (q:List aj) (p:Pr) (v:Value),Hid (eU t B0 S Q s pv rec now last qv qs x d r0 res w k wr lv its q p v))
 case atStart=>exact⟨its,_,_,_,H0⟩
 case round=>
  clear H0 its;obtain⟨its,q,p,v,HT⟩:=hrel;cases its with
  | nil=>
   obtain⟨a,B3,rfl⟩:=HT.items.nil';have HE:Hid (res=(q,{r0 with p:=p},true)):=by
    show _=_;rw[<- HT.eq];cases gk with
    | zero=>rfl
    | succ k=>rfl
   have HP:Hid (cj wr pv L):=HW.2.1.after HW.1 HT.core HT.id hd HT.fr;go_wp2_with fail
   refine(xC S Q x.P x.R _ pv rec now last _ _ p L wr HT.core HP hl).mono ?_;rintro e w3 ⟨rfl,J3,G4,G7,B4,G6⟩;have HO:Hid (cW t B0 S Q s pv rec now last qv qs L x d res w w3):=HT.ended HE HT.fr G4 G7 B4 G6;clear G4 G7 B4 G6;go_wp2_with fail
   go_end0;exact⟨rfl,HO⟩
  | cons it l=>
   obtain⟨dd,⟨hh,A,B⟩,i⟩:=it;obtain⟨g,B9,B3,ub,rfl,I3,I4,I5,C4,A2,C6⟩:=HT.items.cons;obtain⟨ua,uz⟩:=ub;obtain⟨a1,n1,A6,e1⟩:=C4.1.one;obtain⟨a2,n2,A7,e2⟩:=C4.2.1.one;dsimp only at e1 e2;subst e1;subst e2;obtain⟨sx,E7⟩:∃ sx,sx=t.extract hh.p.1 hh.p.2:=⟨_,rfl⟩;have G5:ao t hh.p=sx.data.toList:=by rw[E7];rfl
   have c0:wr.cell? ⟨g,B9,none⟩=some (.string sx):=by rw[E7];exact A2 0 _ rfl
   have c1:wr.cell? ⟨g,B9+1,none⟩=some (.int .i64 hh.key):=A2 1 _ rfl;have c2:wr.cell? ⟨g,B9+2,none⟩=some (.int .i64 hh.n):=A2 2 _ rfl;have c3:wr.cell? ⟨g,B9+3,none⟩=some (.int .i64 hh.m):=A2 3 _ rfl;have c4:wr.cell? ⟨g,B9+4,none⟩=some (.slice a1 n1 A6):=A2 4 _ rfl;have c5:wr.cell? ⟨g,B9+5,none⟩=some (.slice a2 n2 A7):=A2 5 _ rfl;have c6:wr.cell? ⟨g,B9+6,none⟩=some (.int .i64 hh.p.1):=A2 6 _ rfl;have c7:wr.cell? ⟨g,B9+7,none⟩=some (.int .i64 (i:Nat)):=A2 7 _ rfl;have A5:=ah C4;have HB:Hid (B0<=w.heap.size/\B0<=wr.heap.size):=⟨HW.2.2.1.base,Qc HW.2.2.1.base HT.fr.size⟩;have A8:=HT.ok.all ⟨dd,(hh,A,B),i⟩ (List.mem_cons_self ..);have E6:=HT.ms;have F5:1<=kt t ⟨dd,(hh,A,B),i⟩:=by unfold kt lq;split <;> omega
   rw[kF]at E6;obtain⟨k,rfl⟩:∃ k,gk=k+1:=⟨gk - 1,by omega⟩;have J0:l.length<=6400:=HT.ok.tail.len;have F6:p.dev=(d:Nat):=HT.dev.trans hdev;have C3:=HT.ql;have D5:=HT.s0;have J2:=HT.s1;have I7:=HT.k1;have HM:=HT.mid hd HW.2.2.2 HB.1 #[.string sx,.int .i64 hh.key,.int .i64 hh.n,.int .i64 hh.m,.slice a1 n1 A6,.slice a2 n2 A7,.int .i64 hh.p.1,.int .i64 (i:Nat)];have B2:=ah HM;have D0:=ah G5;obtain⟨rv,F8⟩:∃ rv,rv=if B3=1 then Value.slice (some ⟨g,B9,none⟩) l.length 0 else Value.slice (some ⟨g,B9+8,none⟩) l.length (B3 - 1):=⟨_,rfl⟩;have HR:Hid (aw t wr B0 rv l):=by
    show aw t wr B0 rv l;rw[F8];split
    .have H8:l=[]:=List.length_eq_zero_iff.mp (by omega);subst H8;exact⟨[],_,0,rfl,rfl,v9 _,Qa _,fun h=>by simp at h,fun x hx=>by simp at hx⟩
    .exact C6
   have A3:=ah F8;have G2:=ah E7;clear HM C6 C4 A2 E7 G5 F8;rcases A8.hd.kind with hk|hk|hk|hk|hk|hk
   .
    have A1:sx.data.toList=eA:=D0.symm.trans hk;have b1:(sx.toList==[115,101,110,100])=true:=du A1;have A0:=kD q p hh.key;have HN:Hid (∀ u v',bp B0 S Q pv rec now last qv qs x d w wr (.cells #[.string sx,.int .i64 hh.key,.int .i64 hh.n,.int .i64 hh.m,.slice a1 n1 A6,.slice a2 n2 A7,.int .i64 hh.p.1,.int .i64 (i:Nat)] 177) u (s.md x.yv x.nv) (aB q p hh.key).1 (aB q p hh.key).2.1 v'->eU t B0 S Q s pv rec now last qv qs x d r0 res w k u rv l (aB q p hh.key).1 (aB q p hh.key).2.1 v'):=fun u v' hm=>
     hm.next (hm.items HB.2 HR) HT.ok.tail (by omega) (by omega) ((wG (x:=⟨dd,(hh,A,B),i⟩) hk).symm.trans HT.out.eq) (rW q p hh.key C3) (A0.2.2.1.trans HT.out.dev) (A0.2.1.trans HT.out.id) (by omega) (by omega)
    have HS:Hid (Calls prog 96 #[.pointer (some ⟨S,0,none⟩),.pointer (some ⟨x.P,0,none⟩),.int .i64 hh.key] _ _):=B2.send hd HB.1 hh.key F6 C3 D5 (by omega);clear hk A1 A8 A0;by_cases hcap:B3=1;all_goals
     first|rw[if_pos hcap]at A3|rw[if_neg hcap]at A3
     go_wp2_with fail
     refine HS.out.mono ?_;rintro e w1 ⟨rfl,v',hm⟩;have HD:Hid (eU t B0 S Q s pv rec now last qv qs x d r0 res w k w1 rv l (aB q p hh.key).1 (aB q p hh.key).2.1 v'):=HN w1 v' hm;rw[A3]at HD;clear hm HS HN c0 c1 c2 c3 c4 c5 c6 c7;go_wp2_with fail
     go_roundg k
     case measure=>omega
     case rel=>exact⟨_,_,_,_,HD⟩
   .
    have A1:sx.data.toList=eJ:=D0.symm.trans hk;have b1:(sx.toList==[115,101,110,100])=false:=bg (by rw[A1];decide);have b2:(sx.toList==[119,97,105,116])=true:=du A1;obtain⟨C5,B4⟩:=A8.hd.wait_n hk;dsimp only at C5 B4;have HE:Hid (res=(q,{{r0 with p:=p} with p:=dY p now hh.n 0,no:=l},false)):=HT.eq.symm.trans (wI (x:=⟨dd,(hh,A,B),i⟩) hk);have HS:Hid (Calls prog 97 #[.pointer (some ⟨S,0,none⟩),.pointer (some ⟨x.P,0,none⟩),.int .i64 hh.n,.int .i64 0] _ _):=B2.stop hd HB.1 hh.n 0 (by omega) (by omega);clear hk A1 A8;by_cases hcap:B3=1;all_goals
     first|rw[if_pos hcap]at A3|rw[if_neg hcap]at A3
     rw[A3]at HR;go_wp2_with fail
     refine HS.out.mono ?_;rintro e w1 ⟨rfl,hm⟩;have p6:w1.cell? ⟨x.P,6,none⟩=some x.nv:=(ag hm.core.pB).trans rfl;have z6:w1.frozen? ⟨x.P,6,none⟩=false:=aC hm.core.pB;have C1:=ah hm;clear hm HS c0 c1 c2 c3 c4 c5 c6 c7;go_wp2_with fail
     (try simp only[Exit.inBlock,Exit.then]);refine bodyPost_ret (results_none rfl _ _ _) rfl ?_
     refine⟨rfl,?_⟩;rw[HE];have H5:∀ z,aw t wr B0 z l->cW t B0 S Q s pv rec now last qv qs L x d (q,{{r0 with p:=p} with p:=dY p now hh.n 0,no:=l},false) w (w1.setCell ⟨x.P,6,none⟩ z):=fun z hz=>by
      have C2:=(C1.put hd HB.1 z).2;exact C2.out (HT.id) HB.1 (HW.2.2.1.yes.keep (HW.1.still hd HW.2.2.2 C2.fr) HB.1) (C2.items HB.2 hz) HW.2.2.1.okY HT.ok.tail
     exact H5 _ HR
   .
    have A1:sx.data.toList=eX:=D0.symm.trans hk;have b1:(sx.toList==[115,101,110,100])=false:=bg (by rw[A1];decide);have b2:(sx.toList==[119,97,105,116])=false:=bg (by rw[A1];decide);have b3:(sx.toList==[115,116,111,112])=true:=du A1;have HE:Hid (res=(q,{r0 with p:=p},true)):=HT.eq.symm.trans (wH (x:=⟨dd,(hh,A,B),i⟩) hk);have HD:Hid (∀ u,bp B0 S Q pv rec now last qv qs x d w wr (.cells #[.string sx,.int .i64 hh.key,.int .i64 hh.n,.int .i64 hh.m,.slice a1 n1 A6,.slice a2 n2 A7,.int .i64 hh.p.1,.int .i64 (i:Nat)] 177) u (s.md x.yv x.nv) q p v->eU t B0 S Q s pv rec now last qv qs x d r0 res w k u (.slice none 0 0) [] q p v):=fun u hm=>
     hm.next (aw.none t u B0) (aK.nil t) (by rw[FO];omega) (by omega) (by rw[HE.out];cases k <;> rfl) C3 HT.dev HT.id D5 (by omega)
    clear hk A1 A8;by_cases hcap:B3=1;all_goals
     go_wp2_with fail
     go_roundg k
     case measure=>omega
     case rel=>exact⟨_,_,_,_,HD _ B2⟩
   .
    have A1:sx.data.toList=dV:=D0.symm.trans hk;have b1:(sx.toList==[115,101,110,100])=false:=bg (by rw[A1];decide);have b2:(sx.toList==[119,97,105,116])=false:=bg (by rw[A1];decide);have b3:(sx.toList==[115,116,111,112])=false:=bg (by rw[A1];decide);have b4:(sx.toList==[97,115,107])=true:=du A1;obtain⟨C5,B4⟩:=A8.hd.ask_n hk;dsimp only at C5 B4;have A0:=kD q p hh.key;have F7:=rW q p hh.key C3;have D4:=oJ (t:=t) (x:=⟨dd,(hh,A,B),i⟩) (by rw[hk];exact tz);dsimp only at D4;have C7:Hid ((aB q p hh.key).2.2=0->cD t now k (bB dd B++l) (aB q p hh.key).1 {r0 with p:=(aB q p hh.key).2.1}=res):=fun h0=>(uV (r:={r0 with p:=p}) (x:=⟨dd,(hh,A,B),i⟩) hk h0).symm.trans HT.eq;have C0:Hid (¬ (aB q p hh.key).2.2=0->res=((aB q p hh.key).1,⟨dY (aB q p hh.key).2.1 now hh.n (aB q p hh.key).2.2,bB dd A++l,bB dd B++l⟩,false)):=fun h0=>HT.eq.symm.trans (uJ (r:={r0 with p:=p}) (x:=⟨dd,(hh,A,B),i⟩) hk h0);have E1:Hid (aK t (bB dd A++l)):=HT.ok.yes (x:=⟨dd,(hh,A,B),i⟩) (.inl hk);have D2:Hid (aK t (bB dd B++l)):=HT.ok.no (x:=⟨dd,(hh,A,B),i⟩) (.inl hk);have F3:=E1.len;have F2:=D2.len;rw[List.length_append]at F3 F2;have D3:dF t (bB dd B++l)<k:=by rw[lz,kH];omega
    have HS:=B2.send hd HB.1 hh.key F6 C3 D5 (by omega);obtain⟨r,hr⟩:∃ r,r=aB q p hh.key:=⟨_,rfl⟩;rw[<- hr]at HS C7 C0 A0 F7;clear hr;obtain⟨q',p',m⟩:=r;dsimp only at HS C7 C0 A0 F7;have E2:Hid (Calls prog 96 #[.pointer (some ⟨S,0,none⟩),.pointer (some ⟨x.P,0,none⟩),.int .i64 hh.key] _ _):=HS;have D8:Hid (p'.dev=x.p.dev/\p'.id=x.p.id):=⟨A0.2.2.1.trans HT.dev,A0.2.1.trans HT.id⟩;obtain⟨_,_,_,I8,I9⟩:=A0;clear hk A1 A8 HS D4;by_cases hcap:B3=1;all_goals
     first|rw[if_pos hcap]at A3|rw[if_neg hcap]at A3
     rw[A3]at HR;go_wp2_with fail
     refine E2.mono ?_;rintro e w1 ⟨rfl,v',hm⟩;have C1:=ah hm;obtain⟨m0,m1,m2,m3,m4,m5,m6,m7⟩:=mY hm.mark;clear hm E2 c0 c1 c2 c3 c4 c5 c6 c7;by_cases h0:m=0
     .have b5:(m==0)=true:=by simpa using h0
      have E8:Hid (_=_):=C7 h0;have G3:B0<=w1.heap.size:=Qc HB.2 C1.size;have A4:Hid (Calls prog 67 #[.slice a2 n2 A7,_] w1 _):=mP t B0 dd B _ _ l w1 G3 (A5.keep C1.still).2.1 (C1.items HB.2 HR) (by omega) (by omega);clear h0 C7 C0 G3;go_wp2_with fail
      refine A4.mono ?_;rintro e w2 ⟨ov,rfl,hi,hb⟩;have HD:Hid (eU t B0 S Q s pv rec now last qv qs x d r0 res w k w2 ov (bB dd B++l) q' p' v'):=(C1.below hb).next hi D2 D3 (by omega) E8.out F7 D8.out.1 D8.out.2 (by omega) (by omega);clear hi hb A4 m0 m1 m2 m3 m4 m5 m6 m7;go_wp2_with fail
      go_roundg k
      case measure=>omega
      case rel=>exact⟨_,_,_,_,HD⟩
     .have b5:(m==0)=false:=by simpa using h0
      have E9:Hid (res=_):=C0 h0;have E3:Hid (Calls prog 97 #[.pointer (some ⟨S,0,none⟩),.pointer (some ⟨x.P,0,none⟩),.int .i64 hh.n,.int .i64 m] w1 _):=C1.stop hd HB.1 hh.n m (by omega) (by omega);clear h0 C7 C0;go_wp2_with fail
      refine E3.mono ?_;rintro e w2 ⟨rfl,hm⟩;clear m0 m1 m2 m3 m4 m5 m6 m7 E3;obtain⟨m0,m1,m2,m3,m4,m5,m6,m7⟩:=mY hm.mark;have D1:=ah hm;have A4:Hid (Calls prog 67 #[.slice a1 n1 A6,_] w2 _):=mP t B0 dd A _ _ l w2 (Qc HB.2 hm.size) (A5.keep hm.still).1 (hm.items HB.2 HR) (by omega) (by omega);clear hm;go_wp2_with fail
      refine A4.mono ?_;rintro e w3 ⟨ov,rfl,hi,hb⟩;clear m0 m1 m2 m3 m4 m5 m6 m7 A4;have hm:=D1.below hb;have H3:=ah hm;have F0:=ah hi;obtain⟨oa,on,oc,rfl⟩:=hi.form;have p5:w3.cell? ⟨x.P,5,none⟩=some x.yv:=(ag hm.core.pB).trans rfl;have z5:w3.frozen? ⟨x.P,5,none⟩=false:=aC hm.core.pB;have B1:=(hm.put hd HB.1 (.slice oa on oc)).1;obtain⟨m0,m1,m2,m3,m4,m5,m6,m7⟩:=mY B1.mark;have F1:=ah B1;have A4:Hid (Calls prog 67 #[.slice a2 n2 A7,_] (w3.setCell ⟨x.P,5,none⟩ (.slice oa on oc)) _):=mP t B0 dd B _ _ l _ (Qc HB.2 B1.size) (A5.keep B1.still).2.1 (B1.items HB.2 HR) (by omega) (by omega);have A9:Hid (aN B0 w3 (w3.setCell ⟨x.P,5,none⟩ (.slice oa on oc))/\w3.heap.size<=(w3.setCell ⟨x.P,5,none⟩ (.slice oa on oc)).heap.size/\B0<=w3.heap.size):=⟨hm.putStill hd 5 _,by simp,Qc HB.2 hm.size⟩;clear hm hi hb B1;go_wp2_with fail
      refine A4.mono ?_;rintro e w5 ⟨I1,rfl,hi,hb⟩;clear m0 m1 m2 m3 m4 m5 m6 m7 A4 p5 z5;have hm:=F1.below hb;have I2:=ah hm;obtain⟨B6,B8,B7,rfl⟩:=hi.form;have D7:Hid (aw t w5 B0 (.slice B6 B8 B7) (bB dd B++l)/\aw t w5 B0 (.slice oa on oc) (bB dd A++l)):=⟨hi,F0.keep (A9.1.trans A9.2.1 (aN.of_below hb)) A9.2.2⟩;have p6:w5.cell? ⟨x.P,6,none⟩=some x.nv:=(ag hm.core.pB).trans rfl;have z6:w5.frozen? ⟨x.P,6,none⟩=false:=aC hm.core.pB;have C8:Hid (cW t B0 S Q s pv rec now last qv qs L x d res w (w5.setCell ⟨x.P,6,none⟩ (.slice B6 B8 B7))):=by
       have F4:=(hm.put hd HB.1 (.slice B6 B8 B7)).2;have B5:=hm.putStill hd 6 (.slice B6 B8 B7);have E4:=Qc HB.2 hm.size;show cW _ _ _ _ _ _ _ _ _ _ _ _ _ _ _ _ _;rw[E9];exact F4.out D8.2 HB.1 (D7.2.keep B5 E4) (D7.1.keep B5 E4) E1 D2
      clear hm hi hb;go_wp2_with fail
      (try simp only[Exit.inBlock,Exit.then]);refine bodyPost_ret (results_none rfl _ _ _) rfl ?_
      exact⟨rfl,C8⟩
   .
    have A1:sx.data.toList=dL:=D0.symm.trans hk;have b1:(sx.toList==[115,101,110,100])=false:=bg (by rw[A1];decide);have b2:(sx.toList==[119,97,105,116])=false:=bg (by rw[A1];decide);have b3:(sx.toList==[115,116,111,112])=false:=bg (by rw[A1];decide);have b4:(sx.toList==[97,115,107])=false:=bg (by rw[A1];decide);have b5:(sx.toList==[114,101,116,114,121])=true:=du A1;obtain⟨C5,B4,C2,I0⟩:=A8.hd.retry_m hk;have H6:=A8.retry hk;dsimp only at C5 B4 C2 I0 H6;have D4:=oJ (t:=t) (x:=⟨dd,(hh,A,B),i⟩) (by rw[hk];exact qX);dsimp only at D4;have E1:Hid (aK t (bB dd A++l)):=HT.ok.yes (x:=⟨dd,(hh,A,B),i⟩) (.inr hk);have D2:Hid (aK t (bB dd B++l)):=HT.ok.no (x:=⟨dd,(hh,A,B),i⟩) (.inr hk);have F3:=E1.len;have F2:=D2.len;rw[List.length_append]at F3 F2;by_cases him:(i:Int)=hh.m
    .have bi:((i:Int)==hh.m)=true:=by simpa using him
     have C7:Hid (cD t now k (bB dd B++l) q {r0 with p:=p}=res):=(ud (r:={r0 with p:=p}) (x:=⟨dd,(hh,A,B),i⟩) hk him).symm.trans HT.eq;have D3:dF t (bB dd B++l)<k:=by rw[lz,kH];omega
     clear hk A1 A8 D4 him;by_cases hcap:B3=1;all_goals
      first|rw[if_pos hcap]at A3|rw[if_neg hcap]at A3
      rw[A3]at HR;have A4:Hid (Calls prog 67 #[.slice a2 n2 A7,_] _ _):=mP t B0 dd B _ _ l _ (Qc HB.2 B2.size) (A5.keep B2.still).2.1 (B2.items HB.2 HR) (by omega) (by omega);go_wp2_with fail
      refine A4.mono ?_;rintro e w2 ⟨ov,rfl,hi,hb⟩;have HD:Hid (eU t B0 S Q s pv rec now last qv qs x d r0 res w k w2 ov (bB dd B++l) q p v):=(B2.below hb).next hi D2 D3 (by omega) C7.out C3 HT.out.dev HT.out.id (by omega) (by omega);clear hi hb A4 c0 c1 c2 c3 c4 c5 c6 c7;go_wp2_with fail
      go_roundg k
      case measure=>omega
      case rel=>exact⟨_,_,_,_,HD⟩
    .have bi:((i:Int)==hh.m)=false:=by simpa using him
     have A0:=kD q p hh.key;have C0:Hid (res=((aB q p hh.key).1,⟨dY (aB q p hh.key).2.1 now (hh.n*2 ^ i) (aB q p hh.key).2.2,bB dd A++l,(⟨dd,(hh,A,B),i+1⟩:It)::l⟩,false)):=HT.eq.symm.trans (ro (r:={r0 with p:=p}) (x:=⟨dd,(hh,A,B),i⟩) hk him);have H4:Hid (aK t ((⟨dd,(hh,A,B),i+1⟩:It)::l)):=HT.ok.again (x:=⟨dd,(hh,A,B),i⟩) hk him;have HS:=B2.send hd HB.1 hh.key F6 C3 D5 (by omega);obtain⟨r,hr⟩:∃ r,r=aB q p hh.key:=⟨_,rfl⟩;rw[<- hr]at HS C0 A0;clear hr;obtain⟨q',p',m⟩:=r;dsimp only at HS C0 A0;have E2:Hid (Calls prog 96 #[.pointer (some ⟨S,0,none⟩),.pointer (some ⟨x.P,0,none⟩),.int .i64 hh.key] _ _):=HS;have D8:Hid (p'.id=x.p.id):=A0.2.1.trans HT.id;have I6:i<=5:=by omega
     have E5:(1:Int)<=2 ^ i/\(2:Int) ^ i<=64:=⟨Herald.uU,vD (by omega)⟩;have J1:1<=hh.n*2 ^ i/\hh.n*2 ^ i<=64000:=by
      have h1:=Int.mul_le_mul B4 E5.2 (by omega) (by omega);have h2:=Int.mul_le_mul C5 E5.1 (by omega) (by omega);omega
     clear hk A1 A8 HS D4 him A0;by_cases hcap:B3=1;all_goals
      first|rw[if_pos hcap]at A3|rw[if_neg hcap]at A3
      rw[A3]at HR;go_wp2_with fail
      refine E2.mono ?_;rintro e w1 ⟨rfl,v',hm⟩;have C1:=ah hm;obtain⟨m0,m1,m2,m3,m4,m5,m6,m7⟩:=mY hm.mark;clear hm E2 c0 c1 c2 c3 c4 c5 c6 c7;have E3:Hid (Calls prog 97 #[.pointer (some ⟨S,0,none⟩),.pointer (some ⟨x.P,0,none⟩),.int .i64 (hh.n*2 ^ i),.int .i64 m] w1 _):=C1.stop hd HB.1 (hh.n*2 ^ i) m (by omega) (by omega);go_wp2_with fail
      refine E3.mono ?_;rintro e w2 ⟨rfl,hm⟩;clear m0 m1 m2 m3 m4 m5 m6 m7 E3;obtain⟨m0,m1,m2,m3,m4,m5,m6,m7⟩:=mY hm.mark;have D1:=ah hm;have A4:Hid (Calls prog 67 #[.slice a1 n1 A6,_] w2 _):=mP t B0 dd A _ _ l w2 (Qc HB.2 hm.size) (A5.keep hm.still).1 (hm.items HB.2 HR) (by omega) (by omega);clear hm;go_wp2_with fail
      refine A4.mono ?_;rintro e w3 ⟨ov,rfl,hi,hb⟩;clear m0 m1 m2 m3 m4 m5 m6 m7 A4;have hm:=D1.below hb;have H3:=ah hm;have F0:=ah hi;obtain⟨oa,on,oc,rfl⟩:=hi.form;have p5:w3.cell? ⟨x.P,5,none⟩=some x.yv:=(ag hm.core.pB).trans rfl;have z5:w3.frozen? ⟨x.P,5,none⟩=false:=aC hm.core.pB;have B1:=(hm.put hd HB.1 (.slice oa on oc)).1;obtain⟨m0,m1,m2,m3,m4,m5,m6,m7⟩:=mY B1.mark;have F1:=ah B1;have A4:Hid (Calls prog 98 #[.agg #[.string sx,.int .i64 hh.key,.int .i64 hh.n,.int .i64 hh.m,.slice a1 n1 A6,.slice a2 n2 A7,.int .i64 hh.p.1,.int .i64 ((i:Int)+1)],_] (w3.setCell ⟨x.P,5,none⟩ (.slice oa on oc)) _):=xj t B0 dd hh A B i _ _ sx G2 _ l _ (Qc HB.2 B1.size) (A5.keep B1.still) (B1.items HB.2 HR) (by omega);have A9:Hid (aN B0 w3 (w3.setCell ⟨x.P,5,none⟩ (.slice oa on oc))/\w3.heap.size<=(w3.setCell ⟨x.P,5,none⟩ (.slice oa on oc)).heap.size/\B0<=w3.heap.size):=⟨hm.putStill hd 5 _,by simp,Qc HB.2 hm.size⟩;clear hm hi hb B1;go_wp2_with fail
      refine A4.mono ?_;rintro e w5 ⟨I1,rfl,hi,hb⟩;clear m0 m1 m2 m3 m4 m5 m6 m7 A4 p5 z5;have hm:=F1.below hb;obtain⟨B6,B8,B7,rfl⟩:=hi.form;have D7:Hid (aw t w5 B0 (.slice B6 B8 B7) ((⟨dd,(hh,A,B),i+1⟩:It)::l)/\aw t w5 B0 (.slice oa on oc) (bB dd A++l)):=⟨hi,F0.keep (A9.1.trans A9.2.1 (aN.of_below hb)) A9.2.2⟩;have p6:w5.cell? ⟨x.P,6,none⟩=some x.nv:=(ag hm.core.pB).trans rfl;have z6:w5.frozen? ⟨x.P,6,none⟩=false:=aC hm.core.pB;have C8:Hid (cW t B0 S Q s pv rec now last qv qs L x d res w (w5.setCell ⟨x.P,6,none⟩ (.slice B6 B8 B7))):=by
       have F4:=(hm.put hd HB.1 (.slice B6 B8 B7)).2;have B5:=hm.putStill hd 6 (.slice B6 B8 B7);have E4:=Qc HB.2 hm.size;show cW _ _ _ _ _ _ _ _ _ _ _ _ _ _ _ _ _;rw[C0];exact F4.out D8 HB.1 (D7.2.keep B5 E4) (D7.1.keep B5 E4) E1 H4
      clear hm hi hb;go_wp2_with fail
      (try simp only[Exit.inBlock,Exit.then]);refine bodyPost_ret (results_none rfl _ _ _) rfl ?_
      exact⟨rfl,C8⟩
   .
    have A1:sx.data.toList=ch:=D0.symm.trans hk;have b1:(sx.toList==[115,101,110,100])=false:=bg (by rw[A1];decide);have b2:(sx.toList==[119,97,105,116])=false:=bg (by rw[A1];decide);have b3:(sx.toList==[115,116,111,112])=false:=bg (by rw[A1];decide);have b4:(sx.toList==[97,115,107])=false:=bg (by rw[A1];decide);have b5:(sx.toList==[114,101,116,114,121])=false:=bg (by rw[A1];decide);have b6:(sx.toList==[114,101,112,101,97,116])=true:=du A1;obtain⟨C5,B4⟩:=A8.hd.repeat_n hk;have H7:=A8.repeat' hk;dsimp only at C5 B4 H7;by_cases hin:(i:Int)<hh.n
    .have G1:Hid (aK t ((⟨dd,(hh,A,B),i+1⟩:It)::l)/\aK t (bB dd A++(⟨dd,(hh,A,B),i+1⟩:It)::l)):=HT.ok.more (x:=⟨dd,(hh,A,B),i⟩) hk hin;have HE:Hid (cD t now k (bB dd A++(⟨dd,(hh,A,B),i+1⟩:It)::l) q {r0 with p:=p}=res):=(re (r:={r0 with p:=p}) (x:=⟨dd,(hh,A,B),i⟩) hk hin).symm.trans HT.eq;have D3:dF t (bB dd A++(⟨dd,(hh,A,B),i+1⟩:It)::l)<k:=by
      rw[lz,kH,kF,lZ (x:=(⟨dd,(hh,A,B),i+1⟩:It)) hk];rw[lZ (x:=(⟨dd,(hh,A,B),i⟩:It)) hk]at E6;have e:=pQ (n:=hh.n.toNat) (i:=i) (W:=fN t dd A) (by omega);dsimp only at E6 ⊢;omega
     have H9:=G1.2.len;rw[List.length_append,List.length_cons]at H9;have HD:Hid (∀ u ov,bp B0 S Q pv rec now last qv qs x d w wr (.cells #[.string sx,.int .i64 hh.key,.int .i64 hh.n,.int .i64 hh.m,.slice a1 n1 A6,.slice a2 n2 A7,.int .i64 hh.p.1,.int .i64 (i:Nat)] 177) u (s.md x.yv x.nv) q p v->aw t u B0 ov (bB dd A++(⟨dd,(hh,A,B),i+1⟩:It)::l)->eU t B0 S Q s pv rec now last qv qs x d r0 res w k u ov (bB dd A++(⟨dd,(hh,A,B),i+1⟩:It)::l) q p v):=fun u ov hm hi=>
      hm.next hi G1.2 D3 (by omega) HE.out C3 HT.out.dev HT.out.id D5 (by omega)
     have G8:IntKind.i64.wrap ((i:Int)+1)=(i:Int)+1:=by rw[IntKind.wrap_i64];omega
     clear hk A1 A8 D3 E6 F5;by_cases hcap:B3=1;all_goals
      first|rw[if_pos hcap]at A3|rw[if_neg hcap]at A3
      rw[A3]at HR;go_upto_region 29 with fail
      have E0:Hid (∀ u,bp B0 S Q pv rec now last qv qs x d w wr (.cells #[.string sx,.int .i64 hh.key,.int .i64 hh.n,.int .i64 hh.m,.slice a1 n1 A6,.slice a2 n2 A7,.int .i64 hh.p.1,.int .i64 (i:Nat)] 177) u (s.md x.yv x.nv) q p v->Calls prog 98 #[.agg #[.string sx,.int .i64 hh.key,.int .i64 hh.n,.int .i64 hh.m,.slice a1 n1 A6,.slice a2 n2 A7,.int .i64 hh.p.1,.int .i64 ((i:Int)+1)],_] u _):=fun u hm=>by
       exact xj t B0 dd hh A B i _ _ sx G2 _ l u (Qc HB.2 hm.size) (A5.keep hm.still) (hm.items HB.2 HR) (by omega)
      have D6:Hid (∀ u oa on oc,bp B0 S Q pv rec now last qv qs x d w wr (.cells #[.string sx,.int .i64 hh.key,.int .i64 hh.n,.int .i64 hh.m,.slice a1 n1 A6,.slice a2 n2 A7,.int .i64 hh.p.1,.int .i64 (i:Nat)] 177) u (s.md x.yv x.nv) q p v->aw t u B0 (.slice oa on oc) ((⟨dd,(hh,A,B),i+1⟩:It)::l)->Calls prog 67 #[.slice a1 n1 A6,.slice oa on oc] u _):=fun u oa on oc hm hi=>mP t B0 dd A _ _ ((⟨dd,(hh,A,B),i+1⟩:It)::l) u (Qc HB.2 hm.size) (A5.keep hm.still).1 hi (by omega) (by rw[List.length_cons];omega);have G0:Hid (bp B0 S Q pv rec now last qv qs x d w wr (.cells #[.string sx,.int .i64 hh.key,.int .i64 hh.n,.int .i64 hh.m,.slice a1 n1 A6,.slice a2 n2 A7,.int .i64 hh.p.1,.int .i64 (i:Nat)] 177) _ (s.md x.yv x.nv) q p v):=B2.below (v7 _ _).drew;have D9:Hid (Calls prog 98 #[.agg #[.string sx,.int .i64 hh.key,.int .i64 hh.n,.int .i64 hh.m,.slice a1 n1 A6,.slice a2 n2 A7,.int .i64 hh.p.1,   .int .i64 ((i:Int)+1)],_] _ _):=E0 _ G0;clear E0;go_region_with (first
       | (go_at_call 98;(with_reducible refine D9.out.mono ?_);rintro e w2 ⟨ov,rfl,hi,hb⟩;obtain⟨oa,on,oc,rfl⟩:=hi.form;have C2:=G0.below hb;obtain⟨m0,m1,m2,m3,m4,m5,m6,m7⟩:=mY C2.mark;have D1:Hid (bp B0 S Q pv rec now last qv qs x d w wr (.cells #[.string sx,.int .i64 hh.key,.int .i64 hh.n,.int .i64 hh.m,.slice a1 n1 A6,.slice a2 n2 A7,.int .i64 hh.p.1,.int .i64 (i:Nat)] 177) w2 (s.md x.yv x.nv) q p v):=C2;have H2:Hid (aw t w2 B0 (.slice oa on oc) _):=hi;clear hi hb C2)
       | (go_at_call 67;have F9:Hid (Calls prog 67 #[.slice a1 n1 A6,.slice oa on oc] w2 _):=D6 _ _ _ _ D1 H2;(with_reducible refine F9.out.mono ?_);rintro e w3 ⟨ov,rfl,hi,hb⟩;obtain⟨B6,B8,B7,rfl⟩:=hi.form;have H1:Hid (eU t B0 S Q s pv rec now last qv qs x d r0 res w k w3 (.slice B6 B8 B7) (bB dd A++(⟨dd,(hh,A,B),i+1⟩:It)::l) q p v):=HD _ _ (D1.below hb) hi;clear hi hb F9))
      all_goals
       clear HD D9 D6 c0 c1 c2 c3 c4 c5 c6 c7;go_wp2_with fail
       go_roundg k
       case measure=>omega
       case rel=>exact⟨_,_,_,_,H1⟩
    .have HN:Hid (∀ u,bp B0 S Q pv rec now last qv qs x d w wr (.cells #[.string sx,.int .i64 hh.key,.int .i64 hh.n,.int .i64 hh.m,.slice a1 n1 A6,.slice a2 n2 A7,.int .i64 hh.p.1,.int .i64 (i:Nat)] 177) u (s.md x.yv x.nv) q p v->eU t B0 S Q s pv rec now last qv qs x d r0 res w k u rv l q p v):=fun u hm=>
      hm.next (hm.items HB.2 HR) HT.ok.tail (by omega) (by omega) ((tD (r:={r0 with p:=p}) (x:=⟨dd,(hh,A,B),i⟩) hk hin).symm.trans HT.out.eq) C3 HT.out.dev HT.out.id D5 (by omega)
     clear hk A1 A8;by_cases hcap:B3=1;all_goals
      first|rw[if_pos hcap]at A3|rw[if_neg hcap]at A3
      have HD:=HN _ B2;rw[A3]at HD;have G9:=ah HD;clear HD HN;go_wp2_with fail
      go_roundg k
      case measure=>omega
      case rel=>exact⟨_,_,_,_,G9⟩
theorem cW.first {t:ByteArray}{B0 S Q:Nat}{s:Sd}{pv:Value}{rec:ByteArray}{now last:Int}{qv:Nat->Value}{qs:Nat->List aj}{L:List (Nat×Int)}{x:Rs}{d:Nat}{res:List aj×TR×Bool}{w w1 w':World}{v:Value}{q1:List aj}{p1:Pr}
  (hf:Fr (il S Q x.P x.R (qv d)) w w1) (hv:∀ b,v.ownBlock=some b->(qv d).ownBlock=some b\/w.heap.size<=b) (hid:p1.id=x.p.id)
  (h:cW t B0 S Q s pv rec now last (bL qv d v) (bL qs d q1) L {x with p:=p1} d res w1 w'):cW t B0 S Q s pv rec now last qv qs L x d res w w':=by
 obtain⟨x',v',A0,ho,hl⟩:=h;have hz:=hf.size;refine⟨x',v',A0,⟨?_,ho.hP,ho.hR,ho.id.trans hid,fun b hb=>?_,ho.stay,fun hh=>⟨(ho.gone hh).1,fun b hb=>Qc hz ((ho.gone hh).2 b hb)⟩,?_⟩,hl⟩
 .have:=ho.core;rw[qI,qI]at this;exact this
 .have h1:=ho.hv b hb;rw[ec]at h1;rcases h1 with h1|h1
  .exact hv b h1
  .exact .inr (Qc hz h1)
 .have h1:=ho.fr;rw[ec]at h1;refine Fr.wide hf (h1.mono fun k _ hk=>?_);rcases hk with hk|hk|hk|hk|hk
  .exact .inl (.inl hk)
  .exact .inl (.inr (.inl hk))
  .exact .inl (.inr (.inr (.inl hk)))
  .exact .inl (.inr (.inr (.inr (.inl hk))))
  .rcases hv k hk with h2|h2
   .exact .inl (.inr (.inr (.inr (.inr h2))))
   .exact .inr h2
theorem sP (t:ByteArray)(B0 S Q:Nat)(s:Sd)(pv:Value)(rec:ByteArray)(now last:Int)(qv:Nat->Value)(qs:Nat->List aj)(L:List (Nat×Int))(x:Rs)(d:Nat)(r r1:TR)(its:List It)(lv v:Value)(q1:List aj)(p1:Pr)(w w1:World)
  (h:au w S Q x.P x.R (s.md x.yv x.nv) pv rec now last qv qs x.p) (hL:cj w pv L) (hl:L.length<=1000) (hlk:dS t B0 w x r) (hI:aw t w B0 lv its) (hok:aK t its) (hb:∀ k,il S Q x.P x.R (qv d) k->B0<=k)
  (hd:d<3) (hdev:x.p.dev=(d:Nat)) (hq:(qs d).length<=4) (hs0:0<=x.p.sent) (hs1:x.p.sent<=999999999999990000) (hn0:0<=now) (hn1:now<=1000000000)
  (hC:au w1 S Q x.P x.R (s.md x.yv x.nv) pv rec now last (bL qv d v) (bL qs d q1) p1) (hpi:p1.id=x.p.id) (hpd:p1.dev=x.p.dev) (hps:p1.sent=x.p.sent) (hv:∀ b,v.ownBlock=some b->(qv d).ownBlock=some b\/w.heap.size<=b) (hf:Fr (il S Q x.P x.R (qv d)) w w1) (hql:q1.length<=(qs d).length)
  (hr:r1.p=p1/\r1.yes=r.yes/\r1.no=r.no):
  Calls prog 66 #[.pointer (some ⟨S,0,none⟩),.pointer (some ⟨x.P,0,none⟩),lv] w1 fun e w'=>e=.returned (.tuple #[])/\cW t B0 S Q s pv rec now last qv qs L x d (cD t now (dF t its+1) its q1 r1) w w':=by
 have A0:aN B0 w w1:=h.still hd hb hf;have hk:dS t B0 w1 {x with p:=p1} r1:=⟨hr.1,Qc hlk.base hf.size,by rw[hr.2.1];exact hlk.yes.keep A0 hlk.base,by rw[hr.2.2];exact hlk.no.keep A0 hlk.base,by rw[hr.2.1];exact hlk.okY,by rw[hr.2.2];exact hlk.okN⟩;refine(yt t B0 S Q s pv rec now last (bL qv d v) (bL qs d q1) L {x with p:=p1} d r1 its lv w1 hC (hL.after h hC hpi hd hf) hl hk (hI.keep A0 hlk.base) hok (fun k hk=>?_) hd (hpd.trans hdev) (by rw[ec];omega) (by show 0<=p1.sent;omega) (by show p1.sent<=_;omega) hn0 hn1).mono ?_
 .rw[ec]at hk;rcases hk with hk|hk|hk|hk|hk
  .exact hb k (.inl hk)
  .exact hb k (.inr (.inl hk))
  .exact hb k (.inr (.inr (.inl hk)))
  .exact hb k (.inr (.inr (.inr (.inl hk))))
  .rcases hv k hk with h2|h2
   .exact hb k (.inr (.inr (.inr (.inr h2))))
   .exact Qc hlk.base h2
 .rintro e w' ⟨rfl,ho⟩;rw[ec]at ho;exact⟨rfl,ho.first hf hv hpi⟩
theorem GO (t:ByteArray)(B0 S Q:Nat)(s:Sd)(pv:Value)(rec:ByteArray)(now last:Int)(qv:Nat->Value)(qs:Nat->List aj)(L:List (Nat×Int))(x:Rs)(d:Nat)(r:TR)(w:World)(yes:Bool)(hst:s.tx=true)
  (h:au w S Q x.P x.R (s.md x.yv x.nv) pv rec now last qv qs x.p) (hL:cj w pv L) (hl:L.length<=1000) (hlk:dS t B0 w x r) (hb:∀ k,il S Q x.P x.R (qv d) k->B0<=k)
  (hd:d<3) (hdev:x.p.dev=(d:Nat)) (hq:(qs d).length<=4) (hs0:0<=x.p.sent) (hs1:x.p.sent<=999999999999990000) (hn0:0<=now) (hn1:now<=1000000000):
  Calls prog 71 #[.pointer (some ⟨S,0,none⟩),.pointer (some ⟨x.P,0,none⟩),.bool yes] w fun e w'=>e=.returned (.tuple #[])/\cW t B0 S Q s pv rec now last qv qs L x d (lU t now yes (qs d) r) w w':=by
 have s0:w.cell? ⟨S,0,none⟩=some (.bool true):=(ag h.sB).trans (by simp[Sd.md,hst]);have p4:w.cell? ⟨x.P,4,none⟩=some (.int .i64 x.p.num):=(ag h.pB).trans rfl;have z4:w.frozen? ⟨x.P,4,none⟩=false:=aC h.pB;have A9:S≠x.P:=aA h.sB h.pB (by decide);obtain⟨ya,yn,yc,hy⟩:=hlk.yes.form;obtain⟨na,nn,nc,A3⟩:=hlk.no.form;have p5:w.cell? ⟨x.P,5,none⟩=some (.slice ya yn yc):=by rw[<- hy];exact(ag h.pB).trans rfl
 have p6:w.cell? ⟨x.P,6,none⟩=some (.slice na nn nc):=by rw[<- A3];exact(ag h.pB).trans rfl
 have A2:au (w.setCell ⟨x.P,4,none⟩ (.int .i64 0)) S Q x.P x.R (s.md x.yv x.nv) pv rec now last (bL qv d (qv d)) (bL qs d (qs d)) {x.p with num:=0}:=by
  rw[mT,mT];exact h.setP (p':={x.p with num:=0}) 4 _ rfl rfl
 have A4:Fr (il S Q x.P x.R (qv d)) w (w.setCell ⟨x.P,4,none⟩ (.int .i64 0)):=(Fr.refl _ _).setCell ⟨x.P,4,none⟩ (Or.inl (Or.inl rfl)) _;have A6:({r with p:={r.p with num:=0}}:TR).p={x.p with num:=0}:=by rw[<- hlk.p]
 cases yes with
 | true=>
  rw[xD];have HR:Hid (Calls prog 66 #[.pointer (some ⟨S,0,none⟩),.pointer (some ⟨x.P,0,none⟩),.slice ya yn yc] (w.setCell ⟨x.P,4,none⟩ (.int .i64 0)) fun e w'=>e=.returned (.tuple #[])/\cW t B0 S Q s pv rec now last qv qs L x d (cD t now (dF t r.yes+1) r.yes (qs d) {r with p:={r.p with num:=0}}) w w'):=by
   rw[<- hy];exact sP t B0 S Q s pv rec now last qv qs L x d r {r with p:={r.p with num:=0}} r.yes x.yv (qv d) (qs d) {x.p with num:=0} w _ h hL hl hlk hlk.yes hlk.okY hb hd hdev hq hs0 hs1 hn0 hn1 A2 rfl rfl rfl (fun _ hb=>.inl hb) A4 (v9 _) ⟨A6,rfl,rfl⟩
  generalize cD t now (dF t r.yes+1) r.yes (qs d) {r with p:={r.p with num:=0}}=RR at *;clear h hL hlk hb A2 A4 A6 hy A3;go_enter func71,ntmps71
  go_wp2_with fail
  refine HR.mono ?_;rintro e w' ⟨rfl,A0⟩;have A1:=ah A0;clear A0 HR;go_wp2_with fail
  go_end0;exact⟨rfl,A1⟩
 | false=>
  rw[xW];by_cases hnum:0<x.p.num
  .have A5:0<r.p.num:=by rw[hlk.p];exact hnum
   rw[if_pos A5,hlk.p];have HT:Hid (Calls prog 76 #[.pointer (some ⟨S,0,none⟩),.pointer (some ⟨x.P,0,none⟩),.int .i64 x.p.num] w _):=yb S Q x.P x.R _ pv rec now last qv qs x.p x.p.num d w h hd hdev hq;have HR:Hid (∀ (w1:World) (v:Value),au w1 S Q x.P x.R (s.md x.yv x.nv) pv rec now last (bL qv d v) (bL qs d (dr (qs d) x.p.id x.p.num)) x.p->(∀ b,v.ownBlock=some b->w.heap.size<=b)->Fr (fun k=>k=Q) w w1->Calls prog 66 #[.pointer (some ⟨S,0,none⟩),.pointer (some ⟨x.P,0,none⟩),.slice na nn nc] (w1.setCell ⟨x.P,4,none⟩ (.int .i64 0)) fun e w'=>e=.returned (.tuple #[])/\cW t B0 S Q s pv rec now last qv qs L x d (cD t now (dF t r.no+1) r.no (dr (qs d) x.p.id x.p.num) {r with p:={x.p with num:=0}}) w w'):=fun w1 v h1 h2 h3=>by
    rw[<- A3];exact sP t B0 S Q s pv rec now last qv qs L x d r {r with p:={x.p with num:=0}} r.no x.nv v (dr (qs d) x.p.id x.p.num) {x.p with num:=0} w _ h hL hl hlk hlk.no hlk.okN hb hd hdev hq hs0 hs1 hn0 hn1 (h1.setP (p':={x.p with num:=0}) 4 _ rfl rfl) rfl rfl rfl (fun b hb=>.inr (h2 b hb)) ((h3.mono fun k _ hk=>.inr (.inl hk)).setCell ⟨x.P,4,none⟩ (Or.inl (Or.inl rfl)) _) (Eg _ _ _) ⟨rfl,rfl,rfl⟩
   generalize cD t now (dF t r.no+1) r.no (dr (qs d) x.p.id x.p.num) {r with p:={x.p with num:=0}}=RR at *;have A7:Hid (x.nv=.slice na nn nc/\s.tx=true):=⟨A3,hst⟩;clear h hL hlk hb A2 A4 A6 hy A3 A5 z4 p5 p6;go_enter func71,ntmps71
   go_wp2_with fail
   refine HT.mono ?_;rintro e w1 ⟨rfl,v,h1,h2,h3⟩;have q0:w1.cell? ⟨S,0,none⟩=some (.bool true):=(ag h1.sB).trans (by simp[Sd.md,A7.out.2]);have q4:w1.cell? ⟨x.P,4,none⟩=some (.int .i64 x.p.num):=(ag h1.pB).trans rfl;have z4:w1.frozen? ⟨x.P,4,none⟩=false:=aC h1.pB;have q6:w1.cell? ⟨x.P,6,none⟩=some (.slice na nn nc):=by rw[<- A7.1];exact(ag h1.pB).trans rfl
   have A8:=HR w1 v h1 h2 h3;clear h1 h2 h3 HR HT s0 p4;go_wp2_with fail
   refine A8.mono ?_;rintro e w' ⟨rfl,A0⟩;have A1:=ah A0;clear A0 A8;go_wp2_with fail
   go_end0;exact⟨rfl,A1⟩
  .have A5:¬ 0<r.p.num:=by rw[hlk.p];exact hnum
   rw[if_neg A5];have HR:Hid (Calls prog 66 #[.pointer (some ⟨S,0,none⟩),.pointer (some ⟨x.P,0,none⟩),.slice na nn nc] (w.setCell ⟨x.P,4,none⟩ (.int .i64 0)) fun e w'=>e=.returned (.tuple #[])/\cW t B0 S Q s pv rec now last qv qs L x d (cD t now (dF t r.no+1) r.no (qs d) {r with p:={r.p with num:=0}}) w w'):=by
    rw[<- A3];exact sP t B0 S Q s pv rec now last qv qs L x d r {r with p:={r.p with num:=0}} r.no x.nv (qv d) (qs d) {x.p with num:=0} w _ h hL hl hlk hlk.no hlk.okN hb hd hdev hq hs0 hs1 hn0 hn1 A2 rfl rfl rfl (fun _ hb=>.inl hb) A4 (v9 _) ⟨A6,rfl,rfl⟩
   generalize cD t now (dF t r.no+1) r.no (qs d) {r with p:={r.p with num:=0}}=RR at *;clear h hL hlk hb A2 A4 A6 hy A3 A5;go_enter func71,ntmps71
   go_wp2_with fail
   refine HR.mono ?_;rintro e w' ⟨rfl,A0⟩;have A1:=ah A0;clear A0 HR;go_wp2_with fail
   go_end0;exact⟨rfl,A1⟩
def jc (t:ByteArray)(tr:af 5)(pg:Value)(B0:Nat):aV TR:=
 ⟨lO t tr,⟨true,pg,.slice none 0 0⟩,B0,fun w x r=>dS t B0 w x r⟩
theorem dS.keep {t:ByteArray}{B0:Nat}{w w':World}{x:Rs}{r:TR}(h:dS t B0 w x r)(hst:aN B0 w w'):dS t B0 w' x r:=by
 refine⟨h.p,?_,h.yes.keep hst h.base,h.no.keep hst h.base,h.okY,h.okN⟩;have hb:=h.base;rcases Nat.eq_zero_or_pos B0 with h0|h0
 .omega
 .have h1:=hst (B0 - 1) (by omega) (.inl (by omega));have h2:w.heap[B0 - 1]?=some _:=Array.getElem?_eq_getElem (by omega);rw[h2]at h1;have:=(Array.getElem?_eq_some_iff.mp h1).1;omega
theorem nH (t:ByteArray)(tr:af 5)(pg:Value)(B0:Nat):bw (jc t tr pg B0):=by
 refine⟨fun w x r h=>?_,fun w w' x r h hst=>dS.keep h hst,fun now yes q r=>xV yes q r,?_⟩
 .show cF r.p=cF x.p;rw[dS.p h]
 .intro S Q pv rec now last qv qs rs w x r d yes H hB hx hl hd hdev hq hs0 hs1 ht0 ht1 hlen _;refine(GO t B0 S Q (jc t tr pg B0).s pv rec now last qv qs (dz rs) x d r w yes rfl (H.core hx) H.procs (by unfold dz;rw[List.length_map];exact hlen) hl (fun k hk=>hB k ?_) hd hdev hq hs0 hs1 ht0 ht1).mono ?_
  .rcases hk with rfl|rfl|rfl|rfl|hk
   .exact .inr (.inr (.inr (.inr ⟨x,hx,.inl rfl⟩)))
   .exact .inr (.inl rfl)
   .exact .inr (.inr (.inr (.inr ⟨x,hx,.inr rfl⟩)))
   .exact .inl rfl
   .exact .inr (.inr (.inl ⟨d,hd,hk⟩))
  .rintro e w' ⟨rfl,x',v,A1,ho,A0⟩;exact⟨rfl,x',v,A1,ho,A0⟩
end Go.Proofs.YtmmmnghiegajmaaGreat
namespace Go.Proofs.Herald
theorem bq.comp {A B C:Type}{E:bM A}{F:bM B}{G:bM C}{ρ:A->B->Prop}{σ:A->C->Prop}(h:bq E F ρ)(k:bq E G σ):bq F G (fun b c=>∃ a,ρ a b/\σ a c):=by
 refine⟨fun b c hbc=>?_,fun now q id dev=>?_,fun id dev=>⟨(h.fresh id dev).2,(k.fresh id dev).2⟩,fun b c hbc now yes q hn=>?_⟩
 .obtain⟨a,h1,h2⟩:=hbc;exact(h.pub a b h1).symm.trans (k.pub a c h2)
 .obtain⟨a1,a2,a3,a4,a5⟩:=h.start now q id dev;obtain⟨b1,b2,b3,b4,b5⟩:=k.start now q id dev;exact⟨a1.symm.trans b1,a2.symm.trans b2,a4,b4,fun hf=>⟨_,a5 (a2.trans hf),b5 (a2.trans hf)⟩⟩
 .obtain⟨a,h1,h2⟩:=hbc;have A0:yes=true->(E.pub a).num≠0:=fun hy=>by rw[h.pub a b h1];exact hn hy
  obtain⟨a1,a2,a3,a4,a5⟩:=h.on a b h1 now yes q A0;obtain⟨b1,b2,b3,b4,b5⟩:=k.on a c h2 now yes q A0;exact⟨a1.symm.trans b1,a2.symm.trans b2,a4,b4,fun hf=>⟨_,a5 (a2.trans hf),b5 (a2.trans hf)⟩⟩
end Go.Proofs.Herald
