import Derived.Test.YtmmmnghiegajmaaGreatM12
import Derived.Test.YtmmmnghiegajmaaGreatM17
set_option maxHeartbeats 2000000
set_option maxRecDepth 20000
open Go.RowKit Go.Proofs.Herald Go.Proofs.Tryz
namespace Go.Proofs.Herald
theorem wq {cs:List am}(h:em cs=true):∀ x∈cs,ct cs.length x=true:=by
 unfold em at h;simp only[Bool.and_eq_true,List.all_eq_true]at h;exact h.2
def tq (cs:List am)(p:Pr):Prop:=bI p/\lj cs.length p
theorem wX {cs:List am}(hs:em cs=true):dl (mt cs) (tq cs):=by
 have A0:∀ {now:Int} {p:Pr} {r:List aj×Pr×Bool},jz cs.length now 10000 p r->my (mt cs) (tq cs) now p r:=fun h=>
  ⟨h.len,h.id,fun _=>h.dev,fun _=>h.sent0,fun _=>h.sent1,fun hd=>⟨⟨h.regs,h.pcs⟩,h.stop hd⟩⟩
 refine⟨fun now yes q r hg hq _=>A0 (GZ (wq hs) yes q r hg.1 hg.2 hq),fun now q id dev hq=>A0 (xF (wq hs) 10000 0 q (dg id dev) (Int.le_refl 0) ?_ ?_ hq),fun id dev=>rfl⟩
 .intro z hz;obtain rfl:=(List.mem_replicate.mp hz).2;omega
 .unfold lj dg;simp only;omega
end Go.Proofs.Herald
namespace Go.Proofs.YtmmmnghiegajmaaGreat
theorem bN.grow {w w':World}{S Q:Nat}{s:Sd}{pv pv':Value}{rec:ByteArray}{now last last':Int}{qv:Nat->Value}{qs:Nat->List aj}{rs:List Rs}(h:bN w S Q s pv rec now last qv qs rs)(x:Rs)
  (hS:w'.heap[S]?=some (.cells #[.bool s.tx,s.pg,s.code,.int .i64 now,.int .i64 last',pv',.slice (some ⟨Q,0,none⟩) 3 3,.string rec] 60))
  (hL:w'.ownsRow 0 144 1 pv' (rs.length+1) (fy (dz rs)++[.pointer (some ⟨x.P,0,none⟩)]))
  (hx:oO w' x) (hP:w.heap.size<=x.P) (hR:w.heap.size<=x.R) (hid:∀ y∈rs,y.p.id≠x.p.id)
  (hk:∀ k,k<w.heap.size->k≠S->pv.ownBlock≠some k->w'.heap[k]?=w.heap[k]?):bN w' S Q s pv' rec now last' qv qs (rs++[x]):=by
 have ne:∀ {k:Nat} {c:Array Value} {t:TypeId},w.heap[k]?=some (.cells c t (0,0))->t≠60->t≠144->w'.heap[k]?=w.heap[k]?:=fun {k c t} hc ht ht2=>hk k (ak hc) (aA hc h.sB ht) fun e=>by
  obtain⟨c2,A0⟩:=ax h.lB e;exact aA hc A0 ht2 rfl
 refine⟨hS,(ne h.qB (by decide) (by decide)).trans h.qB,fun d hd=>aT (h.oB d hd) fun b hb=>?_,h.dis,?_,fun y hy=>?_,?_⟩
 .obtain⟨c,hc⟩:=ax (h.oB d hd) hb;exact ne hc (by decide) (by decide)
 .have e:fy (dz (rs++[x]))=fy (dz rs)++[.pointer (some ⟨x.P,0,none⟩)]:=by simp[fy,dz]
  rw[e,List.length_append];exact hL
 .rcases List.mem_append.mp hy with hy|hy
  .obtain⟨b1,b2,b3⟩:=h.rB y hy;exact⟨(ne b1 (by decide) (by decide)).trans b1,(ne b2 (by decide) (by decide)).trans b2,b3⟩
  .rw[List.mem_singleton.mp hy];exact hx
 .rw[List.pairwise_append];refine⟨h.nd,List.pairwise_singleton _ _,fun y hy z hz=>?_⟩;rw[List.mem_singleton.mp hz];have h1:=ak (h.rB y hy).1;have h2:=ak (h.rB y hy).2.1;exact⟨by omega,by omega,hid y hy⟩
theorem Ew {dev:Int}(h:¬ (0<=dev/\dev<=2)):bd dev 0 2=false:=by
 unfold bd;simp;omega
theorem wE {dev:Int}(h:0<=dev/\dev<=2):bd dev 0 2=true:=by
 unfold bd;simp;omega
theorem Ai {RT:Type}{M:aV RT}(S Q:Nat)(rec:ByteArray)(h:az RT)(pv:Value)(qv:Nat->Value)(rs:List Rs)(dev:Int)(w:World)(H:bO M w S Q rec h pv qv rs)(hd:¬ (0<=dev/\dev<=2)):
  Calls prog 35 #[.pointer (some ⟨S,0,none⟩),.int .i64 dev] w fun e w'=>e=.returned (.tuple #[.int .i64 0,.int .i64 8])/\aR M w S Q pv qv rs rec h w':=by
 have HS:Hid (aR M w S Q pv qv rs rec h w):=aR.same H (aG.refl w) fun _ _ hl=>hl;have hb:=Ew hd;clear hd H;go_enter func35,ntmps35
 go_wp2_with fail
 refine(fp _ _ _ _).mono ?_;rintro e w1 ⟨rfl,rfl⟩;rw[hb];go_wp2_with fail
 go_ret2;exact⟨rfl,HS.out⟩
theorem yX {RT:Type}{M:aV RT}(S Q:Nat)(rec:ByteArray)(h:az RT)(pv:Value)(qv:Nat->Value)(rs:List Rs)(dev:Int)(w:World)(H:bO M w S Q rec h pv qv rs)(hd:0<=dev/\dev<=2)(hl:5<=h.rs.length):
  Calls prog 35 #[.pointer (some ⟨S,0,none⟩),.int .i64 dev] w fun e w'=>e=.returned (.tuple #[.int .i64 0,.int .i64 9])/\aR M w S Q pv qv rs rec h w':=by
 have HS:Hid (aR M w S Q pv qv rs rec h w):=aR.same H (aG.refl w) fun _ _ hl=>hl;have hb:=wE hd;have A1:5<=rs.length:=by rw[lG H.rel];exact hl
 obtain⟨pa,pc,A0⟩:=bD H.at'.lB;have c5:w.cell? ⟨S,5,none⟩=some (.slice pa rs.length pc):=by rw[<- A0];exact(ag H.at'.sB).trans rfl
 clear hd H hl A0;go_enter func35,ntmps35
 go_wp2_with fail
 refine(fp _ _ _ _).mono ?_;rintro e w1 ⟨rfl,rfl⟩;rw[hb];go_wp2_with fail
 go_ret2;exact⟨rfl,HS.out⟩
def nh:Array Value:=Array.replicate 12 (.int .i64 0)
theorem GW (W:World):(Instr.makeSlice 123 (.int .i64 12) (.int .i64 12)).run prog W=.ok (.slice (some ⟨W.heap.size,0,none⟩) 12 12) (W.alloc (.cells nh 3)):=by
 obtain⟨i0,hi,A0,A1,A2⟩:=info_parts Tryz.infoInt;rw[run_make W 123 3 i0 _ underlying123 hi A0 .i64 .i64 12 12 (by decide) (by decide) (by rw[A2];decide) (by decide),A1];have e:madeCells (Value.int .i64 0).cells (Int.toNat 12*1)=nh:=by kernel_rfl
 rw[e];rfl
def iD (w:World)(S:Nat)(id dev:Int):World:=
 ((w.setCell ⟨S,4,none⟩ (.int .i64 id)).alloc (.cells nh 3)).alloc (.cells #[.int .i64 id,.int .i64 dev,.int .i64 0,.int .i64 0,.int .i64 0,.slice none 0 0,.slice none 0 0,.slice (some ⟨w.heap.size,0,none⟩) 12 12,.int .i64 0,.int .i64 0] 147)
def jS (w:World)(id dev:Int):Rs:=⟨w.heap.size+1,w.heap.size,.slice none 0 0,.slice none 0 0,dg id dev⟩
theorem CL (w:World)(S:Nat)(id dev:Int):(iD w S id dev).heap.size=w.heap.size+2:=by simp[iD]
theorem vr (w:World)(S:Nat)(id dev:Int){k:Nat}(hk:k<w.heap.size)(hS:k≠S):(iD w S id dev).heap[k]?=w.heap[k]?:=by
 unfold iD;rw[q9 _ _ _ (by simp;omega),q9 _ _ _ (by simpa using hk),q8 _ _ _ _ hS]
theorem xU {w:World}{S:Nat}{id0 now:Int}{tx:Bool}{a b c d e:Value}(id dev:Int)(h:w.heap[S]?=some (.cells #[.bool tx,a,b,.int .i64 now,.int .i64 id0,c,d,e] 60)):
  (iD w S id dev).heap[S]?=some (.cells #[.bool tx,a,b,.int .i64 now,.int .i64 id,c,d,e] 60):=by
 have hk:=ak h;unfold iD;rw[q9 _ _ _ (by simp;omega),q9 _ _ _ (by simpa using hk),cG _ h];rfl
theorem Dv (w:World)(S:Nat)(id dev:Int):oO (iD w S id dev) (jS w id dev):=by
 have hs:(w.setCell ⟨S,4,none⟩ (.int .i64 id)).heap.size=w.heap.size:=by simp
 refine⟨?_,?_,rfl⟩
 .have h:=ey (w.setCell ⟨S,4,none⟩ (.int .i64 id)) (.cells nh 3) (.cells #[.int .i64 id,.int .i64 dev,.int .i64 0,.int .i64 0,.int .i64 0,.slice none 0 0,.slice none 0 0,.slice (some ⟨w.heap.size,0,none⟩) 12 12,.int .i64 0,.int .i64 0] 147);rw[hs]at h;exact h
 .have h:=v8 (w.setCell ⟨S,4,none⟩ (.int .i64 id)) (.cells nh 3);rw[hs]at h;have e:(iD w S id dev).heap[w.heap.size]?=some (.cells nh 3 (0,0)):=by
   unfold iD;rw[q9 _ _ _ (by simp),h]
  refine e.trans ?_;congr 1
theorem FQ (w:World)(S:Nat)(id dev:Int):Fr (fun k=>k=S) w (iD w S id dev):=
 (((Fr.refl (fun k=>k=S) w).setCell ⟨S,4,none⟩ (Or.inl rfl) _).alloc _).alloc _
theorem Fa {RT:Type}{M:aV RT}{w V w2:World}{S Q:Nat}{rec:ByteArray}{h:az RT}{pv:Value}{qv:Nat->Value}{rs:List Rs}{g cap:Nat}(H:bO M w S Q rec h pv qv rs)(dev:Int)(hids:∀ y∈rs,y.p.id≠h.last+1)(h0:ae (iD w S (h.last+1) dev) V)(hgrow:V.grownBy w2 pv.ownBlock)
  (hown:w2.ownsRow 0 144 1 (.slice (some ⟨g,0,none⟩) (rs.length+1) cap) (rs.length+1) (fy (dz rs)++[.pointer (some ⟨w.heap.size+1,0,none⟩)])) (hat:pv.ownBlock=some g\/g=V.heap.size):
  bN (w2.setCell ⟨S,5,none⟩ (.slice (some ⟨g,0,none⟩) (rs.length+1) cap)) S Q M.s (.slice (some ⟨g,0,none⟩) (rs.length+1) cap) rec h.now (h.last+1) qv h.qs (rs++[jS w (h.last+1) dev]) /\
  Fr (de S Q pv qv rs) w (w2.setCell ⟨S,5,none⟩ (.slice (some ⟨g,0,none⟩) (rs.length+1) cap)) /\
  ∀ k,de S Q (.slice (some ⟨g,0,none⟩) (rs.length+1) cap) qv (rs++[jS w (h.last+1) dev]) k->de S Q pv qv rs k\/w.heap.size<=k:=by
 have A9:=CL w S (h.last+1) dev;have hS:=xU (h.last+1) dev H.at'.sB;have A2:∀ {k:Nat},pv.ownBlock=some k->∃ c,w.heap[k]?=some (.cells c 144):=fun hk=>ax H.at'.lB hk;have A3:∀ {k:Nat},pv.ownBlock=some k->k<w.heap.size:=fun hk=>by obtain⟨c,hc⟩:=A2 hk;exact ak hc
 have A0:pv.ownBlock≠some S:=fun e=>by obtain⟨c,hc⟩:=A2 e;exact aA hc H.at'.sB (by decide) rfl
 have A4:=(iU h0 hgrow (ak hS) A0).trans hS;have A6:g≠S:=by
  obtain⟨A7,hc⟩:=ax hown (k:=g) rfl;exact aA hc A4 (by decide)
 have A8:=ak H.at'.sB;have A5:Fr (de S Q pv qv rs) w (w2.setCell ⟨S,5,none⟩ (.slice (some ⟨g,0,none⟩) (rs.length+1) cap)):=by
  refine Fr.setCell ?_ ⟨S,5,none⟩ (Or.inl (Or.inl rfl)) _;refine((FQ w S (h.last+1) dev).mono (T:=de S Q pv qv rs) fun k _ hk=>.inl hk).trans ?_;exact Fr.of_push h0 hgrow fun k hk=>.inr (.inr (.inr (.inl hk)))
 have A1:∀ k,w.heap.size<=k->k<w.heap.size+2->(w2.setCell ⟨S,5,none⟩ (.slice (some ⟨g,0,none⟩) (rs.length+1) cap)).heap[k]?=(iD w S (h.last+1) dev).heap[k]?:=fun k h1 h2=>by
  rw[q8 _ _ _ _ (show k≠S by omega)];exact iU h0 hgrow (by omega) fun e=>by have:=A3 e;omega
 refine⟨H.at'.grow (jS w (h.last+1) dev) ?_ ?_ ?_ (Nat.le_succ _) (v9 _) hids fun k hk hkS hkp=>?_,A5,fun k hk=>?_⟩
 .rw[cG _ A4];rfl
 .refine aT hown fun k hk=>?_;simp[Value.ownBlock]at hk;subst hk;exact q8 _ _ _ _ A6
 .obtain⟨r1,r2,r3⟩:=Dv w S (h.last+1) dev;exact⟨(A1 _ (Nat.le_succ _) (Nat.lt_succ_self _)).trans r1,(A1 _ (v9 _) (by show w.heap.size<w.heap.size+2;omega)).trans r2,r3⟩
 .rw[q8 _ _ _ _ hkS,iU h0 hgrow (by omega) hkp,vr _ _ _ _ hk hkS]
 .rcases hk with rfl|rfl|hk|hk|⟨y,hy,hk⟩
  .exact .inl (.inl rfl)
  .exact .inl (.inr (.inl rfl))
  .exact .inl (.inr (.inr (.inl hk)))
  .simp[Value.ownBlock]at hk;subst hk;rcases hat with e|e
   .exact .inl (.inr (.inr (.inr (.inl e))))
   .right;have:=h0.size;omega
  .rcases List.mem_append.mp hy with hy|hy
   .exact .inl (.inr (.inr (.inr (.inr ⟨y,hy,hk⟩))))
   .rw[List.mem_singleton.mp hy]at hk;simp only[jS]at hk;right;omega
end Go.Proofs.YtmmmnghiegajmaaGreat
