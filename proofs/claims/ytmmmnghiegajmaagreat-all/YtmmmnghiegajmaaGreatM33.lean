import Derived.Test.YtmmmnghiegajmaaGreatM14
import Derived.Test.YtmmmnghiegajmaaGreatM17
import Derived.Deep.MidRow
import Derived.Deep.WholeRow
set_option maxHeartbeats 8000000
set_option maxRecDepth 400000
open Go.RowKit Go.Proofs.Herald Go.Proofs.Tryz
namespace Go.Proofs.YtmmmnghiegajmaaGreat
structure jx (w:World)(H o:Nat)(cs:Array Value)(T:TypeId)(v:Value)(q:List aj):Prop where
 blk:w.heap[H]?=some (.cells cs T (0,0))
 cel:cs[o]?=some v
 ty:T≠87
 own:w.ownsRow 0 87 4 v q.length (bA q)
 len:q.length<=4
theorem jx.below {w w':World}{H o:Nat}{cs:Array Value}{T:TypeId}{v:Value}{q:List aj}(h:jx w H o cs T v q)(hb:Below w.heap.size w w'):jx w' H o cs T v q:=
 ⟨(hb.block H (ak h.blk)).trans h.blk,h.cel,h.ty,aT h.own fun b hb'=>by obtain⟨c,hc⟩:=ax h.own hb';exact hb.block b (ak hc),h.len⟩
theorem yA (H o:Nat)(cs:Array Value)(T:TypeId)(v:Value)(q:List aj)(id num:Int)(w:World)(h:jx w H o cs T v q):
  Calls prog 103 #[.pointer (some ⟨H,o,none⟩),.int .i64 id,.int .i64 num] w fun e w'=>e=.returned (.bool (jt q id num))/\Below w.heap.size w w':=by
 obtain⟨a,A3,hv⟩:=bD h.own;subst hv;have cq:w.cell? ⟨H,o,none⟩=some (.slice a q.length A3):=(ag h.blk).trans h.cel;have hl:=h.len;have HO:Hid (w.ownsRow 0 87 4 (.slice a q.length A3) q.length (bA q)):=h.own;have A5:Hid (H<w.heap.size):=ak h.blk;clear h;go_enter func103,ntmps103
 go_wp2_with fail
 go_loopw [14] (fun i wr=>∃ k:Nat,k<=q.length/\i=.int .i64 k/\Hid (Below w.heap.size w wr)/\Hid ((q.take k).any (fun m=>m.run==id && m.num==num)=false)) (fun i _=>q.length - (intOf i).toNat)
 case atStart=>exact⟨0,Qa _,rfl,v7 _ _,by show _=_;simp⟩
 case round=>
  obtain⟨k,hk,rfl,HB,HT⟩:=hrel;by_cases hlt:k<q.length
  .obtain⟨g,A4,hv,_,A2⟩:=HO.form (by omega);simp at hv;obtain⟨rfl,rfl⟩:=hv;obtain⟨e0,e1,e2,e3⟩:=ld HO hlt;rw[<- HB.cell (p:=⟨g,k*4,none⟩) A2]at e0;rw[<- HB.cell (p:=⟨g,k*4+1,none⟩) A2]at e1;rw[<- HB.cell (p:=⟨g,k*4+2,none⟩) A2]at e2;rw[<- HB.cell (p:=⟨g,k*4+3,none⟩) A2]at e3;have A0:Hid (q[k].run=id->q[k].num=num->jt q id num=true):=fun h1 h2=>by
    unfold jt;rw[List.any_eq_true];exact⟨q[k],Qb hlt,by simp[h1,h2]⟩
   have A1:Hid (¬ (q[k].run=id/\q[k].num=num)->(q.take (k+1)).any (fun m=>m.run==id && m.num==num)=false):=fun h1=>by
    rw[Qd hlt,List.any_append,HT];simp;exact fun h2 h3=>h1 ⟨h2,h3⟩
   clear A2;generalize q[k]=m at *;by_cases hr:m.run=id
   .have b1:(m.run==id)=true:=by simpa using hr
    by_cases hn:m.num=num
    .have b2:(m.num==num)=true:=by simpa using hn
     have HY:Hid (_=_):=A0 hr hn;clear hr hn A0 A1;go_wp2_with fail
     go_ret;exact⟨dX HY.symm,HB.alloc HB.size _⟩
    .have b2:(m.num==num)=false:=by simpa using hn
     have HN:Hid (_=_):=A1 (fun h=>hn h.2);clear hr hn A0 A1;go_wp2_with fail
     go_roundw;case rel=>exact⟨k+1,by omega,by go_num,HB.out.alloc HB.out.size _,HN⟩
     case measure=>simp[intOf];omega
   .have b1:(m.run==id)=false:=by simpa using hr
    have HN:Hid (_=_):=A1 (fun h=>hr h.1);clear hr A0 A1;go_wp2_with fail
    go_roundw;case rel=>exact⟨k+1,by omega,by go_num,HB.out.alloc HB.out.size _,HN⟩
    case measure=>simp[intOf];omega
  .have HE:Hid (q.take k=q):=Qe (by omega);go_wp2_with fail
   go_ret;exact⟨dX (by unfold jt;have h:=HT.out;rw[HE]at h;exact h.symm),HB⟩
structure mE (w w':World)(H o:Nat)(cs:Array Value)(T:TypeId)(q:List aj)(v':Value):Prop where
 blk:w'.heap[H]?=some (.cells (cs.setIfInBounds o v') T (0,0))
 own:w'.ownsRow w.heap.size 87 4 v' q.length (bA q)
 fr:Fr (fun k=>k=H) w w'
theorem xp (H o:Nat)(cs:Array Value)(T:TypeId)(v:Value)(q:List aj)(id num:Int)(w:World)(h:jx w H o cs T v q)(hnum:¬ num=0):
  Calls prog 106 #[.pointer (some ⟨H,o,none⟩),.int .i64 id,.int .i64 num] w fun e w'=>e=.returned (.tuple #[])/\∃ v',mE w w' H o cs T (dr q id num) v':=by
 obtain⟨a,A6,hv⟩:=bD h.own;subst hv;have cq:w.cell? ⟨H,o,none⟩=some (.slice a q.length A6):=(ag h.blk).trans h.cel;have hl:=h.len;have HO:Hid (w.ownsRow 0 87 4 (.slice a q.length A6) q.length (bA q)):=h.own;have HH:=ah h;clear h;go_enter func106,ntmps106
 go_wp2_with fail
 go_loopw [6,14] (fun v i wr=>∃ k:Nat,k<=q.length/\i=.int .i64 k/\Hid (wr.ownsRow w.heap.size 87 4 v ((q.take k).filter (cQ id num)).length (bA ((q.take k).filter (cQ id num))))/\Hid (Below w.heap.size w wr)) (fun _ i _=>q.length - (intOf i).toNat)
 case atStart=>exact⟨0,Qa _,rfl,Qg _ _ _ _,v7 _ _⟩
 case round=>
  obtain⟨k,hk,rfl,HV,HB⟩:=hrel;obtain⟨F,hF⟩:∃ F,F=(q.take k).filter (cQ id num):=⟨_,rfl⟩;rw[<- hF]at HV;have B2:F.length<=4:=by rw[hF];have:=List.length_filter_le (cQ id num) (q.take k);simp at this;omega
  by_cases hlt:k<q.length
  .have A2:Hid (cQ id num q[k]=true->(q.take (k+1)).filter (cQ id num)=F++[q[k]]):=fun h=>by
    rw[Qd hlt,List.filter_append,<- hF];simp[h]
   have A1:Hid (cQ id num q[k]=false->(q.take (k+1)).filter (cQ id num)=F):=fun h=>by
    rw[Qd hlt,List.filter_append,<- hF];simp[h]
   obtain⟨g,A9,hv,_,A5⟩:=HO.form (by omega);simp at hv;obtain⟨rfl,rfl⟩:=hv;obtain⟨e0,e1,e2,e3⟩:=ld HO hlt;rw[<- HB.cell (p:=⟨g,k*4,none⟩) A5]at e0;rw[<- HB.cell (p:=⟨g,k*4+1,none⟩) A5]at e1;rw[<- HB.cell (p:=⟨g,k*4+2,none⟩) A5]at e2;rw[<- HB.cell (p:=⟨g,k*4+3,none⟩) A5]at e3;clear hF A5;generalize q[k]=m at *;by_cases A0:cQ id num m=true
   .have HE:Hid ((q.take (k+1)).filter (cQ id num)=F++[m]):=A2 A0;by_cases hr:m.run=id
    .have b1:(m.run != id)=false:=by simpa using hr
     have b2:(m.num != num)=true:=by unfold cQ at A0;simp[hr]at A0;simpa using A0.2
     clear hr A0 A2 A1;go_wp2_with (at_builtin;refine gN _ rfl (.tmp 28) (.tmp 30) 99 rfl 87 _ 4 32 underlying99 Tryz.infoMsg rfl (by decide) (by decide) u6 F.length 1 (bA F) (wr.heap.size+1) [.int .i64 m.dev,.int .i64 m.run,.int .i64 m.num,.int .i64 m.key] (by rfl) (by exact((bZ HV).alloc _).alloc _) (by exact ey _ _ _) (by rfl) rfl (by simp[Value.oneCell']) (by decide) (by omega) ?_)
     intro v2 w2 hown2 ha2;have A3:=iF (w0:=w) (B:=w.heap.size) ((HB.alloc HB.size _).alloc (by have:=HB.size;simp;omega) _) (by have:=HB.out.size;simp;omega) ((HV.out.alloc _).alloc _) hown2 ha2;replace hown2:=A3.2;have A8:Hid (w2.ownsRow w.heap.size 87 4 v2 ((q.take (k+1)).filter (cQ id num)).length (bA ((q.take (k+1)).filter (cQ id num)))):=by
      rw[HE,mG,List.length_append];exact hown2
     have A7:Hid (Below w.heap.size w w2):=A3.1;clear hown2 ha2 A3;go_wp2_with fail
     go_roundw;case rel=>exact⟨k+1,by omega,by go_num,A8,A7⟩
     case measure=>simp[intOf];omega
    .have b1:(m.run != id)=true:=by simpa using hr
     clear hr A0 A2 A1;go_wp2_with (at_builtin;refine gN _ rfl (.tmp 28) (.tmp 30) 99 rfl 87 _ 4 32 underlying99 Tryz.infoMsg rfl (by decide) (by decide) u6 F.length 1 (bA F) (wr.heap.size+1) [.int .i64 m.dev,.int .i64 m.run,.int .i64 m.num,.int .i64 m.key] (by rfl) (by exact((bZ HV).alloc _).alloc _) (by exact ey _ _ _) (by rfl) rfl (by simp[Value.oneCell']) (by decide) (by omega) ?_)
     intro v2 w2 hown2 ha2;have A3:=iF (w0:=w) (B:=w.heap.size) ((HB.alloc HB.size _).alloc (by have:=HB.size;simp;omega) _) (by have:=HB.out.size;simp;omega) ((HV.out.alloc _).alloc _) hown2 ha2;replace hown2:=A3.2;have A8:Hid (w2.ownsRow w.heap.size 87 4 v2 ((q.take (k+1)).filter (cQ id num)).length (bA ((q.take (k+1)).filter (cQ id num)))):=by
      rw[HE,mG,List.length_append];exact hown2
     have A7:Hid (Below w.heap.size w w2):=A3.1;clear hown2 ha2 A3;go_wp2_with fail
     go_roundw;case rel=>exact⟨k+1,by omega,by go_num,A8,A7⟩
     case measure=>simp[intOf];omega
   .have A0:cQ id num m=false:=by simpa using A0
    have HE:Hid ((q.take (k+1)).filter (cQ id num)=F):=A1 A0;have hb:m.run=id/\m.num=num:=by
     unfold cQ at A0;simp[hnum]at A0;exact A0
    have b1:(m.run != id)=false:=by simpa using hb.1
    have b2:(m.num != num)=false:=by simpa using hb.2
    clear hb A0 A2 A1;go_wp2_with fail
    go_roundw;case rel=>exact⟨k+1,by omega,by go_num,by rw[HE.out];exact HV.alloc _,HB.alloc HB.size _⟩
    case measure=>simp[intOf];omega
  .have HE:Hid (F=dr q id num):=by show _=_;rw[hF,Qe (by omega)];rfl
   have A4:Hid (jx wr H o cs T (.slice a q.length A6) q):=HH.below HB;have c1:wr.cell? ⟨H,o,none⟩=some (.slice a q.length A6):=(ag A4.blk).trans A4.cel;have z:wr.frozen? ⟨H,o,none⟩=false:=aC A4.blk;clear hF;obtain⟨av,B1,B0⟩:=bD HV;subst B0;go_wp2_with fail
   go_end0;refine⟨rfl,_,cG _ A4.blk,?_,?_⟩
   .rw[<- HE];refine lF (aT (bZ HV) fun b hb=>?_) fun b hb=>(cS HV hb).1;obtain⟨c,hc⟩:=ax (bZ HV) hb;exact q8 _ _ _ _ (aA hc A4.blk A4.ty.symm)
   .exact((Fr.of_below HB).mono (T:=fun k=>k=H) fun j hj hs=>by omega).setCell ⟨H,o,none⟩ (Or.inl rfl) _
theorem AG (H o:Nat)(cs:Array Value)(T:TypeId)(v:Value)(q:List aj)(id:Int)(w:World)(h:jx w H o cs T v q):
  Calls prog 104 #[.pointer (some ⟨H,o,none⟩),.int .i64 id] w fun e w'=>e=.returned (.tuple #[])/\∃ v',mE w w' H o cs T (dr q id 0) v':=by
 obtain⟨a,A4,hv⟩:=bD h.own;subst hv;have cq:w.cell? ⟨H,o,none⟩=some (.slice a q.length A4):=(ag h.blk).trans h.cel;have hl:=h.len;have HO:Hid (w.ownsRow 0 87 4 (.slice a q.length A4) q.length (bA q)):=h.own;have HH:=ah h;clear h;go_enter func104,ntmps104
 go_wp2_with fail
 go_loopw [4,12] (fun v i wr=>∃ k:Nat,k<=q.length/\i=.int .i64 k/\Hid (wr.ownsRow w.heap.size 87 4 v ((q.take k).filter (cQ id 0)).length (bA ((q.take k).filter (cQ id 0))))/\Hid (Below w.heap.size w wr)) (fun _ i _=>q.length - (intOf i).toNat)
 case atStart=>exact⟨0,Qa _,rfl,Qg _ _ _ _,v7 _ _⟩
 case round=>
  obtain⟨k,hk,rfl,HV,HB⟩:=hrel;obtain⟨F,hF⟩:∃ F,F=(q.take k).filter (cQ id 0):=⟨_,rfl⟩;rw[<- hF]at HV;have B1:F.length<=4:=by rw[hF];have:=List.length_filter_le (cQ id 0) (q.take k);simp at this;omega
  by_cases hlt:k<q.length
  .have A1:Hid (cQ id 0 q[k]=true->(q.take (k+1)).filter (cQ id 0)=F++[q[k]]):=fun h=>by
    rw[Qd hlt,List.filter_append,<- hF];simp[h]
   have A0:Hid (cQ id 0 q[k]=false->(q.take (k+1)).filter (cQ id 0)=F):=fun h=>by
    rw[Qd hlt,List.filter_append,<- hF];simp[h]
   obtain⟨g,A8,hv,_,A3⟩:=HO.form (by omega);simp at hv;obtain⟨rfl,rfl⟩:=hv;obtain⟨e0,e1,e2,e3⟩:=ld HO hlt;rw[<- HB.cell (p:=⟨g,k*4,none⟩) A3]at e0;rw[<- HB.cell (p:=⟨g,k*4+1,none⟩) A3]at e1;rw[<- HB.cell (p:=⟨g,k*4+2,none⟩) A3]at e2;rw[<- HB.cell (p:=⟨g,k*4+3,none⟩) A3]at e3;clear hF A3;generalize q[k]=m at *;by_cases hr:m.run=id
   .have b1:(m.run != id)=false:=by simpa using hr
    have HE:Hid ((q.take (k+1)).filter (cQ id 0)=F):=A0 (vl hr rfl);clear hr A1 A0;go_wp2_with fail
    go_roundw;case rel=>exact⟨k+1,by omega,by go_num,by rw[HE.out];exact HV.alloc _,HB.alloc HB.size _⟩
    case measure=>simp[intOf];omega
   .have b1:(m.run != id)=true:=by simpa using hr
    have HE:Hid ((q.take (k+1)).filter (cQ id 0)=F++[m]):=A1 (vm hr);clear hr A1 A0;go_wp2_with (at_builtin;refine gN _ rfl (.tmp 20) (.tmp 22) 99 rfl 87 _ 4 32 underlying99 Tryz.infoMsg rfl (by decide) (by decide) u4 F.length 1 (bA F) (wr.heap.size+1) [.int .i64 m.dev,.int .i64 m.run,.int .i64 m.num,.int .i64 m.key] (by rfl) (by exact((bZ HV).alloc _).alloc _) (by exact ey _ _ _) (by rfl) rfl (by simp[Value.oneCell']) (by decide) (by omega) ?_)
    intro v2 w2 hown2 ha2;have A5:=iF (w0:=w) (B:=w.heap.size) ((HB.alloc HB.size _).alloc (by have:=HB.size;simp;omega) _) (by have:=HB.out.size;simp;omega) ((HV.out.alloc _).alloc _) hown2 ha2;replace hown2:=A5.2;have A7:Hid (w2.ownsRow w.heap.size 87 4 v2 ((q.take (k+1)).filter (cQ id 0)).length (bA ((q.take (k+1)).filter (cQ id 0)))):=by
     rw[HE,mG,List.length_append];exact hown2
    have A6:Hid (Below w.heap.size w w2):=A5.1;clear hown2 ha2 A5;go_wp2_with fail
    go_roundw;case rel=>exact⟨k+1,by omega,by go_num,A7,A6⟩
    case measure=>simp[intOf];omega
  .have HE:Hid (F=dr q id 0):=by show _=_;rw[hF,Qe (by omega)];rfl
   have A2:Hid (jx wr H o cs T (.slice a q.length A4) q):=HH.below HB;have c1:wr.cell? ⟨H,o,none⟩=some (.slice a q.length A4):=(ag A2.blk).trans A2.cel;have z:wr.frozen? ⟨H,o,none⟩=false:=aC A2.blk;clear hF;obtain⟨av,B0,A9⟩:=bD HV;subst A9;go_wp2_with fail
   go_end0;refine⟨rfl,_,cG _ A2.blk,?_,?_⟩
   .rw[<- HE];refine lF (aT (bZ HV) fun b hb=>?_) fun b hb=>(cS HV hb).1;obtain⟨c,hc⟩:=ax (bZ HV) hb;exact q8 _ _ _ _ (aA hc A2.blk A2.ty.symm)
   .exact((Fr.of_below HB).mono (T:=fun k=>k=H) fun j hj hs=>by omega).setCell ⟨H,o,none⟩ (Or.inl rfl) _
def cV (p:Pr):List Value:=.int .i64 p.id::.int .i64 p.dev::.int .i64 p.sent::.int .i64 p.til::.int .i64 p.num::((p.regs.map fun z=>Value.int .i64 z)++[.int .i64 p.els,.int .i64 p.tow])
theorem lW {p:Pr}(h:p.regs.length=12):(cV p).length=19:=by simp[cV,h]
theorem Aa {p:Pr}(h:p.regs.length=12):(cV p)[17]?=some (.int .i64 p.els):=by
 unfold cV;simp[h]
theorem uB {p:Pr}(h:p.regs.length=12):(cV p)[18]?=some (.int .i64 p.tow):=by
 unfold cV;simp[h]
theorem Ab {p:Pr}(h:p.regs.length=12){j:Nat}(hj:j<12):(cV p)[5+j]?=some (.int .i64 (cw p (j:Int))):=by
 unfold cV cw;have e:5+j=j+1+1+1+1+1:=by omega
 rw[e];simp[List.getElem?_append_left,h,hj]
theorem tF {p:Pr}(h:p.regs.length=12)(z:Int):(cV p).set 17 (.int .i64 z)=cV {p with els:=z}:=by
 unfold cV;simp[List.set_append_right,h]
theorem yG {p:Pr}(h:p.regs.length=12)(z:Int):(cV p).set 18 (.int .i64 z)=cV {p with tow:=z}:=by
 unfold cV;simp[List.set_append_right,h]
theorem yJ {p:Pr}(h:p.regs.length=12){j:Nat}(hj:j<12)(z:Int):(cV p).set (5+j) (.int .i64 z)=cV (eP p (j:Int) z):=by
 unfold cV eP;have e:5+j=j+1+1+1+1+1:=by omega
 rw[e];simp[List.set_append_left,h,hj,List.map_set]
structure bC (w:World)(R H o:Nat)(cs:Array Value)(T:TypeId)(v:Value)(q:List aj)(p:Pr):Prop where
 run:w.heap[R]?=some (.cells (cV p).toArray 172)
 rl:p.regs.length=12
 que:jx w H o cs T v q
 ty:T≠172
theorem bC.below {w w':World}{R H o:Nat}{cs:Array Value}{T:TypeId}{v:Value}{q:List aj}{p:Pr}(h:bC w R H o cs T v q p)(hb:Below w.heap.size w w'):bC w' R H o cs T v q p:=
 ⟨(hb.block R (ak h.run)).trans h.run,h.rl,h.que.below hb,h.ty⟩
structure aO (w w':World)(R H o:Nat)(cs:Array Value)(T:TypeId)(v:Value)(q:List aj)(p:Pr):Prop where
 ex:∃ v',bC w' R H o (cs.setIfInBounds o v') T v' q p/\∀ b,v'.ownBlock=some b->v.ownBlock=some b\/w.heap.size<=b
 fr:Fr (fun k=>k=R\/k=H\/v.ownBlock=some k) w w'
theorem nG {cs:Array Value}{o:Nat}{v:Value}(h:cs[o]?=some v):cs.setIfInBounds o v=cs:=by
 apply Array.ext
 .simp
 .intro i h1 h2;by_cases e:o=i
  .subst e;rw[Array.getElem?_eq_getElem h2]at h;simp at h;simp[h]
  .rw[Array.getElem_setIfInBounds_ne _ e]
theorem aO.of {w:World}{R H o:Nat}{cs:Array Value}{T:TypeId}{v:Value}{q:List aj}{p:Pr}(h:bC w R H o cs T v q p):aO w w R H o cs T v q p:=
 ⟨⟨v,by rw[nG h.que.cel];exact h,fun _ hb=>.inl hb⟩,Fr.refl _ _⟩
theorem aO.below {w w1 w2:World}{R H o:Nat}{cs:Array Value}{T:TypeId}{v:Value}{q:List aj}{p:Pr}(h:aO w w1 R H o cs T v q p)(hb:Below w1.heap.size w1 w2):aO w w2 R H o cs T v q p:=by
 obtain⟨⟨v',h1,h2⟩,h3⟩:=h;exact⟨⟨v',h1.below hb,h2⟩,h3.trans ((Fr.of_below hb).mono fun k hk hs=>by omega)⟩
theorem aO.trans {w w1 w2:World}{R H o:Nat}{cs:Array Value}{T:TypeId}{v v1:Value}{q:List aj}{p:Pr}(hv:∀ b,v1.ownBlock=some b->v.ownBlock=some b\/w.heap.size<=b)(hf:Fr (fun k=>k=R\/k=H\/v.ownBlock=some k) w w1)(h:aO w1 w2 R H o (cs.setIfInBounds o v1) T v1 q p):aO w w2 R H o cs T v q p:=by
 obtain⟨⟨v',h1,h2⟩,h3⟩:=h;refine⟨⟨v',by rw[Array.setIfInBounds_setIfInBounds]at h1;exact h1,fun b hb=>?_⟩,?_⟩
 .rcases h2 b hb with h|h
  .exact hv b h
  .exact .inr (Qc hf.size h)
 .have f1:Fr (fun k=>(k=R\/k=H\/v.ownBlock=some k)\/w.heap.size<=k) w w1:=hf.mono fun k _ hk=>.inl hk;have f2:Fr (fun k=>(k=R\/k=H\/v.ownBlock=some k)\/w.heap.size<=k) w1 w2:=h3.mono fun k _ hk=>by
   rcases hk with h|h|h
   .exact .inl (.inl h)
   .exact .inl (.inr (.inl h))
   .rcases hv k h with h|h
    .exact .inl (.inr (.inr h))
    .exact .inr h
  exact(f1.trans f2).mono fun k hk hs=>by
   rcases hs with h|h
   .exact h
   .omega
theorem bC.setR {w:World}{R H o:Nat}{cs:Array Value}{T:TypeId}{v:Value}{q:List aj}{p p':Pr}(h:bC w R H o cs T v q p)(j:Nat)(u:Value)(hc:(cV p).set j u=cV p')(hl:p'.regs.length=12):bC (w.setCell ⟨R,j,none⟩ u) R H o cs T v q p':=by
 refine⟨?_,hl,⟨?_,h.que.cel,h.que.ty,aT h.que.own fun b hb=>?_,h.que.len⟩,h.ty⟩
 .rw[cG _ h.run,List.setIfInBounds_toArray,hc]
 .rw[q8 _ _ _ _ (aA h.que.blk h.run h.ty)];exact h.que.blk
 .obtain⟨c,hc⟩:=ax h.que.own hb;exact q8 _ _ _ _ (aA hc h.run (by decide))
theorem aO.setR {w w1:World}{R H o:Nat}{cs:Array Value}{T:TypeId}{v:Value}{q:List aj}{p p':Pr}(h:aO w w1 R H o cs T v q p)(j:Nat)(u:Value)(hc:(cV p).set j u=cV p')(hl:p'.regs.length=12):aO w (w1.setCell ⟨R,j,none⟩ u) R H o cs T v q p':=by
 obtain⟨⟨v',h1,h2⟩,h3⟩:=h;exact⟨⟨v',h1.setR j u hc hl,h2⟩,h3.setCell ⟨R,j,none⟩ (.inl (.inl rfl)) _⟩
theorem qJ (R H o:Nat)(cs:Array Value)(T:TypeId)(v:Value)(q:List aj)(p:Pr)(til num:Int)(w:World)(h:bC w R H o cs T v q p):
  Calls prog 156 #[.pointer (some ⟨R,0,none⟩),.int .i64 til,.int .i64 num] w fun e w'=>e=.returned (.int .i64 1)/\bC w' R H o cs T v q {p with til:=til,num:=num}/\Fr (fun k=>k=R) w w':=by
 have p3:w.cell? ⟨R,3,none⟩=some (.int .i64 p.til):=(ag h.run).trans rfl;have p4:w.cell? ⟨R,4,none⟩=some (.int .i64 p.num):=(ag h.run).trans rfl;have z3:w.frozen? ⟨R,3,none⟩=false:=aC h.run;have z4:w.frozen? ⟨R,4,none⟩=false:=aC h.run;have HH:=ah h;clear h;go_enter func156,ntmps156
 go_wp2_with fail
 go_ret;refine⟨rfl,?_,((Fr.refl (fun k=>k=R) _).setCell ⟨R,3,none⟩ (Or.inl rfl) _).setCell ⟨R,4,none⟩ (Or.inl rfl) _⟩;exact(HH.setR (p':={p with til:=til}) 3 _ rfl HH.rl).setR (p':={p with til:=til,num:=num}) 4 _ rfl HH.rl
structure gZ (w w':World)(H o:Nat)(cs:Array Value)(T:TypeId)(v:Value)(q:List aj):Prop where
 ex:∃ v',jx w' H o (cs.setIfInBounds o v') T v' q/\∀ b,v'.ownBlock=some b->v.ownBlock=some b\/w.heap.size<=b
 fr:Fr (fun k=>k=H\/v.ownBlock=some k) w w'
theorem Ga {q:List aj}{m:aj}{k:Nat}(hk:k<q.length)(h:∀ x∈q.take k,¬ iJ m x)(hm:iJ m q[k]):fR q m=some (q.set k m):=by
 unfold fR;rw[xo q m k hk h hm]
theorem CS {q:List aj}{m:aj}(h:∀ x∈q,¬ iJ m x)(hl:4<=q.length):fR q m=none:=by
 unfold fR;rw[pP q m h];simp only[if_pos hl]
theorem EM {q:List aj}{m:aj}(h:∀ x∈q,¬ iJ m x)(hl:¬ 4<=q.length):fR q m=some (q++[m]):=by
 unfold fR;rw[pP q m h];simp only[if_neg hl]
theorem GM (H o:Nat)(cs:Array Value)(T:TypeId)(v:Value)(q:List aj)(m:aj)(w:World)(h:jx w H o cs T v q):
  Calls prog 163 #[.pointer (some ⟨H,o,none⟩),.agg #[.int .i64 m.dev,.int .i64 m.run,.int .i64 m.num,.int .i64 m.key]] w fun e w'=>e=.returned (.bool (fR q m).isSome)/\gZ w w' H o cs T v ((fR q m).getD q):=by
 obtain⟨a,A0,hv⟩:=bD h.own;have HV:=ah hv;subst hv;have hl:=h.len;have HH:=ah h;have cq:w.cell? ⟨H,o,none⟩=some (.slice a q.length A0):=(ag h.blk).trans h.cel;have B9:H<w.heap.size:=ak h.blk;clear h;go_enter func163,ntmps163
 go_wp2_with fail
 clear cq;go_loopw [12] (fun i wr=>∃ k:Nat,k<=q.length/\i=.int .i64 k/\Hid (∀ x∈q.take k,¬ iJ m x)/\Hid (wr.heap[w.heap.size]?=some (.cells #[.int .i64 m.dev,.int .i64 m.run,.int .i64 m.num,.int .i64 m.key] 87)/\Below w.heap.size w wr)) (fun i _=>q.length - (intOf i).toNat)
 case atStart=>exact⟨0,Qa _,rfl,fun x hx=>absurd hx (by simp),v8 _ _,(v7 _ _).alloc (v9 _) _⟩
 case round=>
  obtain⟨k,hk,rfl,HT,HR⟩:=hrel;have HC:Hid (jx wr H o cs T (.slice a q.length A0) q):=HH.below HR.2;have cq:wr.cell? ⟨H,o,none⟩=some (.slice a q.length A0):=(ag HC.blk).trans HC.cel;have zq:wr.frozen? ⟨H,o,none⟩=false:=aC HC.blk;obtain⟨m0,m1,m2,m3⟩:=fP HR.1;have B5:w.heap.size<wr.heap.size:=ak HR.1;have B4:H<wr.heap.size:=ak HC.blk;by_cases hlt:k<q.length
  .obtain⟨g,B2,hv,_,C1⟩:=HC.own.form (by omega);simp at hv;obtain⟨rfl,rfl⟩:=hv;obtain⟨e0,e1,e2,e3⟩:=ld HC.own hlt;obtain⟨_,B3,A1⟩:=cS HC.own (k:=g) rfl;have y0:wr.frozen? ⟨g,k*4,none⟩=false:=aC A1;have y1:wr.frozen? ⟨g,k*4+1,none⟩=false:=aC A1;have y2:wr.frozen? ⟨g,k*4+2,none⟩=false:=aC A1;have y3:wr.frozen? ⟨g,k*4+3,none⟩=false:=aC A1;have C2:g<w.heap.size:=by
    obtain⟨_,c0,B6⟩:=cS HH.own (k:=g) rfl;exact ak B6
   by_cases hm:q[k].run=m.run/\q[k].key=m.key
   .have b1:(q[k].run==m.run)=true:=by simpa using hm.1
    have b2:(q[k].key==m.key)=true:=by simpa using hm.2
    have A3:Hid (fR q m=some (q.set k m)):=Ga hlt HT hm;have B1:Hid (∀ ob,gZ w (((((wr.setCell ⟨g,k*4,none⟩ (.int .i64 m.dev)).setCell ⟨g,k*4+1,none⟩ (.int .i64 m.run)).setCell ⟨g,k*4+2,none⟩ (.int .i64 m.num)).setCell ⟨g,k*4+3,none⟩ (.int .i64 m.key)).alloc ob).drew H o cs T (.slice (some ⟨g,0,none⟩) q.length A0) (q.set k m)):=fun ob=>by
     have f0:Fr (fun j=>j=H\/(Value.slice (some ⟨g,0,none⟩) q.length A0).ownBlock=some j) w wr:=(Fr.of_below HR.2).mono fun j hj hs=>by omega
     have A4:g=H\/(Value.slice (some ⟨g,0,none⟩) q.length A0).ownBlock=some g:=.inr rfl;refine⟨⟨_,⟨?_,?_,HC.ty,?_,by simp;exact HC.len⟩,fun b hb=>.inl hb⟩,(((((f0.setCell ⟨g,k*4,none⟩ (Or.inl A4) _).setCell ⟨g,k*4+1,none⟩ (Or.inl A4) _).setCell ⟨g,k*4+2,none⟩ (Or.inl A4) _).setCell ⟨g,k*4+3,none⟩ (Or.inl A4) _).alloc _).drew⟩
     .have A5:H≠g:=aA HC.blk A1 HC.ty;have ed:∀ W:World,W.drew.heap=W.heap:=fun _=>rfl;rw[nG HC.cel,ed,q9 _ _ _ (by rw[ef,ef,ef,ef];exact B4),q8 _ _ _ _ A5,q8 _ _ _ _ A5,q8 _ _ _ _ A5,q8 _ _ _ _ A5];exact HC.blk
     .rw[nG HC.cel];exact HC.cel
     .have h1:=HC.own;rw[tM q k hlt]at h1;have h2:=qq (p:=k*4) h1 (by rw[mI,List.length_take,Nat.min_eq_left (by omega)]) (.int .i64 m.dev) (.int .i64 m.run) (.int .i64 m.num) (.int .i64 m.key);rw[<- tR q k hlt m]at h2;rw[List.length_set];exact h2.alloc _
    clear hm A1;generalize q[k]=x at *;go_wp2_with fail
    go_region;all_goals
     go_wp2_with fail
     go_ret;rw[A3];exact⟨rfl,B1 _⟩
   .have A9:Hid (∀ x∈q.take (k+1),¬ iJ m x):=by
     intro x hx;rw[Qd hlt,List.mem_append,List.mem_singleton]at hx;rcases hx with hx|rfl
     .exact HT x hx
     .exact hm
    have A8:Hid (∀ ob,(wr.alloc ob).heap[w.heap.size]?=some (.cells #[.int .i64 m.dev,.int .i64 m.run,.int .i64 m.num,.int .i64 m.key] 87)/\Below w.heap.size w (wr.alloc ob)):=fun ob=>⟨by rw[q9 _ _ _ B5];exact HR.1,HR.2.alloc HR.2.size _⟩;clear A1;by_cases hr:q[k].run=m.run
    .have b1:(q[k].run==m.run)=true:=by simpa using hr
     have b2:(q[k].key==m.key)=false:=by simpa using (fun h=>hm ⟨hr,h⟩)
     clear hm hr;generalize q[k]=x at *;go_wp2_with fail
     go_roundw;case rel=>exact⟨k+1,by omega,by go_num,A9,A8.out _⟩
     case measure=>simp[intOf];omega
    .have b1:(q[k].run==m.run)=false:=by simpa using hr
     clear hm hr;generalize q[k]=x at *;go_wp2_with fail
     go_roundw;case rel=>exact⟨k+1,by omega,by go_num,A9,A8.out _⟩
     case measure=>simp[intOf];omega
  .have A2:Hid (∀ x∈q,¬ iJ m x):=by
    have h:=HT.out;rw[Qe (by omega)]at h;exact h
   by_cases hfull:4<=q.length
   .have A3:Hid (fR q m=none):=CS A2 hfull;go_wp2_with fail
    go_ret;rw[A3];refine⟨rfl,⟨_,by rw[nG HC.cel];exact HC,fun b hb=>.inl hb⟩,(Fr.of_below HR.2).mono fun j hj hs=>by omega⟩
   .have A3:Hid (fR q m=some (q++[m])):=EM A2 hfull;have A6:Hid ((Value.slice a q.length A0).ownBlock≠some H):=fun hh=>by
     obtain⟨c2,A7⟩:=ax HC.own hh;exact aA HC.blk A7 HC.ty rfl
    have B8:Hid ((Value.slice a q.length A0).ownBlock≠some w.heap.size):=fun hh=>by
     obtain⟨c2,A7⟩:=ax HH.own hh;have:=ak A7;omega
    go_upto_region 10 with fail
    go_region_law (refine jk _ rfl (.tmp 47) (.tmp 49) 99 rfl 87 _ 4 32 underlying99 Tryz.infoMsg rfl (by decide) (by decide) (.slice a q.length A0) q.length (bA q) wr.heap.size [.int .i64 m.dev,.int .i64 m.run,.int .i64 m.num,.int .i64 m.key] (by rfl) (by exact HC.own.alloc _) (by exact v8 _ _) (by rfl) rfl (by simp[Value.oneCell']) (by omega) ?_;intro g1 cap1 w1 hown1 hgrow hat hlt1;have C3:w1.cell? ⟨H,o,none⟩=some (.slice a q.length A0):=(ag (cM (ae.alloc _ _).drew hgrow HC.blk A6)).trans HC.cel;have C0:w1.frozen? ⟨H,o,none⟩=false:=aC (cM (ae.alloc _ _).drew hgrow HC.blk A6))
    all_goals
     go_wp2_with fail
     go_ret;rw[A3];have B0:=cM (ae.alloc _ _).drew hgrow HC.blk A6;have f0:Fr (fun j=>j=H\/(Value.slice a q.length A0).ownBlock=some j) w wr:=(Fr.of_below HR.2).mono fun j hj hs=>by omega
     refine⟨rfl,⟨_,⟨cG _ B0,?_,HC.ty,?_,by show(q++[m]).length<=4;simp;omega⟩,fun b hb=>?_⟩,?_⟩
     .have B7:o<cs.size:=(Array.getElem?_eq_some_iff.mp HC.cel).1;simp[B7]
     .show World.ownsRow _ _ _ _ _ (q++[m]).length (bA (q++[m]));rw[mG,List.length_append];refine aT hown1 fun b hb=>?_;obtain⟨c,hc⟩:=ax hown1 hb;exact q8 _ _ _ _ (aA hc B0 HC.ty.symm)
     .simp[Value.ownBlock]at hb;subst hb;rcases hat with h|h
      .exact .inl h
      .right;simp at h;omega
     .exact(f0.trans (Fr.of_push (ae.alloc _ _).drew hgrow fun k hk=>.inr hk)).setCell ⟨H,o,none⟩ (.inl (.inl rfl)) _
theorem aO.more {w w1:World}{R H o:Nat}{cs:Array Value}{T:TypeId}{v:Value}{q:List aj}{p:Pr}(h:aO w w1 R H o cs T v q p):
  ∃ v',bC w1 R H o (cs.setIfInBounds o v') T v' q p/\∀ w2 p2,bC w2 R H o (cs.setIfInBounds o v') T v' q p2->Fr (fun k=>k=R) w1 w2->aO w w2 R H o cs T v q p2:=by
 obtain⟨⟨v',h1,h2⟩,h3⟩:=h;exact⟨v',h1,fun w2 p2 h4 h5=>⟨⟨v',h4,h2⟩,h3.trans (h5.mono fun k _ hk=>.inl hk)⟩⟩
theorem aO.from {w w1 w2:World}{R H o:Nat}{cs:Array Value}{T:TypeId}{v:Value}{q:List aj}{p:Pr}(hc:cs[o]?=some v)(hf:Fr (fun k=>k=R\/k=H\/v.ownBlock=some k) w w1)(h:aO w1 w2 R H o cs T v q p):aO w w2 R H o cs T v q p:=by
 refine aO.trans (v1:=v) (fun b hb=>.inl hb) hf ?_;rw[nG hc];exact h
theorem aO.other {w w1:World}{R H o:Nat}{cs:Array Value}{T:TypeId}{v:Value}{q:List aj}{p:Pr}(h:aO w w1 R H o cs T v q p){k:Nat}(hk:k<w.heap.size)(h1:k≠R)(h2:k≠H)(h3:v.ownBlock≠some k):w1.heap[k]?=w.heap[k]?:=
 h.fr.block k hk (by rintro(h|h|h) <;> contradiction)
theorem By {q q':List aj}{p:Pr}{key:Int}(h:fR q ⟨p.dev,p.id,p.sent+1,key⟩=some q'):aB q p key=(q',{p with sent:=p.sent+1},p.sent+1):=by unfold aB;rw[h]
theorem Cu {q:List aj}{p:Pr}{key:Int}(h:fR q ⟨p.dev,p.id,p.sent+1,key⟩=none):aB q p key=(q,p,0):=by unfold aB;rw[h]
theorem bC.put {w w1:World}{R H o:Nat}{cs:Array Value}{T:TypeId}{v:Value}{q q':List aj}{p:Pr}(h:bC w R H o cs T v q p)(hp:gZ w w1 H o cs T v q'):aO w w1 R H o cs T v q' p:=by
 obtain⟨⟨v',h1,h2⟩,h3⟩:=hp;refine⟨⟨v',⟨(h3.block R (ak h.run) ?_).trans h.run,h.rl,h1,h.ty⟩,h2⟩,h3.mono fun k _ hk=>.inr hk⟩;rintro(e|e)
 .exact aA h.que.blk h.run h.ty e.symm
 .obtain⟨c,hc⟩:=ax h.que.own e;exact aA hc h.run (by decide) rfl
theorem oX (R H o:Nat)(cs:Array Value)(T:TypeId)(v:Value)(q:List aj)(p:Pr)(key:Int)(w:World)(h:bC w R H o cs T v q p)(hs0:0<=p.sent)(hs1:p.sent<=1000000000000000000):
  Calls prog 155 #[.pointer (some ⟨R,0,none⟩),.int .i64 key,.pointer (some ⟨H,o,none⟩)] w fun e w'=>e=.returned (.int .i64 (aB q p key).2.2)/\aO w w' R H o cs T v (aB q p key).1 (aB q p key).2.1:=by
 have p0:w.cell? ⟨R,0,none⟩=some (.int .i64 p.id):=(ag h.run).trans rfl;have p1:w.cell? ⟨R,1,none⟩=some (.int .i64 p.dev):=(ag h.run).trans rfl;have p2:w.cell? ⟨R,2,none⟩=some (.int .i64 p.sent):=(ag h.run).trans rfl;have A2:R<w.heap.size:=ak h.run;have HH:=ah h;clear h;go_enter func155,ntmps155
 go_upto_region 2 with fail
 go_cut [7,8] (fun n r wx=>n=.int .i64 (p.sent+1)/\r=.pointer (some ⟨w.heap.size,0,none⟩)/\Hid (wx.heap[w.heap.size]?=some (.cells #[.int .i64 p.dev,.int .i64 p.id,.int .i64 (p.sent+1),.int .i64 key] 87)/\Below w.heap.size w wx))
 case first=>
  go_region;all_goals
   go_wp2_with fail
   go_meet;case rel=>exact⟨rfl,rfl,v8 _ _,((v7 _ _).alloc (v9 _) _).drew⟩
 case rest=>
  obtain⟨rfl,rfl,HX⟩:=hcut;clear p0 p1 p2 A2;have HC:Hid (bC wc R H o cs T v q p):=HH.below HX.2;obtain⟨m0,m1,m2,m3⟩:=fP HX.1;have A0:Hid (Calls prog 163 #[.pointer (some ⟨H,o,none⟩),.agg #[.int .i64 p.dev,.int .i64 p.id,.int .i64 (p.sent+1),.int .i64 key]] wc fun e w'=>e=.returned (.bool (fR q ⟨p.dev,p.id,p.sent+1,key⟩).isSome)/\gZ wc w' H o cs T v ((fR q ⟨p.dev,p.id,p.sent+1,key⟩).getD q)):=GM H o cs T v q ⟨p.dev,p.id,p.sent+1,key⟩ wc HC.que;cases hpq:fR q ⟨p.dev,p.id,p.sent+1,key⟩ with
  | some q'=>
   have A1:Hid (aB q p key=(q',{p with sent:=p.sent+1},p.sent+1)):=By hpq;rw[hpq]at A0;clear hpq;go_wp2_with fail
   refine A0.mono ?_;rintro e w1 ⟨rfl,ho⟩;have HO:Hid (aO w w1 R H o cs T v q' p):=(HC.put ho).from HC.que.cel ((Fr.of_below HX.2).mono fun j hj hs=>by omega);have g1:w1.heap[R]?=some (.cells (cV p).toArray 172):=by obtain⟨⟨_,h1,_⟩,_⟩:=HO.out;exact h1.run
   have k2:w1.cell? ⟨R,2,none⟩=some (.int .i64 p.sent):=(ag g1).trans rfl;have z2:w1.frozen? ⟨R,2,none⟩=false:=aC g1;clear ho A0 HC g1 m0 m1 m2 m3;go_wp2_with fail
   go_ret;rw[A1];exact⟨rfl,HO.setR (p':={p with sent:=p.sent+1}) 2 _ rfl HH.rl⟩
  | none=>
   have A1:Hid (aB q p key=(q,p,0)):=Cu hpq;rw[hpq]at A0;clear hpq;go_wp2_with fail
   refine A0.mono ?_;rintro e w1 ⟨rfl,ho⟩;have HO:Hid (aO w w1 R H o cs T v q p):=(HC.put ho).from HC.que.cel ((Fr.of_below HX.2).mono fun j hj hs=>by omega);clear ho A0 HC m0 m1 m2 m3;go_wp2_with fail
   go_ret;rw[A1];exact⟨rfl,HO⟩
theorem bC.reg {w:World}{R H o:Nat}{cs:Array Value}{T:TypeId}{v:Value}{q:List aj}{p:Pr}(h:bC w R H o cs T v q p){j:Nat}(hj:j<12):w.cell? ⟨R,5+j,none⟩=some (.int .i64 (cw p (j:Int))):=by
 rw[ag h.run,List.getElem?_toArray];exact Ab h.rl hj
theorem bC.els {w:World}{R H o:Nat}{cs:Array Value}{T:TypeId}{v:Value}{q:List aj}{p:Pr}(h:bC w R H o cs T v q p):w.cell? ⟨R,17,none⟩=some (.int .i64 p.els):=by
 rw[ag h.run,List.getElem?_toArray];exact Aa h.rl
theorem bC.tow {w:World}{R H o:Nat}{cs:Array Value}{T:TypeId}{v:Value}{q:List aj}{p:Pr}(h:bC w R H o cs T v q p):w.cell? ⟨R,18,none⟩=some (.int .i64 p.tow):=by
 rw[ag h.run,List.getElem?_toArray];exact uB h.rl
theorem bC.setReg {w:World}{R H o:Nat}{cs:Array Value}{T:TypeId}{v:Value}{q:List aj}{p:Pr}(h:bC w R H o cs T v q p){j:Nat}(hj:j<12)(z:Int):bC (w.setCell ⟨R,5+j,none⟩ (.int .i64 z)) R H o cs T v q (eP p (j:Int) z):=
 h.setR _ _ (yJ h.rl hj z) (by unfold eP;simp[h.rl])
theorem bC.setEls {w:World}{R H o:Nat}{cs:Array Value}{T:TypeId}{v:Value}{q:List aj}{p:Pr}(h:bC w R H o cs T v q p)(z:Int):bC (w.setCell ⟨R,17,none⟩ (.int .i64 z)) R H o cs T v q {p with els:=z}:=
 h.setR _ _ (tF h.rl z) h.rl
theorem bC.setTo {w:World}{R H o:Nat}{cs:Array Value}{T:TypeId}{v:Value}{q:List aj}{p:Pr}(h:bC w R H o cs T v q p)(z:Int):bC (w.setCell ⟨R,18,none⟩ (.int .i64 z)) R H o cs T v q {p with tow:=z}:=
 h.setR _ _ (yG h.rl z) h.rl
theorem CD (p:Pr)(r a b:Int):eP (eP p r a) r b=eP p r b:=by unfold eP;simp
theorem FL (R H o:Nat)(cs:Array Value)(T:TypeId)(v:Value)(q:List aj)(p:Pr)(j:Nat)(w:World)(h:bC w R H o cs T v q p)(hj:j<12)(hr0:0<=cw p (j:Int))(hr1:cw p (j:Int)<=1000000):
  Calls prog 158 #[.pointer (some ⟨R,0,none⟩),.int .i64 (j:Int)] w fun e w'=>e=.returned (.tuple #[])/\bC w' R H o cs T v q (li p (j:Int))/\Fr (fun k=>k=R) w w':=by
 have r0:=h.reg hj;have z0:w.frozen? ⟨R,5+j,none⟩=false:=aC h.run;have A0:R<w.heap.size:=ak h.run;have A1:(j:Int)<12:=by omega
 have HH:=ah h;clear h;by_cases hb:1000000<cw p (j:Int)*2
 .have HE:Hid (li p (j:Int)=eP (eP p (j:Int) (cw p (j:Int)*2)) (j:Int) 1000000):=by show _=_;unfold li;rw[if_pos hb,CD]
  go_enter func158,ntmps158
  go_wp2_with fail
  go_region;all_goals
   go_wp2_with fail
   go_end0;rw[HE];exact⟨rfl,((HH.setReg hj _).setReg hj _).below (v7 _ _).drew,(((Fr.refl (fun k=>k=R) _).setCell ⟨R,5+j,none⟩ (Or.inl rfl) _).setCell ⟨R,5+j,none⟩ (Or.inl rfl) _).drew⟩
 .have HE:Hid (li p (j:Int)=eP p (j:Int) (cw p (j:Int)*2)):=by show _=_;unfold li;rw[if_neg hb]
  go_enter func158,ntmps158
  go_wp2_with fail
  go_region;all_goals
   go_wp2_with fail
   go_end0;rw[HE];exact⟨rfl,(HH.setReg hj _).below (v7 _ _).drew,((Fr.refl (fun k=>k=R) _).setCell ⟨R,5+j,none⟩ (Or.inl rfl) _).drew⟩
end Go.Proofs.YtmmmnghiegajmaaGreat
namespace Go.Proofs.Herald
def ep (n:Int)(k:Nat)(s0:Int)(q:List aj)(m:Pr):Prop:=∃ pc p,gw pc p m/\bI p/\pc<=n/\s0<=p.sent/\p.sent<=s0+k/\q.length<=4
theorem ep.els {n:Int}{k:Nat}{s0:Int}{q:List aj}{m:Pr}(h:ep n k s0 q m):0<=m.els/\m.els<=n:=by
 obtain⟨pc,p,h1,_,h3,_⟩:=h;rw[h1.els];exact⟨h1.pc0,h3⟩
theorem ep.sent {n:Int}{k:Nat}{s0:Int}{q:List aj}{m:Pr}(h:ep n k s0 q m):s0<=m.sent/\m.sent<=s0+k/\0<=m.sent:=by
 obtain⟨pc,p,h1,_,_,h4,h5,_⟩:=h;rw[<- h1.sent];exact⟨h4,h5,h1.sent0⟩
theorem ep.regs {n:Int}{k:Nat}{s0:Int}{q:List aj}{m:Pr}(h:ep n k s0 q m):bI m:=by
 obtain⟨pc,p,h1,h2,_⟩:=h;unfold bI at h2 ⊢;rw[<- h1.regs];exact h2
theorem ep.step {n now:Int}{k:Nat}{s0:Int}{q:List aj}{m:Pr}{x:am}(h:ep n k s0 q m)(hx:ct n x=true)(hlt:m.els<n)(hg:(eB now x q m).2.2=0):ep n (k+1) s0 (eB now x q m).1 (eB now x q m).2.1:=by
 obtain⟨pc,p,h1,h2,h3,h4,h5,h6⟩:=h;rw[h1.els]at hlt;have k1:=wy (now:=now) (q:=q) hx h1;have k2:=xy (now:=now) hx h1.pc0 hlt h2 h6;obtain⟨g1,g2⟩:=k1.go hg;have A0:=k2.sent0;have A1:=k2.sent1;refine⟨_,_,g2,k2.regs,?_,by omega,by omega,by rw[<- k1.q];exact k2.len⟩;rcases k2.pc with h|h
 .omega
 .exact h.2
end Go.Proofs.Herald
namespace Go.Proofs.YtmmmnghiegajmaaGreat
theorem AA (R H o:Nat)(cs:Array Value)(T:TypeId)(v:Value)(q:List aj)(p:Pr)(op b c:Int)(j:Nat)(w:World)(h:bC w R H o cs T v q p)(hj:j<12)(hr1:cw p (j:Int)<=1000000)(hlt:1<cw p (j:Int)):
  Calls prog 160 #[.pointer (some ⟨R,0,none⟩),.agg #[.int .i64 op,.int .i64 (j:Int),.int .i64 b,.int .i64 c]] w fun e w'=>e=.returned (.tuple #[])/\bC w' R H o cs T v q {eP p (j:Int) (cw p (j:Int) - 1) with els:=c}/\Fr (fun k=>k=R) w w':=by
 have r0:=h.reg hj;have z0:w.frozen? ⟨R,5+j,none⟩=false:=aC h.run;have r1:=h.els;have z1:w.frozen? ⟨R,17,none⟩=false:=aC h.run;have A0:R<w.heap.size:=ak h.run;have HH:=ah h;clear h;generalize cw p (j:Int)=r at *;go_enter func160,ntmps160
 go_wp2_with fail
 go_region;all_goals
  go_wp2_with fail
  go_region;all_goals
   go_wp2_with fail
   go_region;all_goals
    go_wp2_with fail
    go_end0;exact⟨rfl,(((HH.setReg hj (r - 1)).setEls c).below (((v7 _ _).alloc (v9 _) _).drew.drew.drew)),((((Fr.refl (fun k=>k=R) _).setCell ⟨R,5+j,none⟩ (Or.inl rfl) _).setCell ⟨R,17,none⟩ (Or.inl rfl) _).alloc _).drew.drew.drew⟩
theorem Az (R H o:Nat)(cs:Array Value)(T:TypeId)(v:Value)(q:List aj)(p:Pr)(op b c:Int)(j:Nat)(w:World)(h:bC w R H o cs T v q p)(hj:j<12)(hlt:cw p (j:Int)=1):
  Calls prog 160 #[.pointer (some ⟨R,0,none⟩),.agg #[.int .i64 op,.int .i64 (j:Int),.int .i64 b,.int .i64 c]] w fun e w'=>e=.returned (.tuple #[])/\bC w' R H o cs T v q (eP p (j:Int) 0)/\Fr (fun k=>k=R) w w':=by
 have r0:=h.reg hj;have z0:w.frozen? ⟨R,5+j,none⟩=false:=aC h.run;have A0:R<w.heap.size:=ak h.run;have HH:=ah h;clear h;generalize cw p (j:Int)=r at *;go_enter func160,ntmps160
 go_wp2_with fail
 go_region;all_goals
  go_wp2_with fail
  go_region;all_goals
   go_wp2_with fail
   go_region;all_goals
    go_wp2_with fail
    go_end0;exact⟨rfl,((HH.setReg hj 0).below (((v7 _ _).alloc (v9 _) _).drew.drew.drew)),(((Fr.refl (fun k=>k=R) _).setCell ⟨R,5+j,none⟩ (Or.inl rfl) _).alloc _).drew.drew.drew⟩
theorem AB (R H o:Nat)(cs:Array Value)(T:TypeId)(v:Value)(q:List aj)(p:Pr)(op b c:Int)(j:Nat)(w:World)(h:bC w R H o cs T v q p)(hj:j<12)(hr0:0<=cw p (j:Int))(hlt:cw p (j:Int)<=0):
  Calls prog 160 #[.pointer (some ⟨R,0,none⟩),.agg #[.int .i64 op,.int .i64 (j:Int),.int .i64 b,.int .i64 c]] w fun e w'=>e=.returned (.tuple #[])/\bC w' R H o cs T v q p/\Fr (fun k=>k=R) w w':=by
 have r0:=h.reg hj;have z0:w.frozen? ⟨R,5+j,none⟩=false:=aC h.run;have A0:R<w.heap.size:=ak h.run;have HH:=ah h;clear h;generalize cw p (j:Int)=r at *;go_enter func160,ntmps160
 go_wp2_with fail
 go_region;all_goals
  go_wp2_with fail
  go_region;all_goals
   go_wp2_with fail
   go_end0;exact⟨rfl,HH.below (((v7 _ _).alloc (v9 _) _).drew.drew),((Fr.refl (fun k=>k=R) _).alloc _).drew.drew⟩
theorem GV (R H o:Nat)(cs:Array Value)(T:TypeId)(v:Value)(q:List aj)(p:Pr)(op b c:Int)(j:Nat)(w:World)(h:bC w R H o cs T v q p)(hj:j<12)(hr0:0<=cw p (j:Int))(hr1:cw p (j:Int)<=1000000):
  Calls prog 160 #[.pointer (some ⟨R,0,none⟩),.agg #[.int .i64 op,.int .i64 (j:Int),.int .i64 b,.int .i64 c]] w fun e w'=>e=.returned (.tuple #[])/\bC w' R H o cs T v q (iz p (j:Int) c)/\Fr (fun k=>k=R) w w':=by
 have A0:((j:Int).toNat)<p.regs.length:=by rw[h.rl];omega
 by_cases hb:0<cw p (j:Int)
 .by_cases hb2:0<cw p (j:Int) - 1
  .have e:iz p (j:Int) c={eP p (j:Int) (cw p (j:Int) - 1) with els:=c}:=by unfold iz lP;rw[if_pos hb,sw A0,if_pos hb2]
   rw[e];exact AA R H o cs T v q p op b c j w h hj hr1 (by omega)
  .have e1:cw p (j:Int)=1:=by omega
   have e:iz p (j:Int) c=eP p (j:Int) 0:=by unfold iz lP;rw[if_pos hb,sw A0,if_neg hb2,e1];rfl
   rw[e];exact Az R H o cs T v q p op b c j w h hj e1
 .have e:iz p (j:Int) c=p:=by unfold iz lP;rw[if_neg hb,if_neg hb]
  rw[e];exact AB R H o cs T v q p op b c j w h hj hr0 (by omega)
theorem DZ (R H o:Nat)(cs:Array Value)(T:TypeId)(v:Value)(q:List aj)(p:Pr)(op a b c now:Int)(w:World)(h:bC w R H o cs T v q p)(hs0:0<=p.sent)(hs1:p.sent<=1000000000000000000)(_ht0:0<=now)(_ht1:now<=1000000000)(_hb0:1<=b)(_hb1:b<=999)(hz:(aB q (eC p c) a).2.2=0):
  Calls prog 157 #[.pointer (some ⟨R,0,none⟩),.agg #[.int .i64 op,.int .i64 a,.int .i64 b,.int .i64 c],.pointer (some ⟨H,o,none⟩),.int .i64 now] w fun e w'=>
   e=.returned (.int .i64 0)/\aO w w' R H o cs T v (aB q (eC p c) a).1 (aB q (eC p c) a).2.1:=by
 have r0:=h.els;have r1:=h.tow;have z0:w.frozen? ⟨R,17,none⟩=false:=aC h.run;have z1:w.frozen? ⟨R,18,none⟩=false:=aC h.run;have A1:R<w.heap.size:=ak h.run;have HH:=ah h;have HW:Hid (∀ ob,bC (((w.setCell ⟨R,18,none⟩ (.int .i64 p.els)).setCell ⟨R,17,none⟩ (.int .i64 c)).alloc ob) R H o cs T v q (eC p c)/\Fr (fun k=>k=R\/k=H\/v.ownBlock=some k) w (((w.setCell ⟨R,18,none⟩ (.int .i64 p.els)).setCell ⟨R,17,none⟩ (.int .i64 c)).alloc ob)):=fun ob=>
  ⟨((h.setTo p.els).setEls c).below ((v7 _ _).alloc (v9 _) _),(((Fr.refl _ _).setCell ⟨R,18,none⟩ (.inl (.inl rfl)) _).setCell ⟨R,17,none⟩ (.inl (.inl rfl)) _).alloc _⟩
 have A0:Hid (R≠w.heap.size/\H≠w.heap.size/\v.ownBlock≠some w.heap.size):=⟨by omega,by have:=ak h.que.blk;omega,fun e=>by obtain⟨c,hc⟩:=ax h.que.own e;have:=ak hc;omega⟩;clear h;have es:(eC p c).sent=p.sent:=rfl;generalize hS:aB q (eC p c) a=S at *;have HS:=ah hS;clear hS;go_enter func157,ntmps157
 go_wp2_with fail
 refine(oX R H o cs T v q (eC p c) a _ (HW _).1 (by rw[es];exact hs0) (by rw[es];exact hs1)).mono ?_;rintro e w1 ⟨he,ho⟩;rw[HS.out]at he ho;subst he;have g1:w1.heap[w.heap.size]?=some (.cells #[.int .i64 op,.int .i64 a,.int .i64 b,.int .i64 c] 91):=by
  rw[ho.other (by simp[World.setCell]) A0.1.symm A0.2.1.symm A0.2.2];exact jj _ _ _ (by simp[World.setCell])
 obtain⟨m0,m1,m2,m3⟩:=fP g1;have HO:Hid (aO w w1 R H o cs T v S.1 S.2.1):=ho.from HH.que.cel (HW _).2;clear ho g1 r0 r1 z0 z1 A1 HW HH es;have A2:(S.2.2==0)=true:=by simpa using hz
 clear hz;go_wp2_with fail
 go_ret;exact⟨rfl,HO⟩
theorem CJ (R H o:Nat)(cs:Array Value)(T:TypeId)(v:Value)(q:List aj)(p:Pr)(op a b c now:Int)(w:World)(h:bC w R H o cs T v q p)(hs0:0<=p.sent)(hs1:p.sent<=1000000000000000000)(ht0:0<=now)(ht1:now<=1000000000)(hb0:1<=b)(hb1:b<=999)(hz:¬ (aB q (eC p c) a).2.2=0):
  Calls prog 157 #[.pointer (some ⟨R,0,none⟩),.agg #[.int .i64 op,.int .i64 a,.int .i64 b,.int .i64 c],.pointer (some ⟨H,o,none⟩),.int .i64 now] w fun e w'=>
   e=.returned (.int .i64 1)/\aO w w' R H o cs T v (aB q (eC p c) a).1 (dY (aB q (eC p c) a).2.1 now b (aB q (eC p c) a).2.2):=by
 have r0:=h.els;have r1:=h.tow;have z0:w.frozen? ⟨R,17,none⟩=false:=aC h.run;have z1:w.frozen? ⟨R,18,none⟩=false:=aC h.run;have A1:R<w.heap.size:=ak h.run;have HH:=ah h;have HW:Hid (∀ ob,bC (((w.setCell ⟨R,18,none⟩ (.int .i64 p.els)).setCell ⟨R,17,none⟩ (.int .i64 c)).alloc ob) R H o cs T v q (eC p c)/\Fr (fun k=>k=R\/k=H\/v.ownBlock=some k) w (((w.setCell ⟨R,18,none⟩ (.int .i64 p.els)).setCell ⟨R,17,none⟩ (.int .i64 c)).alloc ob)):=fun ob=>
  ⟨((h.setTo p.els).setEls c).below ((v7 _ _).alloc (v9 _) _),(((Fr.refl _ _).setCell ⟨R,18,none⟩ (.inl (.inl rfl)) _).setCell ⟨R,17,none⟩ (.inl (.inl rfl)) _).alloc _⟩
 have A0:Hid (R≠w.heap.size/\H≠w.heap.size/\v.ownBlock≠some w.heap.size):=⟨by omega,by have:=ak h.que.blk;omega,fun e=>by obtain⟨c,hc⟩:=ax h.que.own e;have:=ak hc;omega⟩;clear h;have es:(eC p c).sent=p.sent:=rfl;generalize hS:aB q (eC p c) a=S at *;have HS:=ah hS;clear hS;go_enter func157,ntmps157
 go_wp2_with fail
 refine(oX R H o cs T v q (eC p c) a _ (HW _).1 (by rw[es];exact hs0) (by rw[es];exact hs1)).mono ?_;rintro e w1 ⟨he,ho⟩;rw[HS.out]at he ho;subst he;have g1:w1.heap[w.heap.size]?=some (.cells #[.int .i64 op,.int .i64 a,.int .i64 b,.int .i64 c] 91):=by
  rw[ho.other (by simp[World.setCell]) A0.1.symm A0.2.1.symm A0.2.2];exact jj _ _ _ (by simp[World.setCell])
 obtain⟨m0,m1,m2,m3⟩:=fP g1;have HO:Hid (aO w w1 R H o cs T v S.1 S.2.1):=ho.from HH.que.cel (HW _).2;clear ho g1 r0 r1 z0 z1 A1 HW HH es;have A2:(S.2.2==0)=false:=by simpa using hz
 clear hz;obtain⟨v',hA,hB⟩:=HO.more;have HA:Hid (bC w1 R H o (cs.setIfInBounds o v') T v' S.1 S.2.1/\∀ w2 p2,bC w2 R H o (cs.setIfInBounds o v') T v' S.1 p2->Fr (fun k=>k=R) w1 w2->aO w w2 R H o cs T v S.1 p2):=⟨hA,hB⟩;clear hA hB;go_wp2_with fail
 refine(qJ R H o _ T v' S.1 S.2.1 (now+b) S.2.2 _ HA.1).mono ?_;rintro e w2 ⟨rfl,h2,hf⟩;have H2:Hid (aO w w2 R H o cs T v S.1 (dY S.2.1 now b S.2.2)):=HA.2 w2 _ h2 hf;clear h2 hf HA;go_wp2_with fail
 go_ret;exact⟨rfl,H2⟩
theorem GU (R H o:Nat)(cs:Array Value)(T:TypeId)(v:Value)(q:List aj)(p:Pr)(op a c now:Int)(j:Nat)(w:World)(h:bC w R H o cs T v q p)(hs0:0<=p.sent)(hs1:p.sent<=1000000000000000000)(ht0:0<=now)(ht1:now<=1000000000)(hj:j<12)(hr0:0<=cw p (j:Int))(hr1:cw p (j:Int)<=1000000):
  Calls prog 159 #[.pointer (some ⟨R,0,none⟩),.agg #[.int .i64 op,.int .i64 a,.int .i64 (j:Int),.int .i64 c],.pointer (some ⟨H,o,none⟩),.int .i64 now] w fun e w'=>
   e=.returned (.int .i64 1)/\aO w w' R H o cs T v (aB q (ij p c) a).1 (dY (aB q (ij p c) a).2.1 now (if cw p (j:Int)<1 then 1 else cw p (j:Int)) (aB q (ij p c) a).2.2):=by
 have r0:=h.reg hj;have r1:=h.tow;have z1:w.frozen? ⟨R,18,none⟩=false:=aC h.run;have A2:R<w.heap.size:=ak h.run;have A0:18≠5+j:=by omega
 have HH:=ah h;have HW:Hid (∀ ob,bC (((w.setCell ⟨R,18,none⟩ (.int .i64 c)).alloc ob).drew) R H o cs T v q (ij p c)/\Fr (fun k=>k=R\/k=H\/v.ownBlock=some k) w (((w.setCell ⟨R,18,none⟩ (.int .i64 c)).alloc ob).drew)):=fun ob=>
  ⟨(h.setTo c).below ((v7 _ _).alloc (v9 _) _).drew,(((Fr.refl _ _).setCell ⟨R,18,none⟩ (.inl (.inl rfl)) _).alloc _).drew⟩
 have A1:Hid (R≠w.heap.size/\H≠w.heap.size/\v.ownBlock≠some w.heap.size):=⟨by omega,by have:=ak h.que.blk;omega,fun e=>by obtain⟨c,hc⟩:=ax h.que.own e;have:=ak hc;omega⟩;clear h;obtain⟨t,ht⟩:∃ t,t=(if cw p (j:Int)<1 then 1 else cw p (j:Int)):=⟨_,rfl⟩;have es:(ij p c).sent=p.sent:=rfl;generalize hS:aB q (ij p c) a=S at *;have HS:=ah hS;clear hS;have HT:=ah ht;rw[<- ht];clear ht;generalize cw p (j:Int)=r at *;go_enter func159,ntmps159
 by_cases hb:r<1
 .have HE:Hid (t=1):=by show _=_;rw[HT,if_pos hb]
  go_wp2_with fail
  go_region;all_goals
   go_wp2_with fail
   refine(oX R H o cs T v q (ij p c) a _ (HW _).1 (by rw[es];exact hs0) (by rw[es];exact hs1)).mono ?_;rintro e w1 ⟨he,ho⟩;rw[HS.out]at he ho;subst he;have HO:Hid (aO w w1 R H o cs T v S.1 S.2.1):=ho.from HH.que.cel (HW _).2;clear ho;obtain⟨v',hA,hB⟩:=HO.more;have HA:Hid (bC w1 R H o (cs.setIfInBounds o v') T v' S.1 S.2.1/\∀ w2 p2,bC w2 R H o (cs.setIfInBounds o v') T v' S.1 p2->Fr (fun k=>k=R) w1 w2->aO w w2 R H o cs T v S.1 p2):=⟨hA,hB⟩;clear hA hB;go_wp2_with fail
   refine(qJ R H o _ T v' S.1 S.2.1 (now+1) S.2.2 _ HA.1).mono ?_;rintro e w2 ⟨rfl,h2,hf⟩;have H2:Hid (aO w w2 R H o cs T v S.1 (dY S.2.1 now t S.2.2)):=by rw[HE];exact HA.2 w2 _ h2 hf
   clear h2 hf HA;go_wp2_with fail
   go_ret;exact⟨rfl,H2⟩
 .have HE:Hid (t=r):=by show _=_;rw[HT,if_neg hb]
  go_wp2_with fail
  go_region;all_goals
   go_wp2_with fail
   refine(oX R H o cs T v q (ij p c) a _ (HW _).1 (by rw[es];exact hs0) (by rw[es];exact hs1)).mono ?_;rintro e w1 ⟨he,ho⟩;rw[HS.out]at he ho;subst he;have HO:Hid (aO w w1 R H o cs T v S.1 S.2.1):=ho.from HH.que.cel (HW _).2;clear ho;obtain⟨v',hA,hB⟩:=HO.more;have HA:Hid (bC w1 R H o (cs.setIfInBounds o v') T v' S.1 S.2.1/\∀ w2 p2,bC w2 R H o (cs.setIfInBounds o v') T v' S.1 p2->Fr (fun k=>k=R) w1 w2->aO w w2 R H o cs T v S.1 p2):=⟨hA,hB⟩;clear hA hB;go_wp2_with fail
   refine(qJ R H o _ T v' S.1 S.2.1 (now+r) S.2.2 _ HA.1).mono ?_;rintro e w2 ⟨rfl,h2,hf⟩;have H2:Hid (aO w w2 R H o cs T v S.1 (dY S.2.1 now t S.2.2)):=by rw[HE];exact HA.2 w2 _ h2 hf
   clear h2 hf HA;go_wp2_with fail
   go_ret;exact⟨rfl,H2⟩
structure fH (n now:Int)(p:Pr):Prop where
 s0:0<=p.sent
 s1:p.sent<=1000000000000000000
 e0:0<=p.els
 e1:p.els<=1000
 regs:bI p
 t0:0<=now
 t1:now<=1000000000
theorem bC.inc {w:World}{R H o:Nat}{cs:Array Value}{T:TypeId}{v:Value}{q:List aj}{p:Pr}(h:bC w R H o cs T v q p)(ob:Obj):
  bC ((w.setCell ⟨R,17,none⟩ (.int .i64 (p.els+1))).alloc ob) R H o cs T v q (bJ p)/\Fr (fun k=>k=R\/k=H\/v.ownBlock=some k) w ((w.setCell ⟨R,17,none⟩ (.int .i64 (p.els+1))).alloc ob):=
 ⟨(h.setEls (p.els+1)).below ((v7 _ _).alloc (v9 _) _),((Fr.refl _ _).setCell ⟨R,17,none⟩ (.inl (.inl rfl)) _).alloc _⟩
theorem bC.out {w w1:World}{R H o:Nat}{cs:Array Value}{T:TypeId}{v:Value}{q:List aj}{p:Pr}(hc:cs[o]?=some v)(h:bC w1 R H o cs T v q p)(hf:Fr (fun k=>k=R\/k=H\/v.ownBlock=some k) w w1):aO w w1 R H o cs T v q p:=
 ⟨⟨v,by rw[nG hc];exact h,fun b hb=>.inl hb⟩,hf⟩
theorem Gz (R H o:Nat)(cs:Array Value)(T:TypeId)(v:Value)(q:List aj)(p:Pr)(n a b c now:Int)(w:World)(h:bC w R H o cs T v q p)(hb:fH n now p):
  Calls prog 144 #[.pointer (some ⟨R,0,none⟩),.agg #[.int .i64 0,.int .i64 a,.int .i64 b,.int .i64 c],.pointer (some ⟨H,o,none⟩),.int .i64 now] w fun e w'=>e=.returned (.int .i64 2)/\aO w w' R H o cs T v q (bJ p):=by
 have r0:=h.els;have z0:w.frozen? ⟨R,17,none⟩=false:=aC h.run;have A0:R<w.heap.size:=ak h.run;have A1:=hb.e0;have A2:=hb.e1;have HH:=ah h;have HB:=ah hb;have HW:Hid (∀ ob,bC ((w.setCell ⟨R,17,none⟩ (.int .i64 (p.els+1))).alloc ob) R H o cs T v q (bJ p)/\Fr (fun k=>k=R\/k=H\/v.ownBlock=some k) w ((w.setCell ⟨R,17,none⟩ (.int .i64 (p.els+1))).alloc ob)):=fun ob=>h.inc ob;clear h hb;go_enter func144,ntmps144
 go_wp2_with fail
 go_ret;exact⟨rfl,(HW _).1.out HH.que.cel (HW _).2⟩
theorem GB (R H o:Nat)(cs:Array Value)(T:TypeId)(v:Value)(q:List aj)(p:Pr)(n a b c now:Int)(w:World)(h:bC w R H o cs T v q p)(hb:fH n now p):
  Calls prog 144 #[.pointer (some ⟨R,0,none⟩),.agg #[.int .i64 1,.int .i64 a,.int .i64 b,.int .i64 c],.pointer (some ⟨H,o,none⟩),.int .i64 now] w fun e w'=>e=.returned (.int .i64 0)/\aO w w' R H o cs T v (aB q (bJ p) a).1 (aB q (bJ p) a).2.1:=by
 have r0:=h.els;have z0:w.frozen? ⟨R,17,none⟩=false:=aC h.run;have A0:R<w.heap.size:=ak h.run;have A1:=hb.e0;have A2:=hb.e1;have HH:=ah h;have HB:=ah hb;have HW:Hid (∀ ob,bC ((w.setCell ⟨R,17,none⟩ (.int .i64 (p.els+1))).alloc ob) R H o cs T v q (bJ p)/\Fr (fun k=>k=R\/k=H\/v.ownBlock=some k) w ((w.setCell ⟨R,17,none⟩ (.int .i64 (p.els+1))).alloc ob)):=fun ob=>h.inc ob;clear h hb;go_enter func144,ntmps144
 go_wp2_with fail
 refine(oX R H o cs T v q (bJ p) a _ (HW _).1 HB.s0 HB.s1).mono ?_;rintro e w1 ⟨rfl,ho⟩;have HO:Hid (aO w w1 R H o cs T v (aB q (bJ p) a).1 (aB q (bJ p) a).2.1):=ho.from HH.que.cel (HW _).2;clear ho r0 z0 A0;go_wp2_with fail
 go_ret;exact⟨rfl,HO⟩
theorem GC (R H o:Nat)(cs:Array Value)(T:TypeId)(v:Value)(q:List aj)(p:Pr)(n a b c now:Int)(w:World)(h:bC w R H o cs T v q p)(hb:fH n now p)(ha0:1<=a)(ha1:a<=999):
  Calls prog 144 #[.pointer (some ⟨R,0,none⟩),.agg #[.int .i64 2,.int .i64 a,.int .i64 b,.int .i64 c],.pointer (some ⟨H,o,none⟩),.int .i64 now] w fun e w'=>e=.returned (.int .i64 1)/\aO w w' R H o cs T v q (dY (bJ p) now a 0):=by
 have r0:=h.els;have z0:w.frozen? ⟨R,17,none⟩=false:=aC h.run;have A0:R<w.heap.size:=ak h.run;have A1:=hb.e0;have A2:=hb.e1;have ht0:=hb.t0;have ht1:=hb.t1;have HH:=ah h;have HB:=ah hb;have HW:Hid (∀ ob,bC ((w.setCell ⟨R,17,none⟩ (.int .i64 (p.els+1))).alloc ob) R H o cs T v q (bJ p)/\Fr (fun k=>k=R\/k=H\/v.ownBlock=some k) w ((w.setCell ⟨R,17,none⟩ (.int .i64 (p.els+1))).alloc ob)):=fun ob=>h.inc ob;clear h hb;go_enter func144,ntmps144
 go_wp2_with fail
 refine(qJ R H o cs T v q (bJ p) (now+a) 0 _ (HW _).1).mono ?_;rintro e w1 ⟨rfl,h1,hf⟩;have HO:Hid (aO w w1 R H o cs T v q (dY (bJ p) now a 0)):=bC.out HH.que.cel h1 ((HW _).2.trans (hf.mono fun k _ hk=>.inl hk));clear h1 hf r0 z0 A0;go_wp2_with fail
 go_ret;exact⟨rfl,HO⟩
theorem Ds (R H o:Nat)(cs:Array Value)(T:TypeId)(v:Value)(q:List aj)(p:Pr)(n a b c now:Int)(w:World)(h:bC w R H o cs T v q p)(hb:fH n now p)(hb0:1<=b)(hb1:b<=999)(hz:(aB q (eC (bJ p) c) a).2.2=0):
  Calls prog 144 #[.pointer (some ⟨R,0,none⟩),.agg #[.int .i64 3,.int .i64 a,.int .i64 b,.int .i64 c],.pointer (some ⟨H,o,none⟩),.int .i64 now] w fun e w'=>e=.returned (.int .i64 0)/\aO w w' R H o cs T v (aB q (eC (bJ p) c) a).1 (aB q (eC (bJ p) c) a).2.1:=by
 have r0:=h.els;have z0:w.frozen? ⟨R,17,none⟩=false:=aC h.run;have A0:R<w.heap.size:=ak h.run;have A1:=hb.e0;have A2:=hb.e1;have HH:=ah h;have HB:=ah hb;have HW:Hid (∀ ob,bC ((w.setCell ⟨R,17,none⟩ (.int .i64 (p.els+1))).alloc ob) R H o cs T v q (bJ p)/\Fr (fun k=>k=R\/k=H\/v.ownBlock=some k) w ((w.setCell ⟨R,17,none⟩ (.int .i64 (p.els+1))).alloc ob)):=fun ob=>h.inc ob;clear h hb;go_enter func144,ntmps144
 go_wp2_with fail
 refine(DZ R H o cs T v q (bJ p) 3 a b c now _ (HW _).1 HB.s0 HB.s1 HB.t0 HB.t1 hb0 hb1 hz).mono ?_;rintro e w1 ⟨rfl,ho⟩;have HO:Hid (aO w w1 R H o cs T v (aB q (eC (bJ p) c) a).1 (aB q (eC (bJ p) c) a).2.1):=ho.from HH.que.cel (HW _).2;clear ho r0 z0 A0;go_wp2_with fail
 go_ret;exact⟨rfl,HO⟩
theorem CK (R H o:Nat)(cs:Array Value)(T:TypeId)(v:Value)(q:List aj)(p:Pr)(n a b c now:Int)(w:World)(h:bC w R H o cs T v q p)(hb:fH n now p)(hb0:1<=b)(hb1:b<=999)(hz:¬ (aB q (eC (bJ p) c) a).2.2=0):
  Calls prog 144 #[.pointer (some ⟨R,0,none⟩),.agg #[.int .i64 3,.int .i64 a,.int .i64 b,.int .i64 c],.pointer (some ⟨H,o,none⟩),.int .i64 now] w fun e w'=>e=.returned (.int .i64 1)/\aO w w' R H o cs T v (aB q (eC (bJ p) c) a).1 (dY (aB q (eC (bJ p) c) a).2.1 now b (aB q (eC (bJ p) c) a).2.2):=by
 have r0:=h.els;have z0:w.frozen? ⟨R,17,none⟩=false:=aC h.run;have A0:R<w.heap.size:=ak h.run;have A1:=hb.e0;have A2:=hb.e1;have HH:=ah h;have HB:=ah hb;have HW:Hid (∀ ob,bC ((w.setCell ⟨R,17,none⟩ (.int .i64 (p.els+1))).alloc ob) R H o cs T v q (bJ p)/\Fr (fun k=>k=R\/k=H\/v.ownBlock=some k) w ((w.setCell ⟨R,17,none⟩ (.int .i64 (p.els+1))).alloc ob)):=fun ob=>h.inc ob;clear h hb;go_enter func144,ntmps144
 go_wp2_with fail
 refine(CJ R H o cs T v q (bJ p) 3 a b c now _ (HW _).1 HB.s0 HB.s1 HB.t0 HB.t1 hb0 hb1 hz).mono ?_;rintro e w1 ⟨rfl,ho⟩;have HO:Hid (aO w w1 R H o cs T v (aB q (eC (bJ p) c) a).1 (dY (aB q (eC (bJ p) c) a).2.1 now b (aB q (eC (bJ p) c) a).2.2)):=ho.from HH.que.cel (HW _).2;clear ho r0 z0 A0;go_wp2_with fail
 go_ret;exact⟨rfl,HO⟩
theorem GE (R H o:Nat)(cs:Array Value)(T:TypeId)(v:Value)(q:List aj)(p:Pr)(n b c now:Int)(j:Nat)(w:World)(h:bC w R H o cs T v q p)(hb:fH n now p)(hj:j<12):
  Calls prog 144 #[.pointer (some ⟨R,0,none⟩),.agg #[.int .i64 4,.int .i64 (j:Int),.int .i64 b,.int .i64 c],.pointer (some ⟨H,o,none⟩),.int .i64 now] w fun e w'=>e=.returned (.int .i64 0)/\aO w w' R H o cs T v q (eP (bJ p) (j:Int) b):=by
 have r0:=h.els;have z0:w.frozen? ⟨R,17,none⟩=false:=aC h.run;have A1:R<w.heap.size:=ak h.run;have A2:=hb.e0;have A3:=hb.e1;have r1:=h.reg hj;have z1:w.frozen? ⟨R,5+j,none⟩=false:=aC h.run;have A0:17≠5+j:=by omega
 have A4:(j:Int)<12:=by omega
 have HS:Hid (∀ ob,bC (((w.setCell ⟨R,17,none⟩ (.int .i64 (p.els+1))).setCell ⟨R,5+j,none⟩ (.int .i64 b)).alloc ob).drew R H o cs T v q (eP (bJ p) (j:Int) b)/\Fr (fun k=>k=R\/k=H\/v.ownBlock=some k) w (((w.setCell ⟨R,17,none⟩ (.int .i64 (p.els+1))).setCell ⟨R,5+j,none⟩ (.int .i64 b)).alloc ob).drew):=fun ob=>⟨((h.setEls (p.els+1)).setReg hj b).below ((v7 _ _).alloc (v9 _) _).drew,((((Fr.refl _ _).setCell ⟨R,17,none⟩ (.inl (.inl rfl)) _).setCell ⟨R,5+j,none⟩ (.inl (.inl rfl)) _).alloc _).drew⟩;have HH:=ah h;have HB:=ah hb;have HW:Hid (∀ ob,bC ((w.setCell ⟨R,17,none⟩ (.int .i64 (p.els+1))).alloc ob) R H o cs T v q (bJ p)/\Fr (fun k=>k=R\/k=H\/v.ownBlock=some k) w ((w.setCell ⟨R,17,none⟩ (.int .i64 (p.els+1))).alloc ob)):=fun ob=>h.inc ob;clear h hb;go_enter func144,ntmps144
 go_wp2_with fail
 go_region;all_goals
  go_wp2_with fail
  go_ret;exact⟨rfl,(HS.out _).1.out HH.que.cel (HS.out _).2⟩
theorem GF (R H o:Nat)(cs:Array Value)(T:TypeId)(v:Value)(q:List aj)(p:Pr)(n b c now:Int)(j:Nat)(w:World)(h:bC w R H o cs T v q p)(hb:fH n now p)(hj:j<12):
  Calls prog 144 #[.pointer (some ⟨R,0,none⟩),.agg #[.int .i64 5,.int .i64 (j:Int),.int .i64 b,.int .i64 c],.pointer (some ⟨H,o,none⟩),.int .i64 now] w fun e w'=>e=.returned (.int .i64 0)/\aO w w' R H o cs T v q (li (bJ p) (j:Int)):=by
 have r0:=h.els;have z0:w.frozen? ⟨R,17,none⟩=false:=aC h.run;have A0:R<w.heap.size:=ak h.run;have A1:=hb.e0;have A2:=hb.e1;have HH:=ah h;have HB:=ah hb;have HW:Hid (∀ ob,bC ((w.setCell ⟨R,17,none⟩ (.int .i64 (p.els+1))).alloc ob) R H o cs T v q (bJ p)/\Fr (fun k=>k=R\/k=H\/v.ownBlock=some k) w ((w.setCell ⟨R,17,none⟩ (.int .i64 (p.els+1))).alloc ob)):=fun ob=>h.inc ob;clear h hb;go_enter func144,ntmps144
 go_wp2_with fail
 refine(FL R H o cs T v q (bJ p) j _ (HW _).1 hj (HB.regs.get (j:Int)).1 (HB.regs.get (j:Int)).2).mono ?_;rintro e w1 ⟨rfl,h1,hf⟩;have HO:Hid (aO w w1 R H o cs T v q (li (bJ p) (j:Int))):=bC.out HH.que.cel h1 ((HW _).2.trans (hf.mono fun k _ hk=>.inl hk));clear h1 hf r0 z0 A0;go_wp2_with fail
 go_ret;exact⟨rfl,HO⟩
theorem GG (R H o:Nat)(cs:Array Value)(T:TypeId)(v:Value)(q:List aj)(p:Pr)(n a c now:Int)(j:Nat)(w:World)(h:bC w R H o cs T v q p)(hb:fH n now p)(hj:j<12)(t:Int)(ht:t=(if cw p (j:Int)<1 then 1 else cw p (j:Int))):
  Calls prog 144 #[.pointer (some ⟨R,0,none⟩),.agg #[.int .i64 6,.int .i64 a,.int .i64 (j:Int),.int .i64 c],.pointer (some ⟨H,o,none⟩),.int .i64 now] w fun e w'=>e=.returned (.int .i64 1)/\aO w w' R H o cs T v (aB q (ij (bJ p) c) a).1 (dY (aB q (ij (bJ p) c) a).2.1 now t (aB q (ij (bJ p) c) a).2.2):=by
 have r0:=h.els;have z0:w.frozen? ⟨R,17,none⟩=false:=aC h.run;have A0:R<w.heap.size:=ak h.run;have A1:=hb.e0;have A2:=hb.e1;have HH:=ah h;have HB:=ah hb;have HW:Hid (∀ ob,bC ((w.setCell ⟨R,17,none⟩ (.int .i64 (p.els+1))).alloc ob) R H o cs T v q (bJ p)/\Fr (fun k=>k=R\/k=H\/v.ownBlock=some k) w ((w.setCell ⟨R,17,none⟩ (.int .i64 (p.els+1))).alloc ob)):=fun ob=>h.inc ob;have HT:=ah ht;clear h hb ht;go_enter func144,ntmps144
 go_wp2_with fail
 refine(GU R H o cs T v q (bJ p) 6 a c now j _ (HW _).1 HB.s0 HB.s1 HB.t0 HB.t1 hj (HB.regs.get (j:Int)).1 (HB.regs.get (j:Int)).2).mono ?_;rintro e w1 ⟨rfl,ho⟩;have HO:Hid (aO w w1 R H o cs T v (aB q (ij (bJ p) c) a).1 (dY (aB q (ij (bJ p) c) a).2.1 now t (aB q (ij (bJ p) c) a).2.2)):=by rw[HT];exact ho.from HH.que.cel (HW _).2
 clear ho r0 z0 A0;go_wp2_with fail
 go_ret;exact⟨rfl,HO⟩
theorem GH (R H o:Nat)(cs:Array Value)(T:TypeId)(v:Value)(q:List aj)(p:Pr)(n b c now:Int)(j:Nat)(w:World)(h:bC w R H o cs T v q p)(hb:fH n now p)(hj:j<12):
  Calls prog 144 #[.pointer (some ⟨R,0,none⟩),.agg #[.int .i64 7,.int .i64 (j:Int),.int .i64 b,.int .i64 c],.pointer (some ⟨H,o,none⟩),.int .i64 now] w fun e w'=>e=.returned (.int .i64 0)/\aO w w' R H o cs T v q (iz (bJ p) (j:Int) c):=by
 have r0:=h.els;have z0:w.frozen? ⟨R,17,none⟩=false:=aC h.run;have A0:R<w.heap.size:=ak h.run;have A1:=hb.e0;have A2:=hb.e1;have HH:=ah h;have HB:=ah hb;have HW:Hid (∀ ob,bC ((w.setCell ⟨R,17,none⟩ (.int .i64 (p.els+1))).alloc ob) R H o cs T v q (bJ p)/\Fr (fun k=>k=R\/k=H\/v.ownBlock=some k) w ((w.setCell ⟨R,17,none⟩ (.int .i64 (p.els+1))).alloc ob)):=fun ob=>h.inc ob;clear h hb;go_enter func144,ntmps144
 go_wp2_with fail
 refine(GV R H o cs T v q (bJ p) 7 b c j _ (HW _).1 hj (HB.regs.get (j:Int)).1 (HB.regs.get (j:Int)).2).mono ?_;rintro e w1 ⟨rfl,h1,hf⟩;have HO:Hid (aO w w1 R H o cs T v q (iz (bJ p) (j:Int) c)):=bC.out HH.que.cel h1 ((HW _).2.trans (hf.mono fun k _ hk=>.inl hk));clear h1 hf r0 z0 A0;go_wp2_with fail
 go_ret;exact⟨rfl,HO⟩
theorem GI (R H o:Nat)(cs:Array Value)(T:TypeId)(v:Value)(q:List aj)(p:Pr)(n a b c now:Int)(w:World)(h:bC w R H o cs T v q p)(hb:fH n now p):
  Calls prog 144 #[.pointer (some ⟨R,0,none⟩),.agg #[.int .i64 8,.int .i64 a,.int .i64 b,.int .i64 c],.pointer (some ⟨H,o,none⟩),.int .i64 now] w fun e w'=>e=.returned (.int .i64 0)/\aO w w' R H o cs T v q {bJ p with els:=c}:=by
 have r0:=h.els;have z0:w.frozen? ⟨R,17,none⟩=false:=aC h.run;have A0:R<w.heap.size:=ak h.run;have A1:=hb.e0;have A2:=hb.e1;have HS:Hid (∀ ob,bC (((w.setCell ⟨R,17,none⟩ (.int .i64 (p.els+1))).setCell ⟨R,17,none⟩ (.int .i64 c)).alloc ob) R H o cs T v q {bJ p with els:=c}/\Fr (fun k=>k=R\/k=H\/v.ownBlock=some k) w (((w.setCell ⟨R,17,none⟩ (.int .i64 (p.els+1))).setCell ⟨R,17,none⟩ (.int .i64 c)).alloc ob)):=fun ob=>⟨((h.setEls (p.els+1)).setEls c).below ((v7 _ _).alloc (v9 _) _),(((Fr.refl _ _).setCell ⟨R,17,none⟩ (.inl (.inl rfl)) _).setCell ⟨R,17,none⟩ (.inl (.inl rfl)) _).alloc _⟩;have HH:=ah h;have HB:=ah hb;have HW:Hid (∀ ob,bC ((w.setCell ⟨R,17,none⟩ (.int .i64 (p.els+1))).alloc ob) R H o cs T v q (bJ p)/\Fr (fun k=>k=R\/k=H\/v.ownBlock=some k) w ((w.setCell ⟨R,17,none⟩ (.int .i64 (p.els+1))).alloc ob)):=fun ob=>h.inc ob;clear h hb;go_enter func144,ntmps144
 go_wp2_with fail
 go_ret;exact⟨rfl,(HS.out _).1.out HH.que.cel (HS.out _).2⟩
theorem Gm (R H o:Nat)(cs:Array Value)(T:TypeId)(v:Value)(q:List aj)(p:Pr)(n now:Int)(x:am)(w:World)(h:bC w R H o cs T v q p)(hb:fH n now p)(hx:ct n x=true):
  Calls prog 144 #[.pointer (some ⟨R,0,none⟩),.agg #[.int .i64 x.op,.int .i64 x.a,.int .i64 x.b,.int .i64 x.c],.pointer (some ⟨H,o,none⟩),.int .i64 now] w fun e w'=>e=.returned (.int .i64 (eB now x q p).2.2)/\aO w w' R H o cs T v (eB now x q p).1 (eB now x q p).2.1:=by
 obtain⟨op,a,b,c⟩:=x;unfold ct at hx;unfold eB;simp only at hx ⊢;by_cases g0:op=0
 .rw[if_pos g0,g0];exact Gz R H o cs T v q p n a b c now w h hb
 rw[if_neg g0]at hx ⊢;by_cases g1:op=1
 .rw[if_pos g1,g1];exact GB R H o cs T v q p n a b c now w h hb
 rw[if_neg g1]at hx ⊢;by_cases g2:op=2
 .rw[if_pos g2]at hx ⊢;rw[g2];simp only[Bool.and_eq_true]at hx;have ha:=gz hx.1.1;exact GC R H o cs T v q p n a b c now w h hb ha.1 ha.2
 rw[if_neg g2]at hx ⊢;by_cases g3:op=3
 .rw[if_pos g3]at hx ⊢;rw[g3];simp only[Bool.and_eq_true]at hx;have ha:=gz hx.1.2;by_cases hz:(aB q (eC (bJ p) c) a).2.2=0
  .rw[if_pos hz];exact Ds R H o cs T v q p n a b c now w h hb ha.1 ha.2 hz
  .rw[if_neg hz];exact CK R H o cs T v q p n a b c now w h hb ha.1 ha.2 hz
 rw[if_neg g3]at hx ⊢;by_cases g4:op=4
 .rw[if_pos g4]at hx ⊢;rw[g4];simp only[Bool.and_eq_true]at hx;have ha:=gz hx.1.1;obtain⟨j,rfl⟩:=oY ha.1;exact GE R H o cs T v q p n b c now j w h hb (by omega)
 rw[if_neg g4]at hx ⊢;by_cases g5:op=5
 .rw[if_pos g5]at hx ⊢;rw[g5];simp only[Bool.and_eq_true]at hx;have ha:=gz hx.1.1;obtain⟨j,rfl⟩:=oY ha.1;exact GF R H o cs T v q p n b c now j w h hb (by omega)
 rw[if_neg g5]at hx ⊢;by_cases g6:op=6
 .rw[if_pos g6]at hx ⊢;rw[g6];simp only[Bool.and_eq_true]at hx;have ha:=gz hx.1.2;obtain⟨j,rfl⟩:=oY ha.1;exact GG R H o cs T v q p n a c now j w h hb (by omega) _ rfl
 rw[if_neg g6]at hx ⊢;by_cases g7:op=7
 .rw[if_pos g7]at hx ⊢;rw[g7];simp only[Bool.and_eq_true]at hx;have ha:=gz hx.1.1;obtain⟨j,rfl⟩:=oY ha.1;exact GH R H o cs T v q p n b c now j w h hb (by omega)
 rw[if_neg g7]at hx ⊢;by_cases g8:op=8
 .rw[if_pos g8,g8];exact GI R H o cs T v q p n a b c now w h hb
 rw[if_neg g8]at hx;cases hx
end Go.Proofs.YtmmmnghiegajmaaGreat
namespace Go.Proofs.Herald
theorem EQ {now:Int}{cs:List am}{f:Nat}{q:List aj}{p:Pr}(h:¬ p.els.toNat<cs.length):ci now cs f q p=(q,p,true):=by
 cases f with
 | zero=>rfl
 | succ f=>rw[ci,dif_neg h]
theorem CX {now:Int}{cs:List am}{f:Nat}{q:List aj}{p:Pr}{pn:Nat}(hp:p.els=(pn:Nat))(h:pn<cs.length)(hs:(eB now cs[pn] q p).2.2≠0):ci now cs (f+1) q p=((eB now cs[pn] q p).1,(eB now cs[pn] q p).2.1,(eB now cs[pn] q p).2.2 != 1):=by
 have e:p.els.toNat=pn:=by omega
 rw[ci];simp only[e];rw[dif_pos h,if_neg hs]
theorem Gd {now:Int}{cs:List am}{f:Nat}{q:List aj}{p:Pr}{pn:Nat}(hp:p.els=(pn:Nat))(h:pn<cs.length)(hs:(eB now cs[pn] q p).2.2=0):ci now cs (f+1) q p=ci now cs f (eB now cs[pn] q p).1 (eB now cs[pn] q p).2.1:=by
 have e:p.els.toNat=pn:=by omega
 rw[ci];simp only[e];rw[dif_pos h,if_pos hs]
end Go.Proofs.Herald
namespace Go.Proofs.YtmmmnghiegajmaaGreat
theorem DK {w:World}{g cap k:Nat}{cs:List am}(h:w.ownsRow 0 91 4 (.slice (some ⟨g,0,none⟩) cs.length cap) cs.length (aZ cs))(hk:k<cs.length):
  w.cell? ⟨g,k*4,none⟩=some (.int .i64 cs[k].op)/\w.cell? ⟨g,k*4+1,none⟩=some (.int .i64 cs[k].a)/\w.cell? ⟨g,k*4+2,none⟩=some (.int .i64 cs[k].b)/\w.cell? ⟨g,k*4+3,none⟩=some (.int .i64 cs[k].c):=by
 have A0:∀ j u,j<4->(fo cs[k])[j]?=some u->w.cell? ⟨g,k*4+j,none⟩=some u:=fun j u hj hu=>(eW h (k*4+j) u (by rw[lX cs k hk j hj];exact hu)).1;exact⟨A0 0 _ (by omega) rfl,A0 1 _ (by omega) rfl,A0 2 _ (by omega) rfl,A0 3 _ (by omega) rfl⟩
theorem aO.code {w w1:World}{R H o:Nat}{cs:Array Value}{T:TypeId}{v cv:Value}{q q1:List aj}{p p1:Pr}{code:List am}(h:aO w w1 R H o cs T v q p)(h0:bC w R H o cs T v q1 p1)(hT:T≠91)(hc:w.ownsRow 0 91 4 cv code.length (aZ code)):w1.ownsRow 0 91 4 cv code.length (aZ code):=by
 refine aT hc fun b hb=>?_;obtain⟨c,A0⟩:=ax hc hb;refine h.other (ak A0) (aA A0 h0.run (by decide)) (aA A0 h0.que.blk hT.symm) fun e=>?_;obtain⟨c2,A1⟩:=ax h0.que.own e;exact aA A0 A1 (by decide) rfl
theorem xS (R H o:Nat)(cs:Array Value)(T:TypeId)(v cv:Value)(q:List aj)(p:Pr)(now:Int)(code:List am)(w:World)(h:bC w R H o cs T v q p)(hc:w.ownsRow 0 91 4 cv code.length (aZ code))(hT:T≠91)(hsnd:em code=true)(hm:ep code.length 0 p.sent q p)(hs:p.sent<=999999999999990000)(ht0:0<=now)(ht1:now<=1000000000):
  Calls prog 118 #[.pointer (some ⟨R,0,none⟩),cv,.pointer (some ⟨H,o,none⟩),.int .i64 now] w fun e w'=>e=.returned (.bool (!(ci now code 10000 q p).2.2))/\aO w w' R H o cs T v (ci now code 10000 q p).1 (ci now code 10000 q p).2.1:=by
 have B1:code.length<=1000:=by
  rcases Nat.lt_or_ge 1000 code.length with h|h
  .rw[nz h]at hsnd;cases hsnd
  .exact h
 have A9:Hid (∀ x∈code,ct code.length x=true):=by
  have:=hsnd;rw[rj B1]at this;exact List.all_eq_true.mp this
 obtain⟨a,B9,C2⟩:=bD hc;subst C2;have HH:=ah h;have HC:Hid (w.ownsRow 0 91 4 (.slice a code.length B9) code.length (aZ code)/\T≠91):=⟨hc,hT⟩;have B7:=ah hm;have A6:=ah hs;clear h hc hT hsnd hm hs;obtain⟨N,hN⟩:∃ N:Nat,N=10000:=⟨_,rfl⟩;have HN:=ah hN;rw[<- hN];clear hN;generalize hR:ci now code N q p=RR;have HR:=ah hR;clear hR;go_enter func118,ntmps118
 go_wp2_with fail
 go_loopw [9] (fun i wr=>∃ (k:Nat) (q':List aj) (p':Pr),k<=N/\i=.int .i64 k/\Hid (aO w wr R H o cs T v q' p')/\Hid (ep code.length k p.sent q' p')/\Hid (ci now code (N - k) q' p'=RR)) (fun i _=>N - (intOf i).toNat)
 case atStart=>exact⟨0,q,p,by omega,rfl,aO.of HH.out,B7,HR⟩
 case round=>
  obtain⟨k,q',p',hk,rfl,HO,HM,HQ⟩:=hrel;obtain⟨⟨v',hA,hv⟩,hF⟩:=id HO;have A5:=HO.code HH HC.2 HC.1;obtain⟨pn,B3⟩:∃ pn:Nat,p'.els=(pn:Nat):=oY HM.els.1;have r0:=hA.els;rw[B3]at r0;have C5:pn<=code.length:=by have:=HM.els.2;omega
  by_cases hk2:k<N
  .have B5:(k:Int)<10000:=by have:=HN.out;omega
   obtain⟨f,hf⟩:∃ f,N - k=f+1:=⟨N - k - 1,by omega⟩;have A7:f=N - (k+1):=by omega
   by_cases hlt:pn<code.length
   .obtain⟨g,C0,B6,_,C4⟩:=A5.form (by omega);simp at B6;obtain⟨rfl,rfl⟩:=B6;obtain⟨e0,e1,e2,e3⟩:=DK A5 hlt;have A8:=A9 _ (Qb hlt);have A2:=HM.step (now:=now) A8 (by omega);have A3:=CX (now:=now) (f:=f) (q:=q') B3 hlt;have B2:=Gd (now:=now) (f:=f) (q:=q') B3 hlt;have hq:=HQ.out;rw[hf]at hq;have B4:fH code.length now p':=by
     have h1:=HM.sent;have h2:=A6.out;have h3:=HN.out;exact⟨h1.2.2,by omega,by omega,by omega,HM.out.regs,ht0,ht1⟩
    have HD:Hid (∀ ob,Calls prog 144 #[.pointer (some ⟨R,0,none⟩),.agg #[.int .i64 code[pn].op,.int .i64 code[pn].a,.int .i64 code[pn].b,.int .i64 code[pn].c],.pointer (some ⟨H,o,none⟩),.int .i64 now] (wr.alloc ob) fun e w'=>e=.returned (.int .i64 (eB now code[pn] q' p').2.2)/\aO w w' R H o cs T v (eB now code[pn] q' p').1 (eB now code[pn] q' p').2.1):=fun ob=>by
     refine(Gm R H o _ T v' q' p' code.length now code[pn] (wr.alloc ob) (hA.below ((v7 _ _).alloc (v9 _) _)) B4 A8).mono ?_;rintro e w' ⟨rfl,ho⟩;exact⟨rfl,aO.trans hv (hF.alloc _) ho⟩
    clear B4;generalize eB now code[pn] q' p'=r at *;generalize code[pn]=x at *;by_cases hz:r.2.2=0
    .have A4:Hid (ci now code (N - (k+1)) r.1 r.2.1=RR):=by rw[<- A7];exact(B2 hz).symm.trans hq
     have B8:Hid (ep code.length (k+1) p.sent r.1 r.2.1):=A2 hz;have C3:(r.2.2 != 0)=false:=by simpa using hz
     clear A2 A3 B2 hq hz HQ hA hv hF A5 A8 hf A7 HM HO;go_wp2_with fail
     refine(HD _).mono ?_;rintro e w' ⟨rfl,A0⟩;have A1:=ah A0;clear A0 HD;go_wp2_with fail
     go_roundw;case rel=>exact⟨k+1,r.1,r.2.1,by omega,by go_num,A1,B8,A4⟩
     case measure=>simp[intOf];omega
    .have A4:Hid ((r.1,r.2.1,r.2.2 != 1)=RR):=(A3 hz).symm.trans hq;have C3:(r.2.2 != 0)=true:=by simpa using hz
     clear A2 A3 B2 hq hz HQ hA hv hF A5 A8 hf A7 HM HO;by_cases h1:r.2.2=1
     .have C1:(r.2.2==1)=true:=by simpa using h1
      have B0:=ah h1;clear h1;go_wp2_with fail
      refine(HD _).mono ?_;rintro e w' ⟨rfl,A0⟩;have A1:=ah A0;clear A0 HD;go_wp2_with fail
      go_ret;rw[<- A4];exact⟨dX (by simp[B0.out]),A1⟩
     .have C1:(r.2.2==1)=false:=by simpa using h1
      have B0:=ah h1;clear h1;go_wp2_with fail
      refine(HD _).mono ?_;rintro e w' ⟨rfl,A0⟩;have A1:=ah A0;clear A0 HD;go_wp2_with fail
      go_ret;rw[<- A4];exact⟨dX (by simp[B0.out]),A1⟩
   .have A4:Hid ((q',p',true)=RR):=by
     have hq:=HQ.out;rw[EQ (by omega)]at hq;exact hq
    clear hA hv hF A5 hf A7 HQ HM;go_wp2_with fail
    go_ret;rw[<- A4];exact⟨rfl,HO⟩
  .have A4:Hid ((q',p',true)=RR):=by
    have hq:=HQ.out;rw[show N - k=0 from by omega,ci]at hq;exact hq
   have B5:k=10000:=by have:=HN.out;omega
   subst B5;clear hA hv hF A5 HQ HM;go_wp2_with fail
   go_ret;rw[<- A4];exact⟨rfl,HO⟩
def ew (ps:List Pr):List Value:=ps.flatMap cV
theorem tI {ps:List Pr}(h:∀ p∈ps,p.regs.length=12):(ew ps).length=ps.length*19:=by
 induction ps with
 | nil=>rfl
 | cons p ps ih=>
  have h1:=ih fun x hx=>h x (Qf _ hx);have h2:=lW (h p (List.mem_cons_self ..));unfold ew at h1 ⊢;rw[List.flatMap_cons,List.length_append,h1,h2,List.length_cons];omega
theorem rd:∀ {ps:List Pr}(_:∀ p∈ps,p.regs.length=12){k:Nat}(hk:k<ps.length){j:Nat}(_:j<19),(ew ps)[k*19+j]?=(cV ps[k])[j]?:=by
 intro ps;induction ps with
 | nil=>intro _ k hk;simp at hk
 | cons p ps ih=>
  intro h k hk j hj;have hl:=lW (h p (List.mem_cons_self ..));unfold ew at ih ⊢;rw[List.flatMap_cons];cases k with
  | zero=>
   rw[List.getElem?_append_left (by rw[hl];omega)];simp
  | succ k=>
   rw[List.getElem?_append_right (by rw[hl];omega),hl,show(k+1)*19+j - 19=k*19+j from by omega,ih (fun x hx=>h x (Qf _ hx)) (by simpa using hk) hj];simp
theorem tX (ps:List Pr)(p:Pr):ew (ps++[p])=ew ps++cV p:=by unfold ew;simp
theorem Hh {l:List Int}(h:l.length=12):∃ r0 r1 r2 r3 r4 r5 r6 r7 r8 r9 r10 r11,l=[r0,r1,r2,r3,r4,r5,r6,r7,r8,r9,r10,r11]:=by
 match l,h with
 | [r0,r1,r2,r3,r4,r5,r6,r7,r8,r9,r10,r11],_=>exact⟨r0,r1,r2,r3,r4,r5,r6,r7,r8,r9,r10,r11,rfl⟩
theorem oU {w:World}{g cap k:Nat}{ps:List Pr}(h:w.ownsRow 0 172 19 (.slice (some ⟨g,0,none⟩) ps.length cap) ps.length (ew ps))(hr:∀ p∈ps,p.regs.length=12)(hk:k<ps.length):
  ∃ r0 r1 r2 r3 r4 r5 r6 r7 r8 r9 r10 r11,ps[k].regs=[r0,r1,r2,r3,r4,r5,r6,r7,r8,r9,r10,r11] /\
   (w.cell? ⟨g,k*19,none⟩=some (.int .i64 ps[k].id)/\w.cell? ⟨g,k*19+1,none⟩=some (.int .i64 ps[k].dev)/\w.cell? ⟨g,k*19+2,none⟩=some (.int .i64 ps[k].sent)/\w.cell? ⟨g,k*19+3,none⟩=some (.int .i64 ps[k].til)/\w.cell? ⟨g,k*19+4,none⟩=some (.int .i64 ps[k].num)) /\
   (w.cell? ⟨g,k*19+5,none⟩=some (.int .i64 r0)/\w.cell? ⟨g,k*19+6,none⟩=some (.int .i64 r1)/\w.cell? ⟨g,k*19+7,none⟩=some (.int .i64 r2)/\w.cell? ⟨g,k*19+8,none⟩=some (.int .i64 r3)/\w.cell? ⟨g,k*19+9,none⟩=some (.int .i64 r4)/\w.cell? ⟨g,k*19+10,none⟩=some (.int .i64 r5)) /\
   (w.cell? ⟨g,k*19+11,none⟩=some (.int .i64 r6)/\w.cell? ⟨g,k*19+12,none⟩=some (.int .i64 r7)/\w.cell? ⟨g,k*19+13,none⟩=some (.int .i64 r8)/\w.cell? ⟨g,k*19+14,none⟩=some (.int .i64 r9)/\w.cell? ⟨g,k*19+15,none⟩=some (.int .i64 r10)/\w.cell? ⟨g,k*19+16,none⟩=some (.int .i64 r11)) /\
   (w.cell? ⟨g,k*19+17,none⟩=some (.int .i64 ps[k].els)/\w.cell? ⟨g,k*19+18,none⟩=some (.int .i64 ps[k].tow)):=by
 obtain⟨r0,r1,r2,r3,r4,r5,r6,r7,r8,r9,r10,r11,e⟩:=Hh (hr ps[k] (Qb hk));have A0:∀ j u,j<19->(cV ps[k])[j]?=some u->w.cell? ⟨g,k*19+j,none⟩=some u:=fun j u hj hu=>(eW h (k*19+j) u (by rw[rd hr hk hj];exact hu)).1;have hc:cV ps[k]=[.int .i64 ps[k].id,.int .i64 ps[k].dev,.int .i64 ps[k].sent,.int .i64 ps[k].til,.int .i64 ps[k].num,.int .i64 r0,.int .i64 r1,.int .i64 r2,.int .i64 r3,.int .i64 r4,.int .i64 r5,.int .i64 r6,.int .i64 r7,.int .i64 r8,.int .i64 r9,.int .i64 r10,.int .i64 r11,.int .i64 ps[k].els,.int .i64 ps[k].tow]:=by unfold cV;rw[e];rfl
 rw[hc]at A0;exact⟨r0,r1,r2,r3,r4,r5,r6,r7,r8,r9,r10,r11,e,⟨A0 0 _ (by omega) rfl,A0 1 _ (by omega) rfl,A0 2 _ (by omega) rfl,A0 3 _ (by omega) rfl,A0 4 _ (by omega) rfl⟩,
  ⟨A0 5 _ (by omega) rfl,A0 6 _ (by omega) rfl,A0 7 _ (by omega) rfl,A0 8 _ (by omega) rfl,A0 9 _ (by omega) rfl,A0 10 _ (by omega) rfl⟩,
  ⟨A0 11 _ (by omega) rfl,A0 12 _ (by omega) rfl,A0 13 _ (by omega) rfl,A0 14 _ (by omega) rfl,A0 15 _ (by omega) rfl,A0 16 _ (by omega) rfl⟩,⟨A0 17 _ (by omega) rfl,A0 18 _ (by omega) rfl⟩⟩
def jn (code rec:Value)(now last:Int)(rv:Value)(qv:Nat->Value):Array Value:=#[code,.int .i64 now,.int .i64 last,rv,qv 0,qv 1,qv 2,rec]
structure bK (w:World)(H:Nat)(code rec:Value)(now last:Int)(rv:Value)(qv:Nat->Value)(qs:Nat->List aj)(ps:List Pr):Prop where
 blk:w.heap[H]?=some (.cells (jn code rec now last rv qv) 114)
 oB:∀ d,d<3->w.ownsRow 0 87 4 (qv d) (qs d).length (bA (qs d))
 ql:∀ d,d<3->(qs d).length<=4
 dis:∀ d e b,d<3->e<3->(qv d).ownBlock=some b->(qv e).ownBlock=some b->d=e
 rB:w.ownsRow 0 172 19 rv ps.length (ew ps)
 rl:∀ p∈ps,p.regs.length=12
def bQ (H:Nat)(rv:Value)(qv:Nat->Value)(k:Nat):Prop:=k=H\/(∃ d,d<3/\(qv d).ownBlock=some k)\/rv.ownBlock=some k
theorem bK.keep {w w':World}{H:Nat}{code rec:Value}{now last:Int}{rv:Value}{qv:Nat->Value}{qs:Nat->List aj}{ps:List Pr}(h:bK w H code rec now last rv qv qs ps)(hk:∀ k,bQ H rv qv k->w'.heap[k]?=w.heap[k]?):bK w' H code rec now last rv qv qs ps:=
 ⟨(hk H (.inl rfl)).trans h.blk,fun d hd=>aT (h.oB d hd) fun b hb=>hk b (.inr (.inl ⟨d,hd,hb⟩)),h.ql,h.dis,aT h.rB fun b hb=>hk b (.inr (.inr hb)),h.rl⟩
theorem bK.sort {w:World}{H:Nat}{code rec:Value}{now last:Int}{rv:Value}{qv:Nat->Value}{qs:Nat->List aj}{ps:List Pr}(h:bK w H code rec now last rv qv qs ps){k:Nat}(hk:bQ H rv qv k):∃ c t,w.heap[k]?=some (.cells c t (0,0))/\(t=114\/t=87\/t=172):=by
 rcases hk with rfl|⟨d,hd,hk⟩|hk
 .exact⟨_,_,h.blk,.inl rfl⟩
 .obtain⟨c,hc⟩:=ax (h.oB d hd) hk;exact⟨_,_,hc,.inr (.inl rfl)⟩
 .obtain⟨c,hc⟩:=ax h.rB hk;exact⟨_,_,hc,.inr (.inr rfl)⟩
theorem bK.lt {w:World}{H:Nat}{code rec:Value}{now last:Int}{rv:Value}{qv:Nat->Value}{qs:Nat->List aj}{ps:List Pr}(h:bK w H code rec now last rv qv qs ps){k:Nat}(hk:bQ H rv qv k):k<w.heap.size:=by
 obtain⟨c,t,hc,_⟩:=h.sort hk;exact ak hc
theorem bK.below {w w':World}{H:Nat}{code rec:Value}{now last:Int}{rv:Value}{qv:Nat->Value}{qs:Nat->List aj}{ps:List Pr}(h:bK w H code rec now last rv qv qs ps)(hb:Below w.heap.size w w'):bK w' H code rec now last rv qv qs ps:=
 h.keep fun k hk=>hb.block k (h.lt hk)
def gG (id:Int):List Pr->Nat
 | []=>0
 | p::ps=>if p.id=id then 0 else gG id ps+1
theorem AM {id:Int}:∀ {ps:List Pr},(∀ p∈ps,¬ p.id=id)->gG id ps=ps.length:=by
 intro ps;induction ps with
 | nil=>intro _;rfl
 | cons p ps ih=>
  intro h;rw[gG,if_neg (h p (List.mem_cons_self ..)),ih fun x hx=>h x (Qf _ hx)];rfl
theorem DO {id:Int}:∀ {ps:List Pr} {k:Nat} (hk:k<ps.length),(∀ p∈ps.take k,¬ p.id=id)->ps[k].id=id->gG id ps=k:=by
 intro ps;induction ps with
 | nil=>intro k hk;simp at hk
 | cons p ps ih=>
  intro k hk h he;cases k with
  | zero=>
   have A0:p.id=id:=he;rw[gG,if_pos A0]
  | succ k=>
   rw[gG,if_neg (h p (by simp)),ih (by simpa using hk) (fun x hx=>h x (by simp[hx])) (by simpa using he)]
theorem Tryz.infoRun2:(prog.info? 172).map (·.size)=some 19:=by kernel_rfl
theorem lL {w:World}{g cap k:Nat}{ps:List Pr}(h:w.ownsRow 0 172 19 (.slice (some ⟨g,0,none⟩) ps.length cap) ps.length (ew ps))(hr:∀ p∈ps,p.regs.length=12)(hk:k<ps.length):w.rangeAt g (k*19) (cV ps[k]):=fun j u hj=>by
 have hj19:j<19:=by have:=(List.getElem?_eq_some_iff.mp hj).1;rwa [lW (hr _ (Qb hk))]at this
 exact(eW h (k*19+j) u (by rw[rd hr hk hj19];exact hj)).1
theorem ri (p:Pr):∀ u∈cV p,u.oneCell'=true:=by
 intro u hu;unfold cV at hu;simp only[List.mem_cons,List.mem_append,List.mem_map,List.not_mem_nil,or_false]at hu;rcases hu with rfl|rfl|rfl|rfl|rfl|⟨z,_,rfl⟩|rfl|rfl;all_goals rfl
def jm:Array Value:=#[.int .i64 0,.int .i64 0,.int .i64 0,.int .i64 0,.int .i64 0,.int .i64 0,.int .i64 0,.int .i64 0,.int .i64 0,.int .i64 0,.int .i64 0,.int .i64 0,.int .i64 0,.int .i64 0,.int .i64 0,.int .i64 0,.int .i64 0,.int .i64 0,.int .i64 0]
theorem jJ {P:Program}{ops:Array Oper}{rest:List Oper}{op:Oper}{a:Act}{Q:Exit->Act->World->Prop}(w:World)(hgd:op.guard=none)(ty:TypeId)(x y:Operand)(ho:op.op=.store ty x y)
  (c cells:Array Value) (hx:a.eval x=.pointer (some ⟨w.heap.size,0,none⟩)) (hy:a.eval y=.agg cells) (hi:(P.info? ty).map (·.size)=some cells.size) (hs:c.size=cells.size) (h1:cells.all (·.oneCell')=true)
  (h:wpList P ops Q rest (a.put op.dst undef) (w.alloc (.cells cells ty))):wpList P ops Q (op::rest) a (w.alloc (.cells c ty)):=
 wpList_plain hgd fun _ hK=>by
  unfold Oper.wp execOp;simp only[ho,hx,hy,Instr.storeAt,Instr.sureAddr,Sem.run_bind,Sem.run_pure,Result.andThen_ok,run_storeVar_new w ty c cells hi hs h1];exact hK _ _ h
theorem Tryz.infoRunZ:(prog.info? 172).map (fun i=>(i.zero,i.size,i.bytes))=some (some (.agg jm),19,152):=by kernel_rfl
theorem Cq (w:World)(C:Array Value)(hC:C.size=19):(Instr.buildSlice 107 1 #[(0,.agg C)]).run prog w=.ok (.slice (some ⟨w.heap.size,0,none⟩) 1 1) (w.alloc (.cells C 172)):=by
 obtain⟨i0,hi,A0,A1,A2⟩:=info_parts Tryz.infoRunZ;obtain⟨l⟩:=C;match l,hC with
 | [c0,c1,c2,c3,c4,c5,c6,c7,c8,c9,c10,c11,c12,c13,c14,c15,c16,c17,c18],_=>
  simp[Instr.buildSlice,run_underlying underlying107,sizeOf,typeInfo,hi,A1,zeroValue,A0,Instr.fill,Value.cells,newRow,newObj,go_sem];rfl
theorem zs {ops:Array Oper}{rest:List Oper}{op:Oper}{a:Act}{Q:Exit->Act->World->Prop}(w:World)(hgd:op.guard=none)(x:Operand)(ho:op.op=.buildSlice 107 1 #[(0,x)])(C:Array Value)(hx:a.eval x=.agg C)(hC:C.size=19)(n:Nat)(hn:w.heap.size=n)
  (h:wpList prog ops Q rest (a.put op.dst (.slice (some ⟨n,0,none⟩) 1 1)) (w.alloc (.cells C 172))):wpList prog ops Q (op::rest) a w:=
 wpList_plain hgd fun _ hK=>by
  unfold Oper.wp execOp;have e:(#[((0:Nat),x)].map fun(i,y)=>(i,a.eval y))=#[(0,.agg C)]:=by simp[hx]
  have hr:=Cq w C hC;rw[hn]at hr;simp only[ho,e,Sem.run_bind,Sem.run_pure,Result.andThen_ok,hr];exact hK _ _ h
structure aM (C:Array Value)(p:Pr):Prop where
 eq:C=(cV p).toArray
 rl:p.regs.length=12
theorem aM.size {C:Array Value}{p:Pr}(h:aM C p):C.size=19:=by rw[h.eq];simpa using lW h.rl
theorem aM.one {C:Array Value}{p:Pr}(h:aM C p):C.all (·.oneCell')=true:=by rw[h.eq];exact all_oneCell_toArray (ri p)
theorem aM.info {C:Array Value}{p:Pr}(h:aM C p):(prog.info? 172).map (·.size)=some C.size:=by rw[Tryz.infoRun2,h.size]
theorem aM.infoL {C:Array Value}{p:Pr}(h:aM C p):(prog.info? 172).map (·.size)=some C.toList.length:=by rw[Tryz.infoRun2,Array.length_toList,h.size]
theorem aM.zero {C:Array Value}{p:Pr}(h:aM C p):jm.size=C.size:=by rw[h.size];rfl
theorem aM.range {C:Array Value}{p:Pr}(h:aM C p){w:World}{g o:Nat}(hr:w.rangeAt g o (cV p)):w.rangeAt g o C.toList:=by rw[h.eq];exact hr
theorem aM.new {C:Array Value}{w:World}{k:Nat}{t:TypeId}(hk:w.heap[k]?=some (.cells C t (0,0))):w.rangeAt k 0 C.toList:=fun j u hj=>by
 rw[Nat.zero_add,ag hk];simpa using hj
end Go.Proofs.YtmmmnghiegajmaaGreat
