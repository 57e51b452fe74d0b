import Derived.Test.YtmmmnghiegajmaaGreatM08
set_option maxHeartbeats 4000000
set_option maxRecDepth 20000
open Go.RowKit Go.Proofs.Herald Go.Proofs.Tryz
namespace Go.Proofs.YtmmmnghiegajmaaGreat
theorem Tryz.infoCB:(prog.info? 93).map (fun i=>(i.zero,i.size,i.bytes))=some (some (.agg #[.slice none 0 0,.int .i64 0,.int .i64 0,.int .i64 0,.int .i64 0]),5,56):=by kernel_rfl
theorem Dp (O:Nat)(n0:Int)(cv rv qv:Value)(cb:List (Value×List Value))(a:Option Addr)(nl cap:Nat)(xs:List Value)(w0:World)(hn00:0<=n0)(hn10:n0<=900000000)(hnl:nl<=1000000)(hcb:cb.length<=10000000)
  (hO0:w0.heap[O]?=some (.cells #[.int .i64 n0,cv,rv,qv] 28)) (hq0:w0.ownsRow 0 93 5 cv cb.length (fw cb)) (hl0:w0.ownsRow 0 91 4 (.slice a nl cap) nl xs):
  Calls prog 20 #[.pointer (some ⟨O,0,none⟩),.slice a nl cap] w0 fun e w'=>e=.returned (.tuple #[]) /\
   ∃ v v1 v2 v3,bG (w0.setCell ⟨O,0,none⟩ (.int .i64 (n0+1))) w' O w0.heap.size (fun v=>#[.int .i64 (n0+1),v,rv,qv]) 91 93 4 cv v (cb++[(.slice a nl cap,[.int .i64 (-(n0+1)),.int .i64 0,.int .i64 0,.int .i64 0]),(v1,[.int .i64 (-(n0+1)),.int .i64 0,.int .i64 0,.int .i64 0]),(v2,[.int .i64 (-(n0+1)),.int .i64 0,.int .i64 0,.int .i64 0]),(v3,[.int .i64 (-(n0+1)),.int .i64 0,.int .i64 0,.int .i64 0])])
    (.slice a nl cap) nl [.int .i64 (-(n0+1)),.int .i64 0,.int .i64 0,.int .i64 0] [(v1,nl+1),(v2,nl+2),(v3,nl+3)]:=by
 have E1:w0.cell? ⟨O,0,none⟩=some (.int .i64 n0):=(ag hO0).trans rfl;have E4:w0.frozen? ⟨O,0,none⟩=false:=aC hO0;obtain⟨w,hw⟩:∃ w,w=w0.setCell ⟨O,0,none⟩ (.int .i64 (n0+1)):=⟨_,rfl⟩;obtain⟨n,hn⟩:∃ n,n=n0+1:=⟨_,rfl⟩;have D3:w0.heap.size=w.heap.size:=by rw[hw,ef]
 rw[<- hw,<- hn,D3];have hO:w.heap[O]?=some (.cells #[.int .i64 n,cv,rv,qv] 28):=by rw[hw,hn,cG _ hO0];rfl
 have hq:w.ownsRow 0 93 5 cv cb.length (fw cb):=eu hq0 fun b hb=>by
  obtain⟨c,hc⟩:=ax hq0 hb;rw[hw];exact q8 _ _ _ _ (aA hc hO0 (by decide))
 have hl:w.ownsRow 0 91 4 (.slice a nl cap) nl xs:=eu hl0 fun b hb=>by
  obtain⟨c,hc⟩:=ax hl0 hb;rw[hw];exact q8 _ _ _ _ (aA hc hO0 (by decide))
 have E8:0<=n:=by omega
 have E9:n<=1000000000:=by omega
 have HW:=ah hw;have HN:=ah hn;clear D3 hw hn hO0 hq0 hl0;have c0:w.cell? ⟨O,0,none⟩=some (.int .i64 n):=(ag hO).trans rfl;obtain⟨mk,C2⟩:∃ mk:List Value,mk=[.int .i64 (-n),.int .i64 0,.int .i64 0,.int .i64 0]:=⟨_,rfl⟩;have A0:=ah C2;have C0:Hid (mk.length=4):=by show _=_;rw[C2];rfl
 rw[<- C2];have HO:Hid (w.heap[O]?=some (.cells #[.int .i64 n,cv,rv,qv] 28)/\w.ownsRow 0 93 5 cv cb.length (fw cb)/\w.ownsRow 0 91 4 (.slice a nl cap) nl xs):=⟨hO,hq,hl⟩;clear hO hq hl C2;go_enter func20,ntmps20
 go_upto_region 1 with fail
 rw[<- HW];clear HW HN E1 E4 hn00 hn10;go_wp2_with fail
 go_loopw [5] (fun i wr=>∃ (k:Nat) (rest:List Value),k<=nl/\i=.int .i64 k/\rest.length=(nl - k)*4/\Hid (wr.ownsRow 0 91 4 (.slice a nl cap) nl (cO mk k++rest))/\Hid (wr.heap[w.heap.size]?=some (.cells mk.toArray 91))/\Hid (Fr (fun j=>j=O\/cv.ownBlock=some j\/(Value.slice a nl cap).ownBlock=some j) w wr)/\Hid (wr.heap[O]?=some (.cells #[.int .i64 n,cv,rv,qv] 28)/\wr.ownsRow 0 93 5 cv cb.length (fw cb))) (fun i _=>nl - (intOf i).toNat)
 case atStart=>
  refine⟨0,xs,Qa _,rfl,HO.2.2.1,?_,?_,(Fr.refl _ _).alloc _,?_,HO.2.1.alloc _⟩
  .show World.ownsRow _ _ _ _ _ _ ([]++xs);exact HO.2.2.alloc _
  .show _=_;rw[A0];exact v8 _ _
  .rw[q9 _ _ _ (ak HO.1)];exact HO.1
 case round=>
  obtain⟨k,rest,hk,rfl,D1,HL,HM,HF,HR⟩:=hrel;by_cases hlt:k<nl
  .obtain⟨g,E2,hv,_,E7⟩:=HL.form (by omega);simp at hv;obtain⟨rfl,rfl⟩:=hv;obtain⟨r0,r1,r2,r3,A9,rfl,D2⟩:=yy D1 (by omega);have HP:Hid (k*4=(cO mk k).length):=by show _=_;rw[pG,C0]
   obtain⟨e0,e1,e2,e3,z0,z1,z2,z3⟩:=xm HL HP;have hM:=HM.out;rw[A0]at hM;obtain⟨m0,m1,m2,m3⟩:=fP hM;have HS:=qq HL HP (.int .i64 (-n)) (.int .i64 0) (.int .i64 0) (.int .i64 0);have E0:Hid (((((wr.setCell ⟨g,k*4,none⟩ (.int .i64 (-n))).setCell ⟨g,k*4+1,none⟩ (.int .i64 0)).setCell ⟨g,k*4+2,none⟩ (.int .i64 0)).setCell ⟨g,k*4+3,none⟩ (.int .i64 0)).ownsRow 0 91 4 (.slice (some ⟨g,0,none⟩) nl cap) nl (cO mk (k+1)++A9)):=by
    rw[<- A0]at HS;have e:cO mk (k+1)=cO mk k++mk:=by rw[oI];simp[cO]
    rw[e];exact HS
   obtain⟨_,E3,C5⟩:=cS HL (k:=g) rfl;have A8:Hid (O≠g/\w.heap.size≠g/\∀ b,cv.ownBlock=some b->b≠g):=by
    refine⟨aA HR.1 C5 (by decide),fun e=>?_,fun b hb=>?_⟩
    .obtain⟨_,E6,C6⟩:=cS HO.2.2 (k:=g) rfl;have:=ak C6;omega
    .obtain⟨_,cq,E5⟩:=cS HR.2 hb;exact aA E5 C5 (by decide)
   clear C5 hM HS;go_wp2_with fail
   go_roundw;case rel=>
    refine⟨k+1,A9,by omega,by go_num,by rw[D2,show nl - k - 1=nl - (k+1) from by omega],E0,?_,yk HF.out (Or.inr (Or.inr rfl)) _ _ _ _ _,?_,?_⟩
    .show _=_;rw[q8 _ _ _ _ A8.2.1,q8 _ _ _ _ A8.2.1,q8 _ _ _ _ A8.2.1,q8 _ _ _ _ A8.2.1];exact HM
    .rw[q8 _ _ _ _ A8.1,q8 _ _ _ _ A8.1,q8 _ _ _ _ A8.1,q8 _ _ _ _ A8.1];exact HR.1
    .exact eu HR.2 (fun b hb=>by
      have:=A8.2.2 b hb;rw[q8 _ _ _ _ this,q8 _ _ _ _ this,q8 _ _ _ _ this,q8 _ _ _ _ this])
   case measure=>simp[intOf];omega
  .obtain rfl:k=nl:=by omega
   obtain rfl:rest=[]:=List.eq_nil_of_length_eq_zero (by simpa using D1);have HB:Hid (bG w wr O w.heap.size (fun v=>#[.int .i64 n,v,rv,qv]) 91 93 4 cv cv cb (.slice a k cap) k mk []):=by
    refine⟨HR.1,HM,HR.2,fun b hb=>Or.inl hb,?_,fun x hx=>absurd hx (by simp),HF,v9 _,ak HO.1,fun b hb=>?_⟩
    .have h:=HL.out;rw[List.append_nil]at h;exact h
    .obtain⟨_,C1,hc⟩:=cS HO.2.2 hb;exact ak hc
   clear HL HM HF HR D1 hk;have C3:Hid ([.int .i64 (-n),.int .i64 0,.int .i64 0,.int .i64 0]=cO mk 1/\[.int .i64 (-n),.int .i64 0,.int .i64 0,.int .i64 0]++[.int .i64 (-n),.int .i64 0,.int .i64 0,.int .i64 0]=cO mk 2/\[.int .i64 (-n),.int .i64 0,.int .i64 0,.int .i64 0]++([.int .i64 (-n),.int .i64 0,.int .i64 0,.int .i64 0]++[.int .i64 (-n),.int .i64 0,.int .i64 0,.int .i64 0])=cO mk 3):=by rw[A0];exact⟨rfl,rfl,rfl⟩
   go_upto_region 6 with fail
   have hm:=HB.m;rw[A0]at hm;obtain⟨m0,m1,m2,m3⟩:=fP hm;clear hm;have o3:wr.cell? ⟨O,1,none⟩=some cv:=(ag HB.o).trans rfl;have y3:wr.frozen? ⟨O,1,none⟩=false:=aC HB.o;have B6:O<wr.heap.size:=ak HB.o;have B5:w.heap.size<wr.heap.size:=ak HB.m;have HV:Hid (cv.ownBlock≠some O):=fun e=>by obtain⟨C1,hc⟩:=ax HB.rown e;exact aA hc HB.o (by decide) rfl
   go_cut [0] (fun r wx=>r=.pointer (some ⟨O,0,none⟩)/\Hid (∃ v,bG w wx O w.heap.size (fun v=>#[.int .i64 n,v,rv,qv]) 91 93 4 cv v (cb++[(.slice a k cap,mk)]) (.slice a k cap) k mk []))
   case first=>
    go_region_law (refine jk _ rfl (.tmp 36) (.tmp 40) 24 rfl 93 _ 5 56 underlying24 Tryz.infoCB rfl (by decide) (by decide) cv _ _ wr.heap.size [.slice a k cap,.int .i64 (-n),.int .i64 0,.int .i64 0,.int .i64 0] (by rfl) (by exact HB.rown.alloc _) (by exact v8 _ _) (by rfl) rfl (by simp[Value.oneCell']) (by first|omega|(simp;omega)) ?_;intro g1 cap1 w1 hown1 hgrow hat hlt;have C4:w1.cell? ⟨O,1,none⟩=some cv:=(ag (cM (ae.alloc _ _).drew hgrow HB.o HV)).trans rfl;have C7:w1.frozen? ⟨O,1,none⟩=false:=aC (cM (ae.alloc _ _).drew hgrow HB.o HV))
    all_goals
     go_wp2_with fail
     go_meet;case rel=>
      have e:([.slice a k cap,.int .i64 (-n),.int .i64 0,.int .i64 0,.int .i64 0]:List Value)=.slice a k cap::mk:=by rw[A0]
      rw[e]at hown1;have h:=HB.push (by decide) (by decide) (by decide) (ae.alloc _ _).drew (x:=.slice a k cap) (idx:=1) hown1 hgrow hat rfl;refine⟨rfl,?_⟩;show ∃ v,bG _ _ _ _ _ _ _ _ _ v _ _ _ _ _;refine⟨.slice (some ⟨g1,0,none⟩) (cb.length+0+1) cap1,?_⟩;simpa using h
   case rest=>
    obtain⟨rfl,HX⟩:=hcut;obtain⟨u0,D4⟩:=id HX;have B7:=ah D4;clear D4 HX m0 m1 m2 m3 o3 y3 B6 B5 HV HB;obtain⟨x0,D7⟩:∃ W,W=wc:=⟨_,rfl⟩;rw[<- D7]at B7 ⊢;clear D7;have C8:=B7.m;rw[A0]at C8;obtain⟨m0,m1,m2,m3⟩:=fP C8;clear C8;go_wp2_with (at_builtin;refine gN _ rfl (.tmp 44) (.tmp 46) 29 rfl 91 _ 4 32 underlying29 Tryz.infoInstr rfl (by decide) (by decide) (.slice a k cap) k 1 (cO mk k) x0.heap.size [.int .i64 (-n),.int .i64 0,.int .i64 0,.int .i64 0] (by rfl) (by exact B7.lown.alloc _) (by exact v8 _ _) (by rfl) rfl (by simp[Value.oneCell']) (by decide) (by omega) ?_)
    intro v1 w2 hown1 ha1;have A3:Hid (bG w w2 O w.heap.size (fun v=>#[.int .i64 n,v,rv,qv]) 91 93 4 cv u0 (cb++[(.slice a k cap,mk)]) (.slice a k cap) k mk [(v1,k+1)]):=B7.app (by decide) (by decide) C0 (ae.alloc _ _) (by rw[<- C3.1];exact hown1) ha1 (by simp);clear hown1 ha1 m0 m1 m2 m3 B7;go_upto_region 8 with fail
    have hm:=A3.m;rw[A0]at hm;obtain⟨m0,m1,m2,m3⟩:=fP hm;clear hm;have o3:w2.cell? ⟨O,1,none⟩=some u0:=(ag A3.o).trans rfl;have y3:w2.frozen? ⟨O,1,none⟩=false:=aC A3.o;have B6:O<w2.heap.size:=ak A3.o;have B5:w.heap.size<w2.heap.size:=ak A3.m;have HV:Hid (u0.ownBlock≠some O):=fun e=>by obtain⟨C1,hc⟩:=ax A3.rown e;exact aA hc A3.o (by decide) rfl
    obtain⟨A1,A2,B0⟩:=bD (A3.kins (v1,k+1) (by simp)).1;replace B0:v1=.slice A1 (k+1) A2:=B0;subst B0;go_cut [0] (fun r wx=>r=.pointer (some ⟨O,0,none⟩)/\Hid (∃ v,bG w wx O w.heap.size (fun v=>#[.int .i64 n,v,rv,qv]) 91 93 4 cv v (cb++[(.slice a k cap,mk),(.slice A1 (k+1) A2,mk)]) (.slice a k cap) k mk [(.slice A1 (k+1) A2,k+1)]))
    case first=>
     go_region_law (refine jk _ rfl (.tmp 52) (.tmp 56) 24 rfl 93 _ 5 56 underlying24 Tryz.infoCB rfl (by decide) (by decide) u0 _ _ w2.heap.size [.slice A1 (k+1) A2,.int .i64 (-n),.int .i64 0,.int .i64 0,.int .i64 0] (by rfl) (by exact A3.rown.alloc _) (by exact v8 _ _) (by rfl) rfl (by simp[Value.oneCell']) (by first|omega|(simp;omega)) ?_;intro g1 cap1 w1 hown1 hgrow hat hlt;have C4:w1.cell? ⟨O,1,none⟩=some u0:=(ag (cM (ae.alloc _ _).drew hgrow A3.o HV)).trans rfl;have C7:w1.frozen? ⟨O,1,none⟩=false:=aC (cM (ae.alloc _ _).drew hgrow A3.o HV))
     all_goals
      go_wp2_with fail
      go_meet;case rel=>
       have e:([.slice A1 (k+1) A2,.int .i64 (-n),.int .i64 0,.int .i64 0,.int .i64 0]:List Value)=.slice A1 (k+1) A2::mk:=by rw[A0]
       rw[e]at hown1;have h:=A3.push (by decide) (by decide) (by decide) (ae.alloc _ _).drew (x:=.slice A1 (k+1) A2) (idx:=1) hown1 hgrow hat rfl;refine⟨rfl,?_⟩;show ∃ v,bG _ _ _ _ _ _ _ _ _ v _ _ _ _ _;refine⟨.slice (some ⟨g1,0,none⟩) (cb.length+1+1) cap1,?_⟩;simpa using h
    case rest=>
     obtain⟨rfl,HX⟩:=hcut;obtain⟨u1,D5⟩:=id HX;have B8:=ah D5;clear D5 HX m0 m1 m2 m3 o3 y3 B6 B5 HV A3;obtain⟨x1,D8⟩:∃ W,W=wc:=⟨_,rfl⟩;rw[<- D8]at B8 ⊢;clear D8;have C9:=B8.m;rw[A0]at C9;obtain⟨m0,m1,m2,m3⟩:=fP C9;clear C9;go_wp2_with (at_builtin;refine gN _ rfl (.tmp 60) (.tmp 63) 29 rfl 91 _ 4 32 underlying29 Tryz.infoInstr rfl (by decide) (by decide) (.slice a k cap) k 2 (cO mk k) x1.heap.size [.int .i64 (-n),.int .i64 0,.int .i64 0,.int .i64 0,.int .i64 (-n),.int .i64 0,.int .i64 0,.int .i64 0] (by rfl) (by exact B8.lown.alloc _) (by exact v8 _ _) (by rfl) rfl (by simp[Value.oneCell']) (by decide) (by omega) ?_)
     intro v2 w4 hown2 ha2;have A4:Hid (bG w w4 O w.heap.size (fun v=>#[.int .i64 n,v,rv,qv]) 91 93 4 cv u1 (cb++[(.slice a k cap,mk),(.slice A1 (k+1) A2,mk)]) (.slice a k cap) k mk [(.slice A1 (k+1) A2,k+1),(v2,k+2)]):=B8.app (by decide) (by decide) C0 (ae.alloc _ _) (by rw[<- C3.2.1];exact hown2) ha2 (by simp);clear hown2 ha2 m0 m1 m2 m3 B8;go_upto_region 10 with fail
     have hm:=A4.m;rw[A0]at hm;obtain⟨m0,m1,m2,m3⟩:=fP hm;clear hm;have o3:w4.cell? ⟨O,1,none⟩=some u1:=(ag A4.o).trans rfl;have y3:w4.frozen? ⟨O,1,none⟩=false:=aC A4.o;have B6:O<w4.heap.size:=ak A4.o;have B5:w.heap.size<w4.heap.size:=ak A4.m;have HV:Hid (u1.ownBlock≠some O):=fun e=>by obtain⟨C1,hc⟩:=ax A4.rown e;exact aA hc A4.o (by decide) rfl
     obtain⟨A6,A7,B1⟩:=bD (A4.kins (v2,k+2) (by simp)).1;replace B1:v2=.slice A6 (k+2) A7:=B1;subst B1;go_cut [0] (fun r wx=>r=.pointer (some ⟨O,0,none⟩)/\Hid (∃ v,bG w wx O w.heap.size (fun v=>#[.int .i64 n,v,rv,qv]) 91 93 4 cv v (cb++[(.slice a k cap,mk),(.slice A1 (k+1) A2,mk),(.slice A6 (k+2) A7,mk)]) (.slice a k cap) k mk [(.slice A1 (k+1) A2,k+1),(.slice A6 (k+2) A7,k+2)]))
     case first=>
      go_region_law (refine jk _ rfl (.tmp 69) (.tmp 73) 24 rfl 93 _ 5 56 underlying24 Tryz.infoCB rfl (by decide) (by decide) u1 _ _ w4.heap.size [.slice A6 (k+2) A7,.int .i64 (-n),.int .i64 0,.int .i64 0,.int .i64 0] (by rfl) (by exact A4.rown.alloc _) (by exact v8 _ _) (by rfl) rfl (by simp[Value.oneCell']) (by first|omega|(simp;omega)) ?_;intro g1 cap1 w1 hown1 hgrow hat hlt;have C4:w1.cell? ⟨O,1,none⟩=some u1:=(ag (cM (ae.alloc _ _).drew hgrow A4.o HV)).trans rfl;have C7:w1.frozen? ⟨O,1,none⟩=false:=aC (cM (ae.alloc _ _).drew hgrow A4.o HV))
      all_goals
       go_wp2_with fail
       go_meet;case rel=>
        have e:([.slice A6 (k+2) A7,.int .i64 (-n),.int .i64 0,.int .i64 0,.int .i64 0]:List Value)=.slice A6 (k+2) A7::mk:=by rw[A0]
        rw[e]at hown1;have h:=A4.push (by decide) (by decide) (by decide) (ae.alloc _ _).drew (x:=.slice A6 (k+2) A7) (idx:=1) hown1 hgrow hat rfl;refine⟨rfl,?_⟩;show ∃ v,bG _ _ _ _ _ _ _ _ _ v _ _ _ _ _;refine⟨.slice (some ⟨g1,0,none⟩) (cb.length+2+1) cap1,?_⟩;simpa using h
     case rest=>
      obtain⟨rfl,HX⟩:=hcut;obtain⟨u2,D6⟩:=id HX;have B9:=ah D6;clear D6 HX m0 m1 m2 m3 o3 y3 B6 B5 HV A4;obtain⟨x2,D9⟩:∃ W,W=wc:=⟨_,rfl⟩;rw[<- D9]at B9 ⊢;clear D9;have D0:=B9.m;rw[A0]at D0;obtain⟨m0,m1,m2,m3⟩:=fP D0;clear D0;go_wp2_with (at_builtin;refine gN _ rfl (.tmp 77) (.tmp 81) 29 rfl 91 _ 4 32 underlying29 Tryz.infoInstr rfl (by decide) (by decide) (.slice a k cap) k 3 (cO mk k) x2.heap.size [.int .i64 (-n),.int .i64 0,.int .i64 0,.int .i64 0,.int .i64 (-n),.int .i64 0,.int .i64 0,.int .i64 0,.int .i64 (-n),.int .i64 0,.int .i64 0,.int .i64 0] (by rfl) (by exact B9.lown.alloc _) (by exact v8 _ _) (by rfl) rfl (by simp[Value.oneCell']) (by decide) (by omega) ?_)
      intro v3 w6 hown3 ha3;have A5:Hid (bG w w6 O w.heap.size (fun v=>#[.int .i64 n,v,rv,qv]) 91 93 4 cv u2 (cb++[(.slice a k cap,mk),(.slice A1 (k+1) A2,mk),(.slice A6 (k+2) A7,mk)]) (.slice a k cap) k mk [(.slice A1 (k+1) A2,k+1),(.slice A6 (k+2) A7,k+2),(v3,k+3)]):=B9.app (by decide) (by decide) C0 (ae.alloc _ _) (by rw[<- C3.2.2];exact hown3) ha3 (by simp);clear hown3 ha3 m0 m1 m2 m3 B9;go_upto_region 12 with fail
      have hm:=A5.m;rw[A0]at hm;obtain⟨m0,m1,m2,m3⟩:=fP hm;clear hm;have o3:w6.cell? ⟨O,1,none⟩=some u2:=(ag A5.o).trans rfl;have y3:w6.frozen? ⟨O,1,none⟩=false:=aC A5.o;have B6:O<w6.heap.size:=ak A5.o;have B5:w.heap.size<w6.heap.size:=ak A5.m;have HV:Hid (u2.ownBlock≠some O):=fun e=>by obtain⟨C1,hc⟩:=ax A5.rown e;exact aA hc A5.o (by decide) rfl
      obtain⟨B3,B4,B2⟩:=bD (A5.kins (v3,k+3) (by simp)).1;replace B2:v3=.slice B3 (k+3) B4:=B2;subst B2;go_region_law (refine jk _ rfl (.tmp 87) (.tmp 91) 24 rfl 93 _ 5 56 underlying24 Tryz.infoCB rfl (by decide) (by decide) u2 _ _ w6.heap.size [.slice B3 (k+3) B4,.int .i64 (-n),.int .i64 0,.int .i64 0,.int .i64 0] (by rfl) (by exact A5.rown.alloc _) (by exact v8 _ _) (by rfl) rfl (by simp[Value.oneCell']) (by first|omega|(simp;omega)) ?_;intro g1 cap1 w1 hown1 hgrow hat hlt;have C4:w1.cell? ⟨O,1,none⟩=some u2:=(ag (cM (ae.alloc _ _).drew hgrow A5.o HV)).trans rfl;have C7:w1.frozen? ⟨O,1,none⟩=false:=aC (cM (ae.alloc _ _).drew hgrow A5.o HV))
      all_goals
       go_wp2_with fail
       go_end0;have e:([.slice B3 (k+3) B4,.int .i64 (-n),.int .i64 0,.int .i64 0,.int .i64 0]:List Value)=.slice B3 (k+3) B4::mk:=by rw[A0]
       rw[e]at hown1;have h:=A5.push (by decide) (by decide) (by decide) (ae.alloc _ _).drew (x:=.slice B3 (k+3) B4) (idx:=1) hown1 hgrow hat rfl;refine⟨rfl,.slice (some ⟨g1,0,none⟩) (cb.length+3+1) cap1,.slice A1 (k+1) A2,.slice A6 (k+2) A7,.slice B3 (k+3) B4,?_⟩;simpa using h
end Go.Proofs.YtmmmnghiegajmaaGreat
