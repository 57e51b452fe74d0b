import Derived.Test.YtmmmnghiegajmaaGreatM09
set_option maxHeartbeats 8000000
set_option maxRecDepth 20000
open Go.RowKit Go.Proofs.Herald Go.Proofs.Tryz
namespace Go.Proofs.YtmmmnghiegajmaaGreat
theorem AC (O:Nat)(n:Int)(cv rv qv:Value)(qb:List (Value×List Value))(a:Option Addr)(nl cap:Nat)(xs:List Value)(w:World)(hn0:0<=n)(hn1:n<=1000000000)(hnl:nl<=1000000)(hqb:qb.length<=10000000)
  (hO:w.heap[O]?=some (.cells #[.int .i64 n,cv,rv,qv] 28)) (hq:w.ownsRow 0 101 5 qv qb.length (fw qb)) (hl:w.ownsRow 0 87 4 (.slice a nl cap) nl xs):
  Calls prog 82 #[.pointer (some ⟨O,0,none⟩),.slice a nl cap] w fun e w'=>e=.returned (.tuple #[]) /\
   ∃ v v1 v2 v3,bG w w' O w.heap.size (fun v=>#[.int .i64 n,cv,rv,v]) 87 101 4 qv v (qb++[(.slice a nl cap,[.int .i64 0,.int .i64 (-n),.int .i64 0,.int .i64 0]),(v1,[.int .i64 0,.int .i64 (-n),.int .i64 0,.int .i64 0]),(v2,[.int .i64 0,.int .i64 (-n),.int .i64 0,.int .i64 0]),(v3,[.int .i64 0,.int .i64 (-n),.int .i64 0,.int .i64 0])])
    (.slice a nl cap) nl [.int .i64 0,.int .i64 (-n),.int .i64 0,.int .i64 0] [(v1,nl+1),(v2,nl+2),(v3,nl+3)]:=by
 have c0:w.cell? ⟨O,0,none⟩=some (.int .i64 n):=(ag hO).trans rfl;obtain⟨mk,C2⟩:∃ mk:List Value,mk=[.int .i64 0,.int .i64 (-n),.int .i64 0,.int .i64 0]:=⟨_,rfl⟩;have A0:=ah C2;have C0:Hid (mk.length=4):=by show _=_;rw[C2];rfl
 rw[<- C2];have HO:Hid (w.heap[O]?=some (.cells #[.int .i64 n,cv,rv,qv] 28)/\w.ownsRow 0 101 5 qv qb.length (fw qb)/\w.ownsRow 0 87 4 (.slice a nl cap) nl xs):=⟨hO,hq,hl⟩;clear hO hq hl C2;go_enter func82,ntmps82
 go_wp2_with fail
 go_loopw [5] (fun i wr=>∃ (k:Nat) (rest:List Value),k<=nl/\i=.int .i64 k/\rest.length=(nl - k)*4/\Hid (wr.ownsRow 0 87 4 (.slice a nl cap) nl (cO mk k++rest))/\Hid (wr.heap[w.heap.size]?=some (.cells mk.toArray 87))/\Hid (Fr (fun j=>j=O\/qv.ownBlock=some j\/(Value.slice a nl cap).ownBlock=some j) w wr)/\Hid (wr.heap[O]?=some (.cells #[.int .i64 n,cv,rv,qv] 28)/\wr.ownsRow 0 101 5 qv qb.length (fw qb))) (fun i _=>nl - (intOf i).toNat)
 case atStart=>
  refine⟨0,xs,Qa _,rfl,HO.2.2.1,?_,?_,(Fr.refl _ _).alloc _,?_,HO.2.1.alloc _⟩
  .show World.ownsRow _ _ _ _ _ _ ([]++xs);exact HO.2.2.alloc _
  .show _=_;rw[A0];exact v8 _ _
  .rw[q9 _ _ _ (ak HO.1)];exact HO.1
 case round=>
  obtain⟨k,rest,hk,rfl,D1,HL,HM,HF,HR⟩:=hrel;by_cases hlt:k<nl
  .obtain⟨g,E0,hv,_,E4⟩:=HL.form (by omega);simp at hv;obtain⟨rfl,rfl⟩:=hv;obtain⟨r0,r1,r2,r3,A9,rfl,D2⟩:=yy D1 (by omega);have HP:Hid (k*4=(cO mk k).length):=by show _=_;rw[pG,C0]
   obtain⟨e0,e1,e2,e3,z0,z1,z2,z3⟩:=xm HL HP;have hM:=HM.out;rw[A0]at hM;obtain⟨m0,m1,m2,m3⟩:=fP hM;have HS:=qq HL HP (.int .i64 0) (.int .i64 (-n)) (.int .i64 0) (.int .i64 0);have D9:Hid (((((wr.setCell ⟨g,k*4,none⟩ (.int .i64 0)).setCell ⟨g,k*4+1,none⟩ (.int .i64 (-n))).setCell ⟨g,k*4+2,none⟩ (.int .i64 0)).setCell ⟨g,k*4+3,none⟩ (.int .i64 0)).ownsRow 0 87 4 (.slice (some ⟨g,0,none⟩) nl cap) nl (cO mk (k+1)++A9)):=by
    rw[<- A0]at HS;have e:cO mk (k+1)=cO mk k++mk:=by rw[oI];simp[cO]
    rw[e];exact HS
   obtain⟨_,E1,C5⟩:=cS HL (k:=g) rfl;have A8:Hid (O≠g/\w.heap.size≠g/\∀ b,qv.ownBlock=some b->b≠g):=by
    refine⟨aA HR.1 C5 (by decide),fun e=>?_,fun b hb=>?_⟩
    .obtain⟨_,E3,C6⟩:=cS HO.2.2 (k:=g) rfl;have:=ak C6;omega
    .obtain⟨_,cq,E2⟩:=cS HR.2 hb;exact aA E2 C5 (by decide)
   clear C5 hM HS;go_wp2_with fail
   go_roundw;case rel=>
    refine⟨k+1,A9,by omega,by go_num,by rw[D2,show nl - k - 1=nl - (k+1) from by omega],D9,?_,yk HF.out (Or.inr (Or.inr rfl)) _ _ _ _ _,?_,?_⟩
    .show _=_;rw[q8 _ _ _ _ A8.2.1,q8 _ _ _ _ A8.2.1,q8 _ _ _ _ A8.2.1,q8 _ _ _ _ A8.2.1];exact HM
    .rw[q8 _ _ _ _ A8.1,q8 _ _ _ _ A8.1,q8 _ _ _ _ A8.1,q8 _ _ _ _ A8.1];exact HR.1
    .exact eu HR.2 (fun b hb=>by
      have:=A8.2.2 b hb;rw[q8 _ _ _ _ this,q8 _ _ _ _ this,q8 _ _ _ _ this,q8 _ _ _ _ this])
   case measure=>simp[intOf];omega
  .obtain rfl:k=nl:=by omega
   obtain rfl:rest=[]:=List.eq_nil_of_length_eq_zero (by simpa using D1);have HB:Hid (bG w wr O w.heap.size (fun v=>#[.int .i64 n,cv,rv,v]) 87 101 4 qv qv qb (.slice a k cap) k mk []):=by
    refine⟨HR.1,HM,HR.2,fun b hb=>Or.inl hb,?_,fun x hx=>absurd hx (by simp),HF,v9 _,ak HO.1,fun b hb=>?_⟩
    .have h:=HL.out;rw[List.append_nil]at h;exact h
    .obtain⟨_,C1,hc⟩:=cS HO.2.2 hb;exact ak hc
   clear HL HM HF HR D1 hk;have C3:Hid ([.int .i64 0,.int .i64 (-n),.int .i64 0,.int .i64 0]=cO mk 1/\[.int .i64 0,.int .i64 (-n),.int .i64 0,.int .i64 0]++[.int .i64 0,.int .i64 (-n),.int .i64 0,.int .i64 0]=cO mk 2/\[.int .i64 0,.int .i64 (-n),.int .i64 0,.int .i64 0]++([.int .i64 0,.int .i64 (-n),.int .i64 0,.int .i64 0]++[.int .i64 0,.int .i64 (-n),.int .i64 0,.int .i64 0])=cO mk 3):=by rw[A0];exact⟨rfl,rfl,rfl⟩
   go_upto_region 5 with fail
   have hm:=HB.m;rw[A0]at hm;obtain⟨m0,m1,m2,m3⟩:=fP hm;clear hm;have o3:wr.cell? ⟨O,3,none⟩=some qv:=(ag HB.o).trans rfl;have y3:wr.frozen? ⟨O,3,none⟩=false:=aC HB.o;have B6:O<wr.heap.size:=ak HB.o;have B5:w.heap.size<wr.heap.size:=ak HB.m;have HV:Hid (qv.ownBlock≠some O):=fun e=>by obtain⟨C1,hc⟩:=ax HB.rown e;exact aA hc HB.o (by decide) rfl
   go_cut [0] (fun r wx=>r=.pointer (some ⟨O,0,none⟩)/\Hid (∃ v,bG w wx O w.heap.size (fun v=>#[.int .i64 n,cv,rv,v]) 87 101 4 qv v (qb++[(.slice a k cap,mk)]) (.slice a k cap) k mk []))
   case first=>
    go_region_law (refine jk _ rfl (.tmp 29) (.tmp 33) 26 rfl 101 _ 5 56 underlying26 Tryz.infoQB rfl (by decide) (by decide) qv _ _ wr.heap.size [.slice a k cap,.int .i64 0,.int .i64 (-n),.int .i64 0,.int .i64 0] (by rfl) (by exact HB.rown.alloc _) (by exact v8 _ _) (by rfl) rfl (by simp[Value.oneCell']) (by first|omega|(simp;omega)) ?_;intro g1 cap1 w1 hown1 hgrow hat hlt;have C4:w1.cell? ⟨O,3,none⟩=some qv:=(ag (cM (ae.alloc _ _).drew hgrow HB.o HV)).trans rfl;have C7:w1.frozen? ⟨O,3,none⟩=false:=aC (cM (ae.alloc _ _).drew hgrow HB.o HV))
    all_goals
     go_wp2_with fail
     go_meet;case rel=>
      have e:([.slice a k cap,.int .i64 0,.int .i64 (-n),.int .i64 0,.int .i64 0]:List Value)=.slice a k cap::mk:=by rw[A0]
      rw[e]at hown1;have h:=HB.push (by decide) (by decide) (by decide) (ae.alloc _ _).drew (x:=.slice a k cap) (idx:=3) hown1 hgrow hat rfl;refine⟨rfl,?_⟩;show ∃ v,bG _ _ _ _ _ _ _ _ _ v _ _ _ _ _;refine⟨.slice (some ⟨g1,0,none⟩) (qb.length+0+1) cap1,?_⟩;simpa using h
   case rest=>
    obtain⟨rfl,HX⟩:=hcut;obtain⟨u0,D3⟩:=id HX;have B7:=ah D3;clear D3 HX m0 m1 m2 m3 o3 y3 B6 B5 HV HB;obtain⟨x0,D6⟩:∃ W,W=wc:=⟨_,rfl⟩;rw[<- D6]at B7 ⊢;clear D6;have C8:=B7.m;rw[A0]at C8;obtain⟨m0,m1,m2,m3⟩:=fP C8;clear C8;go_wp2_with (at_builtin;refine gN _ rfl (.tmp 37) (.tmp 39) 99 rfl 87 _ 4 32 underlying99 Tryz.infoMsg rfl (by decide) (by decide) (.slice a k cap) k 1 (cO mk k) x0.heap.size [.int .i64 0,.int .i64 (-n),.int .i64 0,.int .i64 0] (by rfl) (by exact B7.lown.alloc _) (by exact v8 _ _) (by rfl) rfl (by simp[Value.oneCell']) (by decide) (by omega) ?_)
    intro v1 w2 hown1 ha1;have A3:Hid (bG w w2 O w.heap.size (fun v=>#[.int .i64 n,cv,rv,v]) 87 101 4 qv u0 (qb++[(.slice a k cap,mk)]) (.slice a k cap) k mk [(v1,k+1)]):=B7.app (by decide) (by decide) C0 (ae.alloc _ _) (by rw[<- C3.1];exact hown1) ha1 (by simp);clear hown1 ha1 m0 m1 m2 m3 B7;go_upto_region 7 with fail
    have hm:=A3.m;rw[A0]at hm;obtain⟨m0,m1,m2,m3⟩:=fP hm;clear hm;have o3:w2.cell? ⟨O,3,none⟩=some u0:=(ag A3.o).trans rfl;have y3:w2.frozen? ⟨O,3,none⟩=false:=aC A3.o;have B6:O<w2.heap.size:=ak A3.o;have B5:w.heap.size<w2.heap.size:=ak A3.m;have HV:Hid (u0.ownBlock≠some O):=fun e=>by obtain⟨C1,hc⟩:=ax A3.rown e;exact aA hc A3.o (by decide) rfl
    obtain⟨A1,A2,B0⟩:=bD (A3.kins (v1,k+1) (by simp)).1;replace B0:v1=.slice A1 (k+1) A2:=B0;subst B0;go_cut [0] (fun r wx=>r=.pointer (some ⟨O,0,none⟩)/\Hid (∃ v,bG w wx O w.heap.size (fun v=>#[.int .i64 n,cv,rv,v]) 87 101 4 qv v (qb++[(.slice a k cap,mk),(.slice A1 (k+1) A2,mk)]) (.slice a k cap) k mk [(.slice A1 (k+1) A2,k+1)]))
    case first=>
     go_region_law (refine jk _ rfl (.tmp 45) (.tmp 49) 26 rfl 101 _ 5 56 underlying26 Tryz.infoQB rfl (by decide) (by decide) u0 _ _ w2.heap.size [.slice A1 (k+1) A2,.int .i64 0,.int .i64 (-n),.int .i64 0,.int .i64 0] (by rfl) (by exact A3.rown.alloc _) (by exact v8 _ _) (by rfl) rfl (by simp[Value.oneCell']) (by first|omega|(simp;omega)) ?_;intro g1 cap1 w1 hown1 hgrow hat hlt;have C4:w1.cell? ⟨O,3,none⟩=some u0:=(ag (cM (ae.alloc _ _).drew hgrow A3.o HV)).trans rfl;have C7:w1.frozen? ⟨O,3,none⟩=false:=aC (cM (ae.alloc _ _).drew hgrow A3.o HV))
     all_goals
      go_wp2_with fail
      go_meet;case rel=>
       have e:([.slice A1 (k+1) A2,.int .i64 0,.int .i64 (-n),.int .i64 0,.int .i64 0]:List Value)=.slice A1 (k+1) A2::mk:=by rw[A0]
       rw[e]at hown1;have h:=A3.push (by decide) (by decide) (by decide) (ae.alloc _ _).drew (x:=.slice A1 (k+1) A2) (idx:=3) hown1 hgrow hat rfl;refine⟨rfl,?_⟩;show ∃ v,bG _ _ _ _ _ _ _ _ _ v _ _ _ _ _;refine⟨.slice (some ⟨g1,0,none⟩) (qb.length+1+1) cap1,?_⟩;simpa using h
    case rest=>
     obtain⟨rfl,HX⟩:=hcut;obtain⟨u1,D4⟩:=id HX;have B8:=ah D4;clear D4 HX m0 m1 m2 m3 o3 y3 B6 B5 HV A3;obtain⟨x1,D7⟩:∃ W,W=wc:=⟨_,rfl⟩;rw[<- D7]at B8 ⊢;clear D7;have C9:=B8.m;rw[A0]at C9;obtain⟨m0,m1,m2,m3⟩:=fP C9;clear C9;go_wp2_with (at_builtin;refine gN _ rfl (.tmp 53) (.tmp 56) 99 rfl 87 _ 4 32 underlying99 Tryz.infoMsg rfl (by decide) (by decide) (.slice a k cap) k 2 (cO mk k) x1.heap.size [.int .i64 0,.int .i64 (-n),.int .i64 0,.int .i64 0,.int .i64 0,.int .i64 (-n),.int .i64 0,.int .i64 0] (by rfl) (by exact B8.lown.alloc _) (by exact v8 _ _) (by rfl) rfl (by simp[Value.oneCell']) (by decide) (by omega) ?_)
     intro v2 w4 hown2 ha2;have A4:Hid (bG w w4 O w.heap.size (fun v=>#[.int .i64 n,cv,rv,v]) 87 101 4 qv u1 (qb++[(.slice a k cap,mk),(.slice A1 (k+1) A2,mk)]) (.slice a k cap) k mk [(.slice A1 (k+1) A2,k+1),(v2,k+2)]):=B8.app (by decide) (by decide) C0 (ae.alloc _ _) (by rw[<- C3.2.1];exact hown2) ha2 (by simp);clear hown2 ha2 m0 m1 m2 m3 B8;go_upto_region 9 with fail
     have hm:=A4.m;rw[A0]at hm;obtain⟨m0,m1,m2,m3⟩:=fP hm;clear hm;have o3:w4.cell? ⟨O,3,none⟩=some u1:=(ag A4.o).trans rfl;have y3:w4.frozen? ⟨O,3,none⟩=false:=aC A4.o;have B6:O<w4.heap.size:=ak A4.o;have B5:w.heap.size<w4.heap.size:=ak A4.m;have HV:Hid (u1.ownBlock≠some O):=fun e=>by obtain⟨C1,hc⟩:=ax A4.rown e;exact aA hc A4.o (by decide) rfl
     obtain⟨A6,A7,B1⟩:=bD (A4.kins (v2,k+2) (by simp)).1;replace B1:v2=.slice A6 (k+2) A7:=B1;subst B1;go_cut [0] (fun r wx=>r=.pointer (some ⟨O,0,none⟩)/\Hid (∃ v,bG w wx O w.heap.size (fun v=>#[.int .i64 n,cv,rv,v]) 87 101 4 qv v (qb++[(.slice a k cap,mk),(.slice A1 (k+1) A2,mk),(.slice A6 (k+2) A7,mk)]) (.slice a k cap) k mk [(.slice A1 (k+1) A2,k+1),(.slice A6 (k+2) A7,k+2)]))
     case first=>
      go_region_law (refine jk _ rfl (.tmp 62) (.tmp 66) 26 rfl 101 _ 5 56 underlying26 Tryz.infoQB rfl (by decide) (by decide) u1 _ _ w4.heap.size [.slice A6 (k+2) A7,.int .i64 0,.int .i64 (-n),.int .i64 0,.int .i64 0] (by rfl) (by exact A4.rown.alloc _) (by exact v8 _ _) (by rfl) rfl (by simp[Value.oneCell']) (by first|omega|(simp;omega)) ?_;intro g1 cap1 w1 hown1 hgrow hat hlt;have C4:w1.cell? ⟨O,3,none⟩=some u1:=(ag (cM (ae.alloc _ _).drew hgrow A4.o HV)).trans rfl;have C7:w1.frozen? ⟨O,3,none⟩=false:=aC (cM (ae.alloc _ _).drew hgrow A4.o HV))
      all_goals
       go_wp2_with fail
       go_meet;case rel=>
        have e:([.slice A6 (k+2) A7,.int .i64 0,.int .i64 (-n),.int .i64 0,.int .i64 0]:List Value)=.slice A6 (k+2) A7::mk:=by rw[A0]
        rw[e]at hown1;have h:=A4.push (by decide) (by decide) (by decide) (ae.alloc _ _).drew (x:=.slice A6 (k+2) A7) (idx:=3) hown1 hgrow hat rfl;refine⟨rfl,?_⟩;show ∃ v,bG _ _ _ _ _ _ _ _ _ v _ _ _ _ _;refine⟨.slice (some ⟨g1,0,none⟩) (qb.length+2+1) cap1,?_⟩;simpa using h
     case rest=>
      obtain⟨rfl,HX⟩:=hcut;obtain⟨u2,D5⟩:=id HX;have B9:=ah D5;clear D5 HX m0 m1 m2 m3 o3 y3 B6 B5 HV A4;obtain⟨x2,D8⟩:∃ W,W=wc:=⟨_,rfl⟩;rw[<- D8]at B9 ⊢;clear D8;have D0:=B9.m;rw[A0]at D0;obtain⟨m0,m1,m2,m3⟩:=fP D0;clear D0;go_wp2_with (at_builtin;refine gN _ rfl (.tmp 70) (.tmp 74) 99 rfl 87 _ 4 32 underlying99 Tryz.infoMsg rfl (by decide) (by decide) (.slice a k cap) k 3 (cO mk k) x2.heap.size [.int .i64 0,.int .i64 (-n),.int .i64 0,.int .i64 0,.int .i64 0,.int .i64 (-n),.int .i64 0,.int .i64 0,.int .i64 0,.int .i64 (-n),.int .i64 0,.int .i64 0] (by rfl) (by exact B9.lown.alloc _) (by exact v8 _ _) (by rfl) rfl (by simp[Value.oneCell']) (by decide) (by omega) ?_)
      intro v3 w6 hown3 ha3;have A5:Hid (bG w w6 O w.heap.size (fun v=>#[.int .i64 n,cv,rv,v]) 87 101 4 qv u2 (qb++[(.slice a k cap,mk),(.slice A1 (k+1) A2,mk),(.slice A6 (k+2) A7,mk)]) (.slice a k cap) k mk [(.slice A1 (k+1) A2,k+1),(.slice A6 (k+2) A7,k+2),(v3,k+3)]):=B9.app (by decide) (by decide) C0 (ae.alloc _ _) (by rw[<- C3.2.2];exact hown3) ha3 (by simp);clear hown3 ha3 m0 m1 m2 m3 B9;go_upto_region 11 with fail
      have hm:=A5.m;rw[A0]at hm;obtain⟨m0,m1,m2,m3⟩:=fP hm;clear hm;have o3:w6.cell? ⟨O,3,none⟩=some u2:=(ag A5.o).trans rfl;have y3:w6.frozen? ⟨O,3,none⟩=false:=aC A5.o;have B6:O<w6.heap.size:=ak A5.o;have B5:w.heap.size<w6.heap.size:=ak A5.m;have HV:Hid (u2.ownBlock≠some O):=fun e=>by obtain⟨C1,hc⟩:=ax A5.rown e;exact aA hc A5.o (by decide) rfl
      obtain⟨B3,B4,B2⟩:=bD (A5.kins (v3,k+3) (by simp)).1;replace B2:v3=.slice B3 (k+3) B4:=B2;subst B2;go_region_law (refine jk _ rfl (.tmp 80) (.tmp 84) 26 rfl 101 _ 5 56 underlying26 Tryz.infoQB rfl (by decide) (by decide) u2 _ _ w6.heap.size [.slice B3 (k+3) B4,.int .i64 0,.int .i64 (-n),.int .i64 0,.int .i64 0] (by rfl) (by exact A5.rown.alloc _) (by exact v8 _ _) (by rfl) rfl (by simp[Value.oneCell']) (by first|omega|(simp;omega)) ?_;intro g1 cap1 w1 hown1 hgrow hat hlt;have C4:w1.cell? ⟨O,3,none⟩=some u2:=(ag (cM (ae.alloc _ _).drew hgrow A5.o HV)).trans rfl;have C7:w1.frozen? ⟨O,3,none⟩=false:=aC (cM (ae.alloc _ _).drew hgrow A5.o HV))
      all_goals
       go_wp2_with fail
       go_end0;have e:([.slice B3 (k+3) B4,.int .i64 0,.int .i64 (-n),.int .i64 0,.int .i64 0]:List Value)=.slice B3 (k+3) B4::mk:=by rw[A0]
       rw[e]at hown1;have h:=A5.push (by decide) (by decide) (by decide) (ae.alloc _ _).drew (x:=.slice B3 (k+3) B4) (idx:=3) hown1 hgrow hat rfl;refine⟨rfl,.slice (some ⟨g1,0,none⟩) (qb.length+3+1) cap1,.slice A1 (k+1) A2,.slice A6 (k+2) A7,.slice B3 (k+3) B4,?_⟩;simpa using h
theorem Tryz.infoRB:(prog.info? 98).map (fun i=>(i.zero,i.size,i.bytes))=some (some (.agg #[.slice none 0 0,.int .i64 0,.int .i64 0,.int .i64 0,.int .i64 0,.int .i64 0]),6,64):=by kernel_rfl
theorem Tryz.infoRun:(prog.info? 96).map (fun i=>(i.zero,i.size,i.bytes))=some (some (.agg #[.int .i64 0,.int .i64 0,.int .i64 0,.int .i64 0,.int .i64 0]),5,40):=by kernel_rfl
theorem Gn {A:List Value}{r0 r1 r2 r3 r4:Value}{rest:List Value}(u0 u1 u2 u3 u4:Value)(k:Nat)(hk:k=A.length):
  (((((A++r0::r1::r2::r3::r4::rest).set k u0).set (k+1) u1).set (k+2) u2).set (k+3) u3).set (k+4) u4=A++[u0,u1,u2,u3,u4]++rest:=by
 subst hk;simp[Nat.add_sub_cancel_left]
theorem EK {w:World}{B:Nat}{e:TypeId}{size n g cap p:Nat}{A rest:List Value}{r0 r1 r2 r3 r4:Value}(h:w.ownsRow B e size (.slice (some ⟨g,0,none⟩) n cap) n (A++r0::r1::r2::r3::r4::rest))(hp:p=A.length)(u0 u1 u2 u3 u4:Value):
  (((((w.setCell ⟨g,p,none⟩ u0).setCell ⟨g,p+1,none⟩ u1).setCell ⟨g,p+2,none⟩ u2).setCell ⟨g,p+3,none⟩ u3).setCell ⟨g,p+4,none⟩ u4).ownsRow B e size (.slice (some ⟨g,0,none⟩) n cap) n (A++[u0,u1,u2,u3,u4]++rest):=by
 have h4:=iX (iX (iX (iX (iX h p u0) (p+1) u1) (p+2) u2) (p+3) u3) (p+4) u4;rw[Gn u0 u1 u2 u3 u4 p hp]at h4;exact h4
theorem DA {w:World}{B:Nat}{e:TypeId}{size n g cap p:Nat}{A rest:List Value}{r0 r1 r2 r3 r4:Value}(h:w.ownsRow B e size (.slice (some ⟨g,0,none⟩) n cap) n (A++r0::r1::r2::r3::r4::rest))(hp:p=A.length):
  w.cell? ⟨g,p,none⟩=some r0/\w.cell? ⟨g,p+1,none⟩=some r1/\w.cell? ⟨g,p+2,none⟩=some r2/\w.cell? ⟨g,p+3,none⟩=some r3/\w.cell? ⟨g,p+4,none⟩=some r4/\w.frozen? ⟨g,p,none⟩=false/\w.frozen? ⟨g,p+1,none⟩=false/\w.frozen? ⟨g,p+2,none⟩=false/\w.frozen? ⟨g,p+3,none⟩=false/\w.frozen? ⟨g,p+4,none⟩=false:=by
 subst hp;have k0:=eW h A.length r0 (by simp);have k1:=eW h (A.length+1) r1 (by simp);have k2:=eW h (A.length+2) r2 (by simp);have k3:=eW h (A.length+3) r3 (by simp);have k4:=eW h (A.length+4) r4 (by simp);exact⟨k0.1,k1.1,k2.1,k3.1,k4.1,k0.2,k1.2,k2.2,k3.2,k4.2⟩
theorem Gl {l:List Value}{n:Nat}(h:l.length=n*5)(hn:0<n):∃ r0 r1 r2 r3 r4 rest,l=r0::r1::r2::r3::r4::rest/\rest.length=(n - 1)*5:=by
 match l,h with
 | r0::r1::r2::r3::r4::rest,h=>exact⟨r0,r1,r2,r3,r4,rest,rfl,by simp at h;omega⟩
 | [],h=>simp at h;omega
 | [_],h=>simp at h;omega
 | [_,_],h=>simp at h;omega
 | [_,_,_],h=>simp at h;omega
 | [_,_,_,_],h=>simp at h;omega
theorem jp {w:World}{M:Nat}{e:TypeId}{u0 u1 u2 u3 u4:Value}(h:w.heap[M]?=some (.cells [u0,u1,u2,u3,u4].toArray e (0,0))):
  w.cell? ⟨M,0,none⟩=some u0/\w.cell? ⟨M,1,none⟩=some u1/\w.cell? ⟨M,2,none⟩=some u2/\w.cell? ⟨M,3,none⟩=some u3/\w.cell? ⟨M,4,none⟩=some u4:=
 ⟨(ag h).trans rfl,(ag h).trans rfl,(ag h).trans rfl,(ag h).trans rfl,(ag h).trans rfl⟩
theorem EA {S:Nat->Prop}{w0 w:World}(h:Fr S w0 w){g:Nat}(hg:S g)(p:Nat)(u0 u1 u2 u3 u4:Value):Fr S w0 (((((w.setCell ⟨g,p,none⟩ u0).setCell ⟨g,p+1,none⟩ u1).setCell ⟨g,p+2,none⟩ u2).setCell ⟨g,p+3,none⟩ u3).setCell ⟨g,p+4,none⟩ u4):=
 ((((h.setCell ⟨g,p,none⟩ (Or.inl hg) _).setCell ⟨g,p+1,none⟩ (Or.inl hg) _).setCell ⟨g,p+2,none⟩ (Or.inl hg) _).setCell ⟨g,p+3,none⟩ (Or.inl hg) _).setCell ⟨g,p+4,none⟩ (Or.inl hg) _
theorem EX (O:Nat)(n now:Int)(cv rv qv:Value)(rb qb:List (Value×List Value))(a:Option Addr)(nl cap:Nat)(xs:List Value)(aq:Option Addr)(nq capq:Nat)(xq:List Value)(w:World)(hn0:0<=n)(hn1:n<=900000000)(hnl:nl<=1000000)(hnq:nq<=1000000)(hrb:rb.length<=10000000)(hqb:qb.length<=10000000)
  (hO:w.heap[O]?=some (.cells #[.int .i64 n,cv,rv,qv] 28)) (hr:w.ownsRow 0 98 6 rv rb.length (fw rb)) (hq:w.ownsRow 0 101 5 qv qb.length (fw qb)) (hl:w.ownsRow 0 96 5 (.slice a nl cap) nl xs) (hlq:w.ownsRow 0 87 4 (.slice aq nq capq) nq xq):
  Calls prog 47 #[.pointer (some ⟨O,0,none⟩),.agg #[.int .i64 now,.slice a nl cap,.slice aq nq capq]] w fun e w'=>e=.returned (.tuple #[]) /\
   ∃ wm u v1 v2 v3 v v4 v5 v6,bG ((w.setCell ⟨O,0,none⟩ (.int .i64 (n+1))).alloc (.cells #[.int .i64 now,.slice a nl cap,.slice aq nq capq] 103)) wm O (w.heap.size+1) (fun v=>#[.int .i64 (n+1),cv,v,qv]) 96 98 5 rv u (rb++[(.slice a nl cap,[.int .i64 (-(n+1)),.int .i64 0,.int .i64 0,.int .i64 0,.int .i64 0]),(v1,[.int .i64 (-(n+1)),.int .i64 0,.int .i64 0,.int .i64 0,.int .i64 0]),(v2,[.int .i64 (-(n+1)),.int .i64 0,.int .i64 0,.int .i64 0,.int .i64 0]),(v3,[.int .i64 (-(n+1)),.int .i64 0,.int .i64 0,.int .i64 0,.int .i64 0])]) (.slice a nl cap) nl [.int .i64 (-(n+1)),.int .i64 0,.int .i64 0,.int .i64 0,.int .i64 0] [(v1,nl+1),(v2,nl+2),(v3,nl+3)] /\
    bG wm w' O wm.heap.size (fun v=>#[.int .i64 (n+1),cv,u,v]) 87 101 4 qv v (qb++[(.slice aq nq capq,[.int .i64 0,.int .i64 (-(n+1)),.int .i64 0,.int .i64 0]),(v4,[.int .i64 0,.int .i64 (-(n+1)),.int .i64 0,.int .i64 0]),(v5,[.int .i64 0,.int .i64 (-(n+1)),.int .i64 0,.int .i64 0]),(v6,[.int .i64 0,.int .i64 (-(n+1)),.int .i64 0,.int .i64 0])])
     (.slice aq nq capq) nq [.int .i64 0,.int .i64 (-(n+1)),.int .i64 0,.int .i64 0] [(v4,nq+1),(v5,nq+2),(v6,nq+3)]:=by
 have c0:w.cell? ⟨O,0,none⟩=some (.int .i64 n):=(ag hO).trans rfl;have z0:w.frozen? ⟨O,0,none⟩=false:=aC hO;have E9:=ak hO;obtain⟨mk,C5⟩:∃ mk:List Value,mk=[.int .i64 (-(n+1)),.int .i64 0,.int .i64 0,.int .i64 0,.int .i64 0]:=⟨_,rfl⟩;have A1:=ah C5;have C4:Hid (mk.length=5):=by show _=_;rw[C5];rfl
 rw[<- C5];obtain⟨w0,B9⟩:∃ W,W=((w.setCell ⟨O,0,none⟩ (.int .i64 (n+1))).alloc (.cells #[.int .i64 now,.slice a nl cap,.slice aq nq capq] 103)):=⟨_,rfl⟩;rw[<- B9];have hs0:w0.heap.size=w.heap.size+1:=by rw[B9];simp[World.setCell]
 have B1:∀ {b:Nat} {A0:Array Value} {e:TypeId},w.heap[b]?=some (.cells A0 e (0,0))->e≠28->w0.heap[b]?=some (.cells A0 e (0,0)):=fun {b A0 e} hb he=>by
  rw[B9,q9 _ _ _ (by simp[World.setCell];exact ak hb),q8 _ _ _ _ (aA hb hO he)];exact hb
 have HO:Hid (w0.heap[O]?=some (.cells #[.int .i64 (n+1),cv,rv,qv] 28)/\w0.ownsRow 0 98 6 rv rb.length (fw rb)/\w0.ownsRow 0 96 5 (.slice a nl cap) nl xs/\w0.ownsRow 0 101 5 qv qb.length (fw qb)/\w0.ownsRow 0 87 4 (.slice aq nq capq) nq xq/\w0.heap[w.heap.size]?=some (.cells #[.int .i64 now,.slice a nl cap,.slice aq nq capq] 103)/\(∀ b,(Value.slice a nl cap).ownBlock=some b->b<w.heap.size)/\(∀ b,rv.ownBlock=some b->b<w.heap.size)):=by
  refine⟨?_,aT hr fun b hb=>?_,aT hl fun b hb=>?_,aT hq fun b hb=>?_,aT hlq fun b hb=>?_,?_,fun b hb=>?_,fun b hb=>?_⟩
  .rw[B9,q9 _ _ _ (by simp[World.setCell];exact ak hO),cG _ hO];rfl
  .obtain⟨A0,hc⟩:=ax hr hb;rw[B1 hc (by decide),hc]
  .obtain⟨A0,hc⟩:=ax hl hb;rw[B1 hc (by decide),hc]
  .obtain⟨A0,hc⟩:=ax hq hb;rw[B1 hc (by decide),hc]
  .obtain⟨A0,hc⟩:=ax hlq hb;rw[B1 hc (by decide),hc]
  .rw[B9];exact jj _ _ _ (by simp[World.setCell])
  .obtain⟨A0,hc⟩:=ax hl hb;exact ak hc
  .obtain⟨A0,hc⟩:=ax hr hb;exact ak hc
 clear hO hr hl hq hlq C5 B1;have HK:Hid (∀ W:World,Fr (fun j=>j=O\/rv.ownBlock=some j\/(Value.slice a nl cap).ownBlock=some j) w0 W->W.heap[w.heap.size]?=some (.cells #[.int .i64 now,.slice a nl cap,.slice aq nq capq] 103)/\W.ownsRow 0 101 5 qv qb.length (fw qb)/\W.ownsRow 0 87 4 (.slice aq nq capq) nq xq):=fun W hW=>by
  have keep:∀ {b:Nat} {A0:Array Value} {e:TypeId},w0.heap[b]?=some (.cells A0 e (0,0))->e≠28->e≠98->e≠96->W.heap[b]?=some (.cells A0 e (0,0)):=fun {b A0 e} hb h1 h2 h3=>by
   rw[hW.block b (ak hb) (fun h=>?_)]
   .exact hb
   .rcases h with rfl|h|h
    .exact aA hb HO.1 h1 rfl
    .obtain⟨c,hc⟩:=ax HO.2.1 h;exact aA hb hc h2 rfl
    .obtain⟨c,hc⟩:=ax HO.2.2.1 h;exact aA hb hc h3 rfl
  refine⟨keep HO.2.2.2.2.2.1 (by decide) (by decide) (by decide),aT HO.2.2.2.1 fun b hb=>?_,aT HO.2.2.2.2.1 fun b hb=>?_⟩
  .obtain⟨c,hc⟩:=ax HO.2.2.2.1 hb;rw[keep hc (by decide) (by decide) (by decide),hc]
  .obtain⟨c,hc⟩:=ax HO.2.2.2.2.1 hb;rw[keep hc (by decide) (by decide) (by decide),hc]
 have E5:=ah B9;have C7:=ah hs0;clear hs0 B9;go_enter func47,ntmps47
 go_wp2_with fail
 rw[<- E5];clear c0 z0;go_loopw [5] (fun i wr=>∃ (k:Nat) (rest:List Value),k<=nl/\i=.int .i64 k/\rest.length=(nl - k)*5/\Hid (wr.ownsRow 0 96 5 (.slice a nl cap) nl (cO mk k++rest))/\Hid (wr.heap[w.heap.size+1]?=some (.cells mk.toArray 96))/\Hid (Fr (fun j=>j=O\/rv.ownBlock=some j\/(Value.slice a nl cap).ownBlock=some j) w0 wr)/\Hid (wr.heap[O]?=some (.cells #[.int .i64 (n+1),cv,rv,qv] 28)/\wr.ownsRow 0 98 6 rv rb.length (fw rb))) (fun i _=>nl - (intOf i).toNat)
 case atStart=>
  refine⟨0,xs,Qa _,rfl,HO.2.2.1.1,?_,?_,(Fr.refl _ _).alloc _,?_,HO.2.1.alloc _⟩
  .show World.ownsRow _ _ _ _ _ _ ([]++xs);exact HO.2.2.1.alloc _
  .show _=_;rw[A1];exact jj _ _ _ C7
  .rw[q9 _ _ _ (ak HO.1)];exact HO.1
 case round=>
  obtain⟨k,rest,hk,rfl,D4,HL,HM,HF,HR⟩:=hrel;have p1:wr.cell? ⟨w.heap.size,1,none⟩=some (.slice a nl cap):=(ag (HK _ HF).1).trans rfl;by_cases hlt:k<nl
  .obtain⟨g,E6,hv,_,F0⟩:=HL.form (by omega);simp at hv;obtain⟨rfl,rfl⟩:=hv;obtain⟨r0,r1,r2,r3,r4,B2,rfl,D5⟩:=Gl D4 (by omega);have HP:Hid (k*5=(cO mk k).length):=by show _=_;rw[pG,C4]
   obtain⟨e0,e1,e2,e3,e4,y0,y1,y2,y3,y4⟩:=DA HL HP;have hM:=HM.out;rw[A1]at hM;obtain⟨m0,m1,m2,m3,m4⟩:=jp hM;have HS:=EK HL HP (.int .i64 (-(n+1))) (.int .i64 0) (.int .i64 0) (.int .i64 0) (.int .i64 0);have E4:Hid ((((((wr.setCell ⟨g,k*5,none⟩ (.int .i64 (-(n+1)))).setCell ⟨g,k*5+1,none⟩ (.int .i64 0)).setCell ⟨g,k*5+2,none⟩ (.int .i64 0)).setCell ⟨g,k*5+3,none⟩ (.int .i64 0)).setCell ⟨g,k*5+4,none⟩ (.int .i64 0)).ownsRow 0 96 5 (.slice (some ⟨g,0,none⟩) nl cap) nl (cO mk (k+1)++B2)):=by
    rw[<- A1]at HS;have e:cO mk (k+1)=cO mk k++mk:=by rw[oI];simp[cO]
    rw[e];exact HS
   obtain⟨_,E7,C9⟩:=cS HL (k:=g) rfl;have A8:Hid (O≠g/\w.heap.size+1≠g/\∀ b,rv.ownBlock=some b->b≠g):=by
    refine⟨aA HR.1 C9 (by decide),fun e=>?_,fun b hb=>?_⟩
    .have:=HO.2.2.2.2.2.2.1 g rfl;omega
    .obtain⟨_,cq,E8⟩:=cS HR.2 hb;exact aA E8 C9 (by decide)
   clear C9 hM HS;go_wp2_with fail
   go_roundw;case rel=>
    refine⟨k+1,B2,by omega,by go_num,by rw[D5,show nl - k - 1=nl - (k+1) from by omega],E4,?_,EA HF.out (Or.inr (Or.inr rfl)) _ _ _ _ _ _,?_,?_⟩
    .show _=_;rw[q8 _ _ _ _ A8.2.1,q8 _ _ _ _ A8.2.1,q8 _ _ _ _ A8.2.1,q8 _ _ _ _ A8.2.1,q8 _ _ _ _ A8.2.1];exact HM
    .rw[q8 _ _ _ _ A8.1,q8 _ _ _ _ A8.1,q8 _ _ _ _ A8.1,q8 _ _ _ _ A8.1,q8 _ _ _ _ A8.1];exact HR.1
    .exact eu HR.2 (fun b hb=>by
      have:=A8.2.2 b hb;rw[q8 _ _ _ _ this,q8 _ _ _ _ this,q8 _ _ _ _ this,q8 _ _ _ _ this,q8 _ _ _ _ this])
   case measure=>simp[intOf];omega
  .obtain rfl:k=nl:=by omega
   obtain rfl:rest=[]:=List.eq_nil_of_length_eq_zero (by simpa using D4);have HB:Hid (bG w0 wr O (w.heap.size+1) (fun v=>#[.int .i64 (n+1),cv,v,qv]) 96 98 5 rv rv rb (.slice a k cap) k mk []):=by
    refine⟨HR.1,HM,HR.2,fun b hb=>Or.inl hb,?_,fun x hx=>absurd hx (by simp),HF,by rw[C7];exact v9 _,ak HO.1,fun b hb=>?_⟩
    .have h:=HL.out;rw[List.append_nil]at h;exact h
    .have:=HO.2.2.2.2.2.2.1 b hb;have:=C7.out;omega
   clear HL HM HF HR D4 hk;have C6:Hid ([.int .i64 (-(n+1)),.int .i64 0,.int .i64 0,.int .i64 0,.int .i64 0]=cO mk 1/\[.int .i64 (-(n+1)),.int .i64 0,.int .i64 0,.int .i64 0,.int .i64 0]++[.int .i64 (-(n+1)),.int .i64 0,.int .i64 0,.int .i64 0,.int .i64 0]=cO mk 2/\[.int .i64 (-(n+1)),.int .i64 0,.int .i64 0,.int .i64 0,.int .i64 0]++([.int .i64 (-(n+1)),.int .i64 0,.int .i64 0,.int .i64 0,.int .i64 0]++[.int .i64 (-(n+1)),.int .i64 0,.int .i64 0,.int .i64 0,.int .i64 0])=cO mk 3):=by rw[A1];exact⟨rfl,rfl,rfl⟩
   go_upto_region 7 with fail
   have hm:=HB.m;rw[A1]at hm;obtain⟨m0,m1,m2,m3,m4⟩:=jp hm;clear hm;have o3:wr.cell? ⟨O,2,none⟩=some rv:=(ag HB.o).trans rfl;have y3:wr.frozen? ⟨O,2,none⟩=false:=aC HB.o;have A4:O<wr.heap.size:=ak HB.o;have B5:w.heap.size+1<wr.heap.size:=ak HB.m;have HV:Hid (rv.ownBlock≠some O):=fun e=>by obtain⟨A0,hc⟩:=ax HB.rown e;exact aA hc HB.o (by decide) rfl
   go_cut [0] (fun r wx=>r=.pointer (some ⟨O,0,none⟩)/\Hid (∃ v,bG w0 wx O (w.heap.size+1) (fun v=>#[.int .i64 (n+1),cv,v,qv]) 96 98 5 rv v (rb++[(.slice a k cap,mk)]) (.slice a k cap) k mk []))
   case first=>
    go_region_law (refine jk _ rfl (.tmp 38) (.tmp 43) 25 rfl 98 _ 6 64 underlying25 Tryz.infoRB rfl (by decide) (by decide) rv _ _ wr.heap.size [.slice a k cap,.int .i64 (-(n+1)),.int .i64 0,.int .i64 0,.int .i64 0,.int .i64 0] (by rfl) (by exact HB.rown.alloc _) (by exact v8 _ _) (by rfl) rfl (by simp[Value.oneCell']) (by first|omega|(simp;omega)) ?_;intro g1 cap1 w1 hown1 hgrow hat hlt;have C8:w1.cell? ⟨O,2,none⟩=some rv:=(ag (cM (ae.alloc _ _).drew hgrow HB.o HV)).trans rfl;have D0:w1.frozen? ⟨O,2,none⟩=false:=aC (cM (ae.alloc _ _).drew hgrow HB.o HV))
    all_goals
     go_wp2_with fail
     go_meet;case rel=>
      have e:([.slice a k cap,.int .i64 (-(n+1)),.int .i64 0,.int .i64 0,.int .i64 0,.int .i64 0]:List Value)=.slice a k cap::mk:=by rw[A1]
      rw[e]at hown1;have h:=HB.push (by decide) (by decide) (by decide) (ae.alloc _ _).drew (x:=.slice a k cap) (idx:=2) hown1 hgrow hat rfl;refine⟨rfl,?_⟩;show ∃ v,bG _ _ _ _ _ _ _ _ _ v _ _ _ _ _;refine⟨.slice (some ⟨g1,0,none⟩) (rb.length+0+1) cap1,?_⟩;simpa using h
   case rest=>
    obtain⟨rfl,HX⟩:=hcut;obtain⟨u0,D6⟩:=id HX;have C0:=ah D6;clear D6 HX m0 m1 m2 m3 m4 p1 o3 y3 A4 B5 HV HB;obtain⟨x0,E0⟩:∃ W,W=wc:=⟨_,rfl⟩;rw[<- E0]at C0 ⊢;clear E0;have D1:=C0.m;rw[A1]at D1;obtain⟨m0,m1,m2,m3,m4⟩:=jp D1;clear D1;have p1:x0.cell? ⟨w.heap.size,1,none⟩=some (.slice a k cap):=(ag (HK _ C0.fr).1).trans rfl;go_wp2_with (at_builtin;refine gN _ rfl (.tmp 48) (.tmp 50) 94 rfl 96 _ 5 40 underlying94 Tryz.infoRun rfl (by decide) (by decide) (.slice a k cap) k 1 (cO mk k) x0.heap.size [.int .i64 (-(n+1)),.int .i64 0,.int .i64 0,.int .i64 0,.int .i64 0] (by rfl) (by exact C0.lown.alloc _) (by exact v8 _ _) (by rfl) rfl (by simp[Value.oneCell']) (by decide) (by omega) ?_)
    intro v1 w2 hown1 ha1;have A5:Hid (bG w0 w2 O (w.heap.size+1) (fun v=>#[.int .i64 (n+1),cv,v,qv]) 96 98 5 rv u0 (rb++[(.slice a k cap,mk)]) (.slice a k cap) k mk [(v1,k+1)]):=C0.app (by decide) (by decide) C4 (ae.alloc _ _) (by rw[<- C6.1];exact hown1) ha1 (by simp);clear hown1 ha1 m0 m1 m2 m3 m4 p1 C0;go_upto_region 9 with fail
    have hm:=A5.m;rw[A1]at hm;obtain⟨m0,m1,m2,m3,m4⟩:=jp hm;clear hm;have p1:w2.cell? ⟨w.heap.size,1,none⟩=some (.slice a k cap):=(ag (HK _ A5.fr).1).trans rfl;have o3:w2.cell? ⟨O,2,none⟩=some u0:=(ag A5.o).trans rfl;have y3:w2.frozen? ⟨O,2,none⟩=false:=aC A5.o;have A4:O<w2.heap.size:=ak A5.o;have B5:w.heap.size+1<w2.heap.size:=ak A5.m;have HV:Hid (u0.ownBlock≠some O):=fun e=>by obtain⟨A0,hc⟩:=ax A5.rown e;exact aA hc A5.o (by decide) rfl
    obtain⟨A2,A3,B6⟩:=bD (A5.kins (v1,k+1) (by simp)).1;replace B6:v1=.slice A2 (k+1) A3:=B6;subst B6;go_cut [0] (fun r wx=>r=.pointer (some ⟨O,0,none⟩)/\Hid (∃ v,bG w0 wx O (w.heap.size+1) (fun v=>#[.int .i64 (n+1),cv,v,qv]) 96 98 5 rv v (rb++[(.slice a k cap,mk),(.slice A2 (k+1) A3,mk)]) (.slice a k cap) k mk [(.slice A2 (k+1) A3,k+1)]))
    case first=>
     go_region_law (refine jk _ rfl (.tmp 56) (.tmp 60) 25 rfl 98 _ 6 64 underlying25 Tryz.infoRB rfl (by decide) (by decide) u0 _ _ w2.heap.size [.slice A2 (k+1) A3,.int .i64 (-(n+1)),.int .i64 0,.int .i64 0,.int .i64 0,.int .i64 0] (by rfl) (by exact A5.rown.alloc _) (by exact v8 _ _) (by rfl) rfl (by simp[Value.oneCell']) (by first|omega|(simp;omega)) ?_;intro g1 cap1 w1 hown1 hgrow hat hlt;have C8:w1.cell? ⟨O,2,none⟩=some u0:=(ag (cM (ae.alloc _ _).drew hgrow A5.o HV)).trans rfl;have D0:w1.frozen? ⟨O,2,none⟩=false:=aC (cM (ae.alloc _ _).drew hgrow A5.o HV))
     all_goals
      go_wp2_with fail
      go_meet;case rel=>
       have e:([.slice A2 (k+1) A3,.int .i64 (-(n+1)),.int .i64 0,.int .i64 0,.int .i64 0,.int .i64 0]:List Value)=.slice A2 (k+1) A3::mk:=by rw[A1]
       rw[e]at hown1;have h:=A5.push (by decide) (by decide) (by decide) (ae.alloc _ _).drew (x:=.slice A2 (k+1) A3) (idx:=2) hown1 hgrow hat rfl;refine⟨rfl,?_⟩;show ∃ v,bG _ _ _ _ _ _ _ _ _ v _ _ _ _ _;refine⟨.slice (some ⟨g1,0,none⟩) (rb.length+1+1) cap1,?_⟩;simpa using h
    case rest=>
     obtain⟨rfl,HX⟩:=hcut;obtain⟨u1,D7⟩:=id HX;have C1:=ah D7;clear D7 HX m0 m1 m2 m3 m4 p1 o3 y3 A4 B5 HV A5;obtain⟨x1,E1⟩:∃ W,W=wc:=⟨_,rfl⟩;rw[<- E1]at C1 ⊢;clear E1;have D2:=C1.m;rw[A1]at D2;obtain⟨m0,m1,m2,m3,m4⟩:=jp D2;clear D2;have p1:x1.cell? ⟨w.heap.size,1,none⟩=some (.slice a k cap):=(ag (HK _ C1.fr).1).trans rfl;go_wp2_with (at_builtin;refine gN _ rfl (.tmp 65) (.tmp 68) 94 rfl 96 _ 5 40 underlying94 Tryz.infoRun rfl (by decide) (by decide) (.slice a k cap) k 2 (cO mk k) x1.heap.size [.int .i64 (-(n+1)),.int .i64 0,.int .i64 0,.int .i64 0,.int .i64 0,.int .i64 (-(n+1)),.int .i64 0,.int .i64 0,.int .i64 0,.int .i64 0] (by rfl) (by exact C1.lown.alloc _) (by exact v8 _ _) (by rfl) rfl (by simp[Value.oneCell']) (by decide) (by omega) ?_)
     intro v2 w4 hown2 ha2;have A6:Hid (bG w0 w4 O (w.heap.size+1) (fun v=>#[.int .i64 (n+1),cv,v,qv]) 96 98 5 rv u1 (rb++[(.slice a k cap,mk),(.slice A2 (k+1) A3,mk)]) (.slice a k cap) k mk [(.slice A2 (k+1) A3,k+1),(v2,k+2)]):=C1.app (by decide) (by decide) C4 (ae.alloc _ _) (by rw[<- C6.2.1];exact hown2) ha2 (by simp);clear hown2 ha2 m0 m1 m2 m3 m4 p1 C1;go_upto_region 11 with fail
     have hm:=A6.m;rw[A1]at hm;obtain⟨m0,m1,m2,m3,m4⟩:=jp hm;clear hm;have p1:w4.cell? ⟨w.heap.size,1,none⟩=some (.slice a k cap):=(ag (HK _ A6.fr).1).trans rfl;have o3:w4.cell? ⟨O,2,none⟩=some u1:=(ag A6.o).trans rfl;have y3:w4.frozen? ⟨O,2,none⟩=false:=aC A6.o;have A4:O<w4.heap.size:=ak A6.o;have B5:w.heap.size+1<w4.heap.size:=ak A6.m;have HV:Hid (u1.ownBlock≠some O):=fun e=>by obtain⟨A0,hc⟩:=ax A6.rown e;exact aA hc A6.o (by decide) rfl
     obtain⟨A9,B0,B7⟩:=bD (A6.kins (v2,k+2) (by simp)).1;replace B7:v2=.slice A9 (k+2) B0:=B7;subst B7;go_cut [0] (fun r wx=>r=.pointer (some ⟨O,0,none⟩)/\Hid (∃ v,bG w0 wx O (w.heap.size+1) (fun v=>#[.int .i64 (n+1),cv,v,qv]) 96 98 5 rv v (rb++[(.slice a k cap,mk),(.slice A2 (k+1) A3,mk),(.slice A9 (k+2) B0,mk)]) (.slice a k cap) k mk [(.slice A2 (k+1) A3,k+1),(.slice A9 (k+2) B0,k+2)]))
     case first=>
      go_region_law (refine jk _ rfl (.tmp 74) (.tmp 78) 25 rfl 98 _ 6 64 underlying25 Tryz.infoRB rfl (by decide) (by decide) u1 _ _ w4.heap.size [.slice A9 (k+2) B0,.int .i64 (-(n+1)),.int .i64 0,.int .i64 0,.int .i64 0,.int .i64 0] (by rfl) (by exact A6.rown.alloc _) (by exact v8 _ _) (by rfl) rfl (by simp[Value.oneCell']) (by first|omega|(simp;omega)) ?_;intro g1 cap1 w1 hown1 hgrow hat hlt;have C8:w1.cell? ⟨O,2,none⟩=some u1:=(ag (cM (ae.alloc _ _).drew hgrow A6.o HV)).trans rfl;have D0:w1.frozen? ⟨O,2,none⟩=false:=aC (cM (ae.alloc _ _).drew hgrow A6.o HV))
      all_goals
       go_wp2_with fail
       go_meet;case rel=>
        have e:([.slice A9 (k+2) B0,.int .i64 (-(n+1)),.int .i64 0,.int .i64 0,.int .i64 0,.int .i64 0]:List Value)=.slice A9 (k+2) B0::mk:=by rw[A1]
        rw[e]at hown1;have h:=A6.push (by decide) (by decide) (by decide) (ae.alloc _ _).drew (x:=.slice A9 (k+2) B0) (idx:=2) hown1 hgrow hat rfl;refine⟨rfl,?_⟩;show ∃ v,bG _ _ _ _ _ _ _ _ _ v _ _ _ _ _;refine⟨.slice (some ⟨g1,0,none⟩) (rb.length+2+1) cap1,?_⟩;simpa using h
     case rest=>
      obtain⟨rfl,HX⟩:=hcut;obtain⟨u2,D8⟩:=id HX;have C2:=ah D8;clear D8 HX m0 m1 m2 m3 m4 p1 o3 y3 A4 B5 HV A6;obtain⟨x2,E2⟩:∃ W,W=wc:=⟨_,rfl⟩;rw[<- E2]at C2 ⊢;clear E2;have D3:=C2.m;rw[A1]at D3;obtain⟨m0,m1,m2,m3,m4⟩:=jp D3;clear D3;have p1:x2.cell? ⟨w.heap.size,1,none⟩=some (.slice a k cap):=(ag (HK _ C2.fr).1).trans rfl;go_wp2_with (at_builtin;refine gN _ rfl (.tmp 83) (.tmp 87) 94 rfl 96 _ 5 40 underlying94 Tryz.infoRun rfl (by decide) (by decide) (.slice a k cap) k 3 (cO mk k) x2.heap.size [.int .i64 (-(n+1)),.int .i64 0,.int .i64 0,.int .i64 0,.int .i64 0,.int .i64 (-(n+1)),.int .i64 0,.int .i64 0,.int .i64 0,.int .i64 0,.int .i64 (-(n+1)),.int .i64 0,.int .i64 0,.int .i64 0,.int .i64 0] (by rfl) (by exact C2.lown.alloc _) (by exact v8 _ _) (by rfl) rfl (by simp[Value.oneCell']) (by decide) (by omega) ?_)
      intro v3 w6 hown3 ha3;have A7:Hid (bG w0 w6 O (w.heap.size+1) (fun v=>#[.int .i64 (n+1),cv,v,qv]) 96 98 5 rv u2 (rb++[(.slice a k cap,mk),(.slice A2 (k+1) A3,mk),(.slice A9 (k+2) B0,mk)]) (.slice a k cap) k mk [(.slice A2 (k+1) A3,k+1),(.slice A9 (k+2) B0,k+2),(v3,k+3)]):=C2.app (by decide) (by decide) C4 (ae.alloc _ _) (by rw[<- C6.2.2];exact hown3) ha3 (by simp);clear hown3 ha3 m0 m1 m2 m3 m4 p1 C2;go_upto_region 13 with fail
      have hm:=A7.m;rw[A1]at hm;obtain⟨m0,m1,m2,m3,m4⟩:=jp hm;clear hm;have p1:w6.cell? ⟨w.heap.size,1,none⟩=some (.slice a k cap):=(ag (HK _ A7.fr).1).trans rfl;have o3:w6.cell? ⟨O,2,none⟩=some u2:=(ag A7.o).trans rfl;have y3:w6.frozen? ⟨O,2,none⟩=false:=aC A7.o;have A4:O<w6.heap.size:=ak A7.o;have B5:w.heap.size+1<w6.heap.size:=ak A7.m;have HV:Hid (u2.ownBlock≠some O):=fun e=>by obtain⟨A0,hc⟩:=ax A7.rown e;exact aA hc A7.o (by decide) rfl
      obtain⟨B3,B4,B8⟩:=bD (A7.kins (v3,k+3) (by simp)).1;replace B8:v3=.slice B3 (k+3) B4:=B8;subst B8;go_cut [0] (fun r wx=>r=.pointer (some ⟨O,0,none⟩)/\Hid (∃ v,bG w0 wx O (w.heap.size+1) (fun v=>#[.int .i64 (n+1),cv,v,qv]) 96 98 5 rv v (rb++[(.slice a k cap,mk),(.slice A2 (k+1) A3,mk),(.slice A9 (k+2) B0,mk),(.slice B3 (k+3) B4,mk)]) (.slice a k cap) k mk [(.slice A2 (k+1) A3,k+1),(.slice A9 (k+2) B0,k+2),(.slice B3 (k+3) B4,k+3)]))
      case first=>
       go_region_law (refine jk _ rfl (.tmp 93) (.tmp 97) 25 rfl 98 _ 6 64 underlying25 Tryz.infoRB rfl (by decide) (by decide) u2 _ _ w6.heap.size [.slice B3 (k+3) B4,.int .i64 (-(n+1)),.int .i64 0,.int .i64 0,.int .i64 0,.int .i64 0] (by rfl) (by exact A7.rown.alloc _) (by exact v8 _ _) (by rfl) rfl (by simp[Value.oneCell']) (by first|omega|(simp;omega)) ?_;intro g1 cap1 w1 hown1 hgrow hat hlt;have C8:w1.cell? ⟨O,2,none⟩=some u2:=(ag (cM (ae.alloc _ _).drew hgrow A7.o HV)).trans rfl;have D0:w1.frozen? ⟨O,2,none⟩=false:=aC (cM (ae.alloc _ _).drew hgrow A7.o HV))
       all_goals
        go_wp2_with fail
        go_meet;case rel=>
         have e:([.slice B3 (k+3) B4,.int .i64 (-(n+1)),.int .i64 0,.int .i64 0,.int .i64 0,.int .i64 0]:List Value)=.slice B3 (k+3) B4::mk:=by rw[A1]
         rw[e]at hown1;have h:=A7.push (by decide) (by decide) (by decide) (ae.alloc _ _).drew (x:=.slice B3 (k+3) B4) (idx:=2) hown1 hgrow hat rfl;refine⟨rfl,?_⟩;show ∃ v,bG _ _ _ _ _ _ _ _ _ v _ _ _ _ _;refine⟨.slice (some ⟨g1,0,none⟩) (rb.length+3+1) cap1,?_⟩;simpa using h
      case rest=>
       obtain⟨rfl,HX⟩:=hcut;obtain⟨u3,D9⟩:=id HX;have C3:=ah D9;clear D9 HX m0 m1 m2 m3 m4 p1 o3 y3 A4 B5 HV A7;obtain⟨x3,E3⟩:∃ W,W=wc:=⟨_,rfl⟩;rw[<- E3]at C3 ⊢;clear E3;have p2:x3.cell? ⟨w.heap.size,2,none⟩=some (.slice aq nq capq):=(ag (HK _ C3.fr).1).trans rfl;go_wp2_with fail
       refine(AC O (n+1) cv u3 qv qb aq nq capq xq x3 (by omega) (by omega) hnq hqb C3.out.o (HK.out _ C3.out.fr).2.1 (HK.out _ C3.out.fr).2.2).mono ?_;rintro e w9 ⟨rfl,y,y1,y2,y3,hy⟩;have HY:=ah hy;clear hy;go_wp2_with fail
       go_end0;exact⟨rfl,x3,u3,_,_,_,y,y1,y2,y3,C3,HY⟩
def mu (X:Nat->Prop)(w w':World)(l q:Value)(k:Nat):Prop:=k<w'.heap.size/\(X k\/l.ownBlock=some k\/q.ownBlock=some k\/w.heap.size<=k)
theorem CE (X:Nat->Prop)(O:Nat)(n now:Int)(cv rv qv:Value)(cb rb qb:List (Value×List Value))(a:Option Addr)(nl cap:Nat)(xs:List Value)(aq:Option Addr)(nq capq:Nat)(xq:List Value)(w:World)(hn0:0<=n)(hn1:n<=900000000)(hnl:nl<=1000000)(hnq:nq<=1000000)(hrb:rb.length<=10000000)(hqb:qb.length<=10000000)
  (h:dn w X O n cv rv qv cb rb qb) (hl:w.ownsRow 0 96 5 (.slice a nl cap) nl xs) (hlq:w.ownsRow 0 87 4 (.slice aq nq capq) nq xq)
  (hlX:∀ b,(Value.slice a nl cap).ownBlock=some b->¬ X b) (hqX:∀ b,(Value.slice aq nq capq).ownBlock=some b->¬ X b):
  Calls prog 47 #[.pointer (some ⟨O,0,none⟩),.agg #[.int .i64 now,.slice a nl cap,.slice aq nq capq]] w fun e w'=>e=.returned (.tuple #[]) /\
   ∃ rv' qv' rb' qb',rb'.length=rb.length+4/\qb'.length=qb.length+4/\dn w' (mu X w w' (.slice a nl cap) (.slice aq nq capq)) O (n+1) cv rv' qv' cb rb' qb'/\Fr (fun k=>X k\/(Value.slice a nl cap).ownBlock=some k\/(Value.slice aq nq capq).ownBlock=some k) w w':=by
 refine(EX O n now cv rv qv rb qb a nl cap xs aq nq capq xq w hn0 hn1 hnl hnq hrb hqb h.blk h.rown h.qown hl hlq).mono ?_;rintro e w' ⟨rfl,wm,u,v1,v2,v3,v,v4,v5,v6,B1,B2⟩;obtain⟨w0,A4⟩:∃ W,W=((w.setCell ⟨O,0,none⟩ (.int .i64 (n+1))).alloc (.cells #[.int .i64 now,.slice a nl cap,.slice aq nq capq] 103)):=⟨_,rfl⟩;rw[<- A4]at B1;have hs0:w0.heap.size=w.heap.size+1:=by rw[A4];simp[World.setCell]
 have A9:=B1.fr.size;have A8:=B2.fr.size;have A5:∀ {b:Nat} {cur:Array Value} {e:TypeId},w.heap[b]?=some (.cells cur e (0,0))->e≠28->w0.heap[b]?=some (.cells cur e (0,0)):=fun {b cur e} hb he=>by
  rw[A4,q9 _ _ _ (by simp[World.setCell];exact ak hb),q8 _ _ _ _ (aA hb h.blk he)];exact hb
 have A0:∀ {b:Nat} {cur:Array Value} {e:TypeId},w.heap[b]?=some (.cells cur e (0,0))->e≠28->e≠98->(Value.slice a nl cap).ownBlock≠some b->wm.heap[b]?=some (.cells cur e (0,0)):=fun {b cur e} hb h1 h2 h3=>by
  have A6:=A5 hb h1;rw[B1.fr.block b (ak A6) (fun hh=>?_)]
  .exact A6
  .rcases hh with rfl|hh|hh
   .exact aA hb h.blk h1 rfl
   .obtain⟨c,hc⟩:=ax h.rown hh;exact aA hb hc h2 rfl
   .exact h3 hh
 have qm:wm.ownsRow 0 101 5 qv qb.length (fw qb):=aT h.qown fun b hb=>by
  obtain⟨c,hc⟩:=ax h.qown hb;rw[A0 hc (by decide) (by decide) (fun e=>by obtain⟨c2,A2⟩:=ax hl e;exact aA hc A2 (by decide) rfl),hc]
 have A1:∀ {b:Nat} {cur:Array Value} {e:TypeId},wm.heap[b]?=some (.cells cur e (0,0))->e≠28->e≠101->(Value.slice aq nq capq).ownBlock≠some b->w'.heap[b]?=some (.cells cur e (0,0)):=fun {b cur e} hb h1 h2 h3=>by
  rw[B2.fr.block b (ak hb) (fun hh=>?_)]
  .exact hb
  .rcases hh with rfl|hh|hh
   .exact aA hb B1.o h1 rfl
   .obtain⟨c,hc⟩:=ax qm hh;exact aA hb hc h2 rfl
   .exact h3 hh
 have A7:wm.ownsRow 0 87 4 (.slice aq nq capq) nq xq:=aT hlq fun b hb=>by
  obtain⟨c,hc⟩:=ax hlq hb;rw[A0 hc (by decide) (by decide) (fun e=>by obtain⟨c2,A2⟩:=ax hl e;exact aA hc A2 (by decide) rfl),hc]
 have A3:∀ {b:Nat},X b->∀ {o:Obj},w.heap[b]?=some o->mu X w w' (.slice a nl cap) (.slice aq nq capq) b:=fun {b} hb {o} ho=>⟨by have:=ak ho;omega,Or.inl hb⟩;refine⟨rfl,u,v,rb++[(.slice a nl cap,[.int .i64 (-(n+1)),.int .i64 0,.int .i64 0,.int .i64 0,.int .i64 0]),(v1,[.int .i64 (-(n+1)),.int .i64 0,.int .i64 0,.int .i64 0,.int .i64 0]),(v2,[.int .i64 (-(n+1)),.int .i64 0,.int .i64 0,.int .i64 0,.int .i64 0]),(v3,[.int .i64 (-(n+1)),.int .i64 0,.int .i64 0,.int .i64 0,.int .i64 0])],qb++[(.slice aq nq capq,[.int .i64 0,.int .i64 (-(n+1)),.int .i64 0,.int .i64 0]),(v4,[.int .i64 0,.int .i64 (-(n+1)),.int .i64 0,.int .i64 0]),(v5,[.int .i64 0,.int .i64 (-(n+1)),.int .i64 0,.int .i64 0]),(v6,[.int .i64 0,.int .i64 (-(n+1)),.int .i64 0,.int .i64 0])],?_,?_,⟨B2.o,A3 h.inO h.blk,?_,?_,B2.rown,?_,?_,?_,?_,?_,?_⟩,?_⟩
 .simp
 .simp
 .exact aT h.cown fun b hb=>by
   obtain⟨c,hc⟩:=ax h.cown hb;rw[A1 (A0 hc (by decide) (by decide) (fun e=>by obtain⟨c2,A2⟩:=ax hl e;exact aA hc A2 (by decide) rfl)) (by decide) (by decide) (fun e=>by obtain⟨c2,A2⟩:=ax hlq e;exact aA hc A2 (by decide) rfl),hc]
 .exact aT B1.rown fun b hb=>by
   obtain⟨c,hc⟩:=ax B1.rown hb;rw[A1 hc (by decide) (by decide) (fun e=>by obtain⟨c2,A2⟩:=ax A7 e;exact aA hc A2 (by decide) rfl),hc]
 .intro b hb;obtain⟨c,hc⟩:=ax h.cown hb;exact A3 (h.cin b hb) hc
 .intro b hb;obtain⟨c,hc⟩:=ax B1.rown hb;refine⟨by have:=ak hc;omega,?_⟩;rcases B1.rat b hb with h1|h1
  .exact Or.inl (h.rin b h1)
  .exact Or.inr (Or.inr (Or.inr (by omega)))
 .intro b hb;obtain⟨c,hc⟩:=ax B2.rown hb;refine⟨ak hc,?_⟩;rcases B2.rat b hb with h1|h1
  .exact Or.inl (h.qin b h1)
  .exact Or.inr (Or.inr (Or.inr (by omega)))
 .intro b hb;obtain⟨h1,m,hm,h2,h3⟩:=h.cbk b hb;refine⟨h1,m,hm,aT h2 fun g hg=>?_,fun g hg=>?_⟩
  .obtain⟨c,hc⟩:=ax h2 hg;rw[A1 (A0 hc (by decide) (by decide) (fun e=>by obtain⟨c2,A2⟩:=ax hl e;exact aA hc A2 (by decide) rfl)) (by decide) (by decide) (fun e=>by obtain⟨c2,A2⟩:=ax hlq e;exact aA hc A2 (by decide) rfl),hc]
  .obtain⟨c,hc⟩:=ax h2 hg;exact A3 (h3 g hg) hc
 .have new:∀ x nx,nx<=100000000->wm.ownsRow 0 96 5 x nx (cO [.int .i64 (-(n+1)),.int .i64 0,.int .i64 0,.int .i64 0,.int .i64 0] nx)->(∀ b,x.ownBlock=some b->(Value.slice a nl cap).ownBlock=some b\/w0.heap.size<=b) ->
    dv w' (mu X w w' (.slice a nl cap) (.slice aq nq capq)) 96 5 (x,[.int .i64 (-(n+1)),.int .i64 0,.int .i64 0,.int .i64 0,.int .i64 0]):=fun x nx hnx hx hxb=>by
   refine⟨⟨[-(n+1),0,0,0,0],rfl,rfl⟩,nx,hnx,aT hx fun g hg=>?_,fun g hg=>?_⟩
   .obtain⟨c,hc⟩:=ax hx hg;rw[A1 hc (by decide) (by decide) (fun e=>by obtain⟨c2,A2⟩:=ax A7 e;exact aA hc A2 (by decide) rfl),hc]
   .obtain⟨c,hc⟩:=ax hx hg;refine⟨by have:=ak hc;omega,?_⟩;rcases hxb g hg with h1|h1
    .exact Or.inr (Or.inl h1)
    .exact Or.inr (Or.inr (Or.inr (by omega)))
  intro b hb;rw[List.mem_append]at hb;rcases hb with hb|hb
  .obtain⟨h1,m,hm,h2,h3⟩:=h.rbk b hb;refine⟨h1,m,hm,aT h2 fun g hg=>?_,fun g hg=>?_⟩
   .obtain⟨c,hc⟩:=ax h2 hg;rw[A1 (A0 hc (by decide) (by decide) (fun e=>hlX g e (h3 g hg))) (by decide) (by decide) (fun e=>by obtain⟨c2,A2⟩:=ax hlq e;exact aA hc A2 (by decide) rfl),hc]
   .obtain⟨c,hc⟩:=ax h2 hg;exact A3 (h3 g hg) hc
  .simp only[List.mem_cons,List.not_mem_nil,or_false]at hb;rcases hb with rfl|rfl|rfl|rfl
   .exact new _ nl (by omega) B1.lown (fun b hb=>Or.inl hb)
   .obtain⟨k1,_,k3⟩:=B1.kins (v1,nl+1) (by simp);exact new _ _ (by omega) k1 k3
   .obtain⟨k1,_,k3⟩:=B1.kins (v2,nl+2) (by simp);exact new _ _ (by omega) k1 k3
   .obtain⟨k1,_,k3⟩:=B1.kins (v3,nl+3) (by simp);exact new _ _ (by omega) k1 k3
 .have new:∀ x nx,nx<=100000000->w'.ownsRow 0 87 4 x nx (cO [.int .i64 0,.int .i64 (-(n+1)),.int .i64 0,.int .i64 0] nx)->(∀ b,x.ownBlock=some b->(Value.slice aq nq capq).ownBlock=some b\/wm.heap.size<=b) ->
    dv w' (mu X w w' (.slice a nl cap) (.slice aq nq capq)) 87 4 (x,[.int .i64 0,.int .i64 (-(n+1)),.int .i64 0,.int .i64 0]):=fun x nx hnx hx hxb=>by
   refine⟨⟨[0,-(n+1),0,0],rfl,rfl⟩,nx,hnx,hx,fun g hg=>?_⟩;obtain⟨c,hc⟩:=ax hx hg;refine⟨ak hc,?_⟩;rcases hxb g hg with h1|h1
   .exact Or.inr (Or.inr (Or.inl h1))
   .exact Or.inr (Or.inr (Or.inr (by omega)))
  intro b hb;rw[List.mem_append]at hb;rcases hb with hb|hb
  .obtain⟨h1,m,hm,h2,h3⟩:=h.qbk b hb;refine⟨h1,m,hm,aT h2 fun g hg=>?_,fun g hg=>?_⟩
   .obtain⟨c,hc⟩:=ax h2 hg;rw[A1 (A0 hc (by decide) (by decide) (fun e=>by obtain⟨c2,A2⟩:=ax hl e;exact aA hc A2 (by decide) rfl)) (by decide) (by decide) (fun e=>hqX g e (h3 g hg)),hc]
   .obtain⟨c,hc⟩:=ax h2 hg;exact A3 (h3 g hg) hc
  .simp only[List.mem_cons,List.not_mem_nil,or_false]at hb;rcases hb with rfl|rfl|rfl|rfl
   .exact new _ nq (by omega) B2.lown (fun b hb=>Or.inl hb)
   .obtain⟨k1,_,k3⟩:=B2.kins (v4,nq+1) (by simp);exact new _ _ (by omega) k1 k3
   .obtain⟨k1,_,k3⟩:=B2.kins (v5,nq+2) (by simp);exact new _ _ (by omega) k1 k3
   .obtain⟨k1,_,k3⟩:=B2.kins (v6,nq+3) (by simp);exact new _ _ (by omega) k1 k3
 .have f0:Fr (fun k=>X k\/(Value.slice a nl cap).ownBlock=some k\/(Value.slice aq nq capq).ownBlock=some k) w w0:=by
   rw[A4];exact((Fr.refl _ w).setCell ⟨O,0,none⟩ (Or.inl (Or.inl h.inO)) _).alloc _
  have f1:Fr (fun k=>X k\/(Value.slice a nl cap).ownBlock=some k\/(Value.slice aq nq capq).ownBlock=some k) w0 wm:=B1.fr.mono fun k _ hk=>by
   rcases hk with rfl|hk|hk
   .exact Or.inl h.inO
   .exact Or.inl (h.rin k hk)
   .exact Or.inr (Or.inl hk)
  have f2:Fr (fun k=>X k\/(Value.slice a nl cap).ownBlock=some k\/(Value.slice aq nq capq).ownBlock=some k) wm w':=B2.fr.mono fun k _ hk=>by
   rcases hk with rfl|hk|hk
   .exact Or.inl h.inO
   .exact Or.inl (h.qin k hk)
   .exact Or.inr (Or.inr hk)
  exact(f0.trans f1).trans f2
end Go.Proofs.YtmmmnghiegajmaaGreat
namespace Go.Proofs.Herald
def bJ (p:Pr):Pr:={p with els:=p.els+1}
def li (p:Pr)(r:Int):Pr:=eP p r (if 1000000<cw p r*2 then 1000000 else cw p r*2)
def eC (p:Pr)(c:Int):Pr:={p with tow:=p.els,els:=c}
def ij (p:Pr)(c:Int):Pr:={p with tow:=c}
def lP (p:Pr)(a:Int):Pr:=if 0<cw p a then eP p a (cw p a - 1) else p
def iz (p:Pr)(a c:Int):Pr:=if 0<cw (lP p a) a then {lP p a with els:=c} else lP p a
def eB (now:Int)(x:am)(q:List aj)(p:Pr):List aj×Pr×Int:=
 if x.op=0 then (q,bJ p,2)
 else if x.op=1 then ((aB q (bJ p) x.a).1,(aB q (bJ p) x.a).2.1,0)
 else if x.op=2 then (q,dY (bJ p) now x.a 0,1)
 else if x.op=3 then
  (if (aB q (eC (bJ p) x.c) x.a).2.2=0 then ((aB q (eC (bJ p) x.c) x.a).1,(aB q (eC (bJ p) x.c) x.a).2.1,0)
   else ((aB q (eC (bJ p) x.c) x.a).1,dY (aB q (eC (bJ p) x.c) x.a).2.1 now x.b (aB q (eC (bJ p) x.c) x.a).2.2,1))
 else if x.op=4 then (q,eP (bJ p) x.a x.b,0)
 else if x.op=5 then (q,li (bJ p) x.a,0)
 else if x.op=6 then ((aB q (ij (bJ p) x.c) x.a).1,dY (aB q (ij (bJ p) x.c) x.a).2.1 now (if cw p x.b<1 then 1 else cw p x.b) (aB q (ij (bJ p) x.c) x.a).2.2,1)
 else if x.op=7 then (q,iz (bJ p) x.a x.c,0)
 else if x.op=8 then (q,{bJ p with els:=x.c},0)
 else (q,bJ p,0)
def ci (now:Int)(cs:List am):Nat->List aj->Pr->List aj×Pr×Bool
 | 0,q,p=>(q,p,true)
 | f+1,q,p=>
  if h:p.els.toNat<cs.length then
   (if (eB now cs[p.els.toNat] q p).2.2=0 then ci now cs f (eB now cs[p.els.toNat] q p).1 (eB now cs[p.els.toNat] q p).2.1
    else ((eB now cs[p.els.toNat] q p).1,(eB now cs[p.els.toNat] q p).2.1,(eB now cs[p.els.toNat] q p).2.2 != 1))
  else (q,p,true)
def eM (now:Int)(cs:List am)(yes:Bool)(q:List aj)(p:Pr):List aj×Pr×Bool:=
 if yes then ci now cs 10000 q {p with els:=p.tow}
 else if p.num=0 then ci now cs 10000 q p
 else ci now cs 10000 (dr q p.id p.num) p
def aE (cs:List am):bM Pr:=⟨cF,dg,fun now q p=>ci now cs 10000 q p,fun now yes q p=>eM now cs yes q p⟩
theorem wn (q:List aj)(p:Pr)(key:Int):(aB q p key).2.1.id=p.id:=(kD q p key).2.1
theorem sM (now:Int)(x:am)(q:List aj)(p:Pr):(eB now x q p).2.1.id=p.id:=by
 unfold eB;repeat' split
 all_goals first|rfl|exact wn _ _ _|skip
 unfold iz lP;repeat' split
 all_goals rfl
theorem nJ (now:Int)(cs:List am):∀ (f:Nat) (q:List aj) (p:Pr),(ci now cs f q p).2.1.id=p.id:=by
 intro f;induction f with
 | zero=>intro q p;rfl
 | succ f ih=>
  intro q p;rw[ci];split
  .split
   .exact(ih _ _).trans (sM _ _ _ _)
   .exact sM _ _ _ _
  .rfl
theorem qL (now:Int)(cs:List am)(yes:Bool)(q:List aj)(p:Pr):(eM now cs yes q p).2.1.id=p.id:=by
 unfold eM;split
 .exact nJ _ _ _ _ _
 .split
  .exact nJ _ _ _ _ _
  .exact nJ _ _ _ _ _
theorem ww (now:Int)(x:am)(pc:Int)(q:List aj)(p:Pr):(dA now x pc q p).2.1.id=p.id:=by
 unfold dA;repeat' split
 all_goals first|rfl|exact wn _ _ _
theorem qx (now:Int)(cs:List am):∀ (f:Nat) (pc:Int) (q:List aj) (p:Pr),(df now cs f pc q p).2.1.id=p.id:=by
 intro f;induction f with
 | zero=>intro pc q p;rfl
 | succ f ih=>
  intro pc q p;rw[df];split
  .split
   .exact ww _ _ _ _ _
   .exact(ih _ _ _).trans (ww _ _ _ _ _)
  .rfl
theorem FU (now:Int)(cs:List am)(yes:Bool)(q:List aj)(p:Pr):(iR now cs yes q p).2.1.id=p.id:=by
 unfold iR;split
 .exact qx _ _ _ _ _ _
 .split
  .exact qx _ _ _ _ _ _
  .exact qx _ _ _ _ _ _
structure gw (pc:Int)(p m:Pr):Prop where
 id:p.id=m.id
 dev:p.dev=m.dev
 sent:p.sent=m.sent
 til:p.til=m.til
 regs:p.regs=m.regs
 els:m.els=pc
 pc0:0<=pc
 sent0:0<=p.sent
 len:p.regs.length=12
structure mF (p m:Pr):Prop where
 id:p.id=m.id
 dev:p.dev=m.dev
 sent:p.sent=m.sent
 til:p.til=m.til
 num:p.num=m.num
 regs:p.regs=m.regs
 els:p.els=m.els
 els0:0<=p.els
 tow:p.num≠0->p.tow=m.tow/\0<=p.tow
 num0:0<=p.num
 sent0:0<=p.sent
 len:p.regs.length=12
theorem sC {pc:Int}{p m:Pr}(h:gw pc p m)(q:List aj)(key:Int):
  (aB q p key).1=(aB q m key).1/\(aB q p key).2.2=(aB q m key).2.2/\gw pc (aB q p key).2.1 (aB q m key).2.1/\0<=(aB q p key).2.2:=by
 have e:(⟨m.dev,m.id,m.sent+1,key⟩:aj)=⟨p.dev,p.id,p.sent+1,key⟩:=by rw[h.id,h.dev,h.sent]
 have h0:=h.sent0;have e2:p.sent+1=m.sent+1:=by rw[h.sent]
 unfold aB;rw[e];cases fR q ⟨p.dev,p.id,p.sent+1,key⟩ with
 | some q'=>
  simp only;exact⟨trivial,e2,⟨h.id,h.dev,e2,h.til,h.regs,h.els,h.pc0,by show 0<=p.sent+1;omega,h.len⟩,by omega⟩
 | none=>exact⟨rfl,rfl,h,Int.le_refl 0⟩
theorem gw.inc {pc:Int}{p m:Pr}(h:gw pc p m):gw (pc+1) p (bJ m):=
 ⟨h.id,h.dev,h.sent,h.til,h.regs,by show m.els+1=_;rw[h.els],by have:=h.pc0;omega,h.sent0,h.len⟩
theorem gw.setP {pc:Int}{p m:Pr}(h:gw pc p m)(r v:Int):gw pc (eP p r v) (eP m r v):=
 ⟨h.id,h.dev,h.sent,h.til,by show p.regs.set _ _=m.regs.set _ _;rw[h.regs],h.els,h.pc0,h.sent0,by show(p.regs.set _ _).length=_;rw[List.length_set];exact h.len⟩
theorem gw.reg {pc:Int}{p m:Pr}(h:gw pc p m)(r:Int):cw m r=cw p r:=by unfold cw;rw[h.regs]
theorem sw {p:Pr}{r v:Int}(h:r.toNat<p.regs.length):cw (eP p r v) r=v:=by
 unfold cw eP;simp[h]
theorem gw.jump {pc c:Int}{p m:Pr}(h:gw pc p m)(h0:0<=c):gw c p {m with els:=c}:=
 ⟨h.id,h.dev,h.sent,h.til,h.regs,rfl,h0,h.sent0,h.len⟩
structure ks (r:List aj×Pr×Int×Bool)(o:List aj×Pr×Int):Prop where
 q:r.1=o.1
 go:o.2.2=0->0<=r.2.2.1/\gw r.2.2.1 r.2.1 o.2.1
 stop:o.2.2≠0->r.2.2.1<0/\r.2.2.2=(o.2.2 != 1)/\(o.2.2=1->mF r.2.1 o.2.1)
theorem wy {n now:Int}{x:am}{pc:Int}{q:List aj}{p m:Pr}(hx:ct n x=true)(h:gw pc p m):ks (dA now x pc q p) (eB now x q m):=by
 have hi:=h.inc;have A6:=h.pc0;have A1:=h.len;have A4:¬ (2:Int)=0:=by decide
 have A5:¬ (2:Int)=1:=by decide
 have A2:¬ (1:Int)=0:=by decide
 have tm:(-1:Int)<0:=by decide
 unfold ct at hx;unfold dA eB;by_cases g0:x.op=0
 .rw[if_neg (by omega),if_neg (by omega),if_neg (by omega),if_neg (by omega),if_neg (by omega),if_neg (by omega),if_neg (by omega),if_neg (by omega),if_pos g0];exact⟨rfl,fun hh=>absurd hh A4,fun _=>⟨tm,rfl,fun hh=>absurd hh A5⟩⟩
 rw[if_neg g0]at hx ⊢;by_cases g1:x.op=1
 .rw[if_pos g1,if_pos g1];obtain⟨k1,k2,k3,k4⟩:=sC hi q x.a;exact⟨k1,fun _=>⟨by show 0<=pc+1;omega,k3⟩,fun hh=>absurd rfl hh⟩
 rw[if_neg g1]at hx ⊢;rw[if_neg g1];by_cases g2:x.op=2
 .rw[if_pos g2,if_pos g2];exact⟨rfl,fun hh=>absurd hh A2,fun _=>⟨tm,rfl,fun _=>⟨h.id,h.dev,h.sent,rfl,rfl,h.regs,hi.els.symm,hi.pc0,fun hh=>absurd rfl hh,Int.le_refl 0,h.sent0,h.len⟩⟩⟩
 rw[if_neg g2]at hx ⊢;rw[if_neg g2];by_cases g3:x.op=3
 .rw[if_pos g3]at hx ⊢;rw[if_pos g3];simp only[Bool.and_eq_true]at hx;have hc:=gz hx.2;have ha:gw x.c p (eC (bJ m) x.c):=⟨h.id,h.dev,h.sent,h.til,h.regs,rfl,hc.1,h.sent0,h.len⟩;obtain⟨k1,k2,k3,k4⟩:=sC ha q x.a;have A0:(aB q (eC (bJ m) x.c) x.a).2.1.tow=pc+1/\(aB q (eC (bJ m) x.c) x.a).2.1.els=x.c:=by
   refine⟨?_,k3.els⟩;unfold aB;split
   .exact hi.els
   .exact hi.els
  by_cases hz:(aB q p x.a).2.2=0
  .rw[if_pos hz,if_pos (k2 ▸ hz)];exact⟨k1,fun _=>⟨hc.1,k3⟩,fun hh=>absurd rfl hh⟩
  .rw[if_neg hz,if_neg (k2 ▸ hz)];exact⟨k1,fun hh=>absurd hh A2,fun _=>⟨tm,rfl,fun _=>⟨k3.id,k3.dev,k3.sent,rfl,k2,k3.regs,A0.2.symm,hc.1,fun _=>⟨A0.1.symm,by show 0<=pc+1;omega⟩,k4,k3.sent0,k3.len⟩⟩⟩
 rw[if_neg g3]at hx ⊢;rw[if_neg g3];by_cases g4:x.op=4
 .rw[if_pos g4,if_pos g4];exact⟨rfl,fun _=>⟨by show 0<=pc+1;omega,hi.setP _ _⟩,fun hh=>absurd rfl hh⟩
 rw[if_neg g4]at hx ⊢;rw[if_neg g4];by_cases g5:x.op=5
 .rw[if_pos g5,if_pos g5];have e:li (bJ m) x.a=eP (bJ m) x.a (if 1000000<2*cw p x.a then 1000000 else 2*cw p x.a):=by
   unfold li;rw[hi.reg,Int.mul_comm]
  rw[e];exact⟨rfl,fun _=>⟨by show 0<=pc+1;omega,hi.setP _ _⟩,fun hh=>absurd rfl hh⟩
 rw[if_neg g5]at hx ⊢;rw[if_neg g5];by_cases g6:x.op=6
 .rw[if_pos g6]at hx ⊢;rw[if_pos g6];simp only[Bool.and_eq_true]at hx;have hc:=gz hx.2;have ha:gw (pc+1) p (ij (bJ m) x.c):=⟨h.id,h.dev,h.sent,h.til,h.regs,hi.els,hi.pc0,h.sent0,h.len⟩;obtain⟨k1,k2,k3,k4⟩:=sC ha q x.a;have A0:(aB q (ij (bJ m) x.c) x.a).2.1.tow=x.c:=by
   unfold aB;split
   .rfl
   .rfl
  have et:(if cw m x.b<1 then 1 else cw m x.b)=cu 1 (cw p x.b):=by unfold cu;rw[h.reg]
  rw[et];exact⟨k1,fun hh=>absurd hh A2,fun _=>⟨tm,rfl,fun _=>⟨k3.id,k3.dev,k3.sent,rfl,k2,k3.regs,k3.els.symm,hi.pc0,fun _=>⟨A0.symm,hc.1⟩,k4,k3.sent0,k3.len⟩⟩⟩
 rw[if_neg g6]at hx ⊢;rw[if_neg g6];by_cases g7:x.op=7
 .rw[if_pos g7]at hx ⊢;rw[if_pos g7];simp only[Bool.and_eq_true]at hx;have ha:=gz hx.1.1;have hc:=gz hx.2;have A3:x.a.toNat<(bJ m).regs.length:=by rw[<- hi.regs,A1];omega
  refine⟨?_,fun _=>?_,fun hh=>absurd rfl hh⟩
  .split <;> rfl
  .unfold iz lP;rw[hi.reg];by_cases hp:0<cw p x.a
   .rw[if_pos hp,if_pos hp,sw A3];by_cases hp2:0<cw p x.a - 1
    .rw[if_pos hp2,if_pos hp2];exact⟨hc.1,(hi.setP _ _).jump hc.1⟩
    .rw[if_neg hp2,if_neg hp2];exact⟨by show 0<=pc+1;omega,hi.setP _ _⟩
   .rw[if_neg hp,if_neg hp,hi.reg,if_neg hp];exact⟨by show 0<=pc+1;omega,hi⟩
 rw[if_neg g7]at hx ⊢;rw[if_neg g7];by_cases g8:x.op=8
 .rw[if_pos g8]at hx ⊢;rw[if_pos g8];simp only[Bool.and_eq_true]at hx;have hc:=gz hx.2;exact⟨rfl,fun _=>⟨hc.1,hi.jump hc.1⟩,fun hh=>absurd rfl hh⟩
 rw[if_neg g8]at hx;cases hx
theorem Eb {now:Int}{x:am}{pc:Int}{q:List aj}{p:Pr}(h:0<=(dA now x pc q p).2.2.1)(hn:p.num=0):(dA now x pc q p).2.1.num=0:=by
 have hs:∀ key,(aB q p key).2.1.num=0:=fun key=>by
  unfold aB;split
  .exact hn
  .exact hn
 unfold dA at h ⊢;repeat' split
 all_goals first|exact hn|exact hs _|skip
 all_goals simp_all
theorem xw {now:Int}{cs:List am}(hs:∀ x∈cs,ct cs.length x=true):∀ (f:Nat) (pc:Int) (q:List aj) (p m:Pr),gw pc p m->p.num=0 ->
  (df now cs f pc q p).1=(ci now cs f q m).1/\(df now cs f pc q p).2.2=(ci now cs f q m).2.2/\((df now cs f pc q p).2.2=false->mF (df now cs f pc q p).2.1 (ci now cs f q m).2.1):=by
 intro f;induction f with
 | zero=>intro pc q p m h _;exact⟨rfl,rfl,fun hh=>by cases hh⟩
 | succ f ih=>
  intro pc q p m h hn;rw[df,ci,h.els];by_cases hlt:pc.toNat<cs.length
  .rw[dif_pos hlt,dif_pos hlt];have k:=wy (now:=now) (q:=q) (hs _ (Qb hlt)) h;by_cases hz:(eB now cs[pc.toNat] q m).2.2=0
   .obtain⟨h0,A0⟩:=k.go hz;have hq:=k.q;rw[if_pos hz,if_neg (by omega),<- hq];exact ih _ _ _ _ A0 (Eb h0 hn)
   .obtain⟨h0,hd,A1⟩:=k.stop hz;rw[if_neg hz,if_pos h0];refine⟨k.q,hd,fun hf=>A1 ?_⟩;simp only at hf;rw[hd]at hf;simpa using hf
  .rw[dif_neg hlt,dif_neg hlt];exact⟨rfl,rfl,fun hh=>by cases hh⟩
theorem vP {cs:List am}(hs:em cs=true):bq (mt cs) (aE cs) mF:=by
 have A0:∀ x∈cs,ct cs.length x=true:=by
  unfold em at hs;simp only[Bool.and_eq_true,List.all_eq_true]at hs;exact hs.2
 refine⟨fun a b h=>?_,fun now q id dev=>?_,fun id dev=>⟨rfl,rfl⟩,fun a b h now yes q hy=>?_⟩
 .show cF a=cF b;unfold cF;rw[h.id,h.dev,h.sent,h.til,h.num]
 .have A4:gw 0 (dg id dev) (dg id dev):=⟨rfl,rfl,rfl,rfl,rfl,rfl,Int.le_refl 0,Int.le_refl 0,rfl⟩;obtain⟨k1,k2,k3⟩:=xw (now:=now) A0 10000 0 q _ _ A4 rfl;exact⟨k1,k2,qx _ _ _ _ _ _,nJ _ _ _ _ _,k3⟩
 .have e1:(mt cs).on now yes q a=iR now cs yes q a:=rfl;have e2:(aE cs).on now yes q b=eM now cs yes q b:=rfl;rw[e1,e2];have key:∀ (pc:Int) (m:Pr) (q':List aj),gw pc {a with num:=0} m->(df now cs 10000 pc q' {a with num:=0}).1=(ci now cs 10000 q' m).1/\(df now cs 10000 pc q' {a with num:=0}).2.2=(ci now cs 10000 q' m).2.2/\((df now cs 10000 pc q' {a with num:=0}).2.2=false->mF (df now cs 10000 pc q' {a with num:=0}).2.1 (ci now cs 10000 q' m).2.1):=fun pc m q' A4=>xw A0 10000 pc q' _ _ A4 rfl;have A2:((mt cs).pub (iR now cs yes q a).2.1).id=((mt cs).pub a).id:=FU now cs yes q a;have A3:((aE cs).pub (eM now cs yes q b).2.1).id=((aE cs).pub b).id:=qL now cs yes q b;have A1:((iR now cs yes q a).1=(eM now cs yes q b).1/\(iR now cs yes q a).2.2=(eM now cs yes q b).2.2/\((iR now cs yes q a).2.2=false->mF (iR now cs yes q a).2.1 (eM now cs yes q b).2.1)):=by
   unfold iR eM;have n0:=h.num0;cases yes with
   | true=>
    have A5:=h.tow (hy rfl);exact key a.tow _ q ⟨h.id,h.dev,h.sent,h.til,h.regs,A5.1.symm,A5.2,h.sent0,h.len⟩
   | false=>
    simp only[Bool.false_eq_true,if_false];by_cases hz:a.num=0
    .rw[if_neg (by omega),if_pos (h.num ▸ hz)];exact key a.els _ q ⟨h.id,h.dev,h.sent,h.til,h.regs,h.els.symm,h.els0,h.sent0,h.len⟩
    .rw[if_pos (by omega),if_neg (h.num ▸ hz),<- h.id,<- h.num];exact key a.els _ _ ⟨h.id,h.dev,h.sent,h.til,h.regs,h.els.symm,h.els0,h.sent0,h.len⟩
  exact⟨A1.1,A1.2.1,A2,A3,A1.2.2⟩
end Go.Proofs.Herald
