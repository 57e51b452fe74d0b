import Derived.Test.YtmmmnghiegajmaaGreatM35
import Derived.Test.YtmmmnghiegajmaaGreatM04
set_option maxHeartbeats 2000000
namespace Go.Proofs.YtmmmnghiegajmaaGreat
open Go.RowKit Go.Proofs.Herald
theorem zfC (t:ByteArray)(ht:t.size<=400)(B R:Nat)(sv:Value)(st:RSt)(most:Int)(w:World)(h:RdAt t B w R sv st):
  Calls Tryz.prog 145 #[.pointer (some ⟨R,0,none⟩),.int .i64 most] w fun e w'=>
   e=.returned (.tuple #[.int .i64 (za5 t st most).1,.bool (za5 t st most).2.1])/\RdAt t B w' R sv (za5 t st most).2.2/\Below B w w':=by
 have c1:w.cell? ⟨R,1,none⟩=some (.string (zcf t st.us)):=(zaa h.blk).trans rfl
 have c2:w.cell? ⟨R,2,none⟩=some (.int .i64 (atR t st.us:Nat)):=(zaa h.blk).trans rfl
 have HH:=zHd h
 obtain ⟨s,hs⟩:∃ s,s=zcf t st.us:=⟨_,rfl⟩
 have hsz:s.size<=400:=by rw [hs];have:=zmF (t:=t) st.us;omega
 have hby:zaD t st=s.data.toList:=by rw [hs];rfl
 rw [<- hs] at c1
 obtain ⟨i,hi⟩:∃ i,i=atR t st.us:=⟨_,rfl⟩
 rw [<- hi] at c2
 have hN:za5 t st most=if nB s.data.toList then (nV s.data.toList,true,za4 (if nV s.data.toList<1\/most<nV s.data.toList then zbc st 3 (i:Nat) else st)) else (0,false,st):=by
  unfold za5;rw [hby,hi]
 have HC:Hid (∀ W,Calls Tryz.prog 161 #[.string s] W fun e w'=>e=.returned (.tuple #[.int .i64 (nV s.data.toList),.bool (nB s.data.toList)])/\w'=W):=fun W=>zlU s W hsz
 obtain ⟨V,hV⟩:∃ V,V=nV s.data.toList:=⟨_,rfl⟩
 rw [<- hV] at hN HC
 clear hs hby hi hV h
 cases hb:nB s.data.toList with
 | false=>
  rw [hb] at hN HC
  have HN:=zHd hN
  clear hb hN
  go_enter Tryz.func145,Tryz.ntmps145
  go_wp2_with fail
  refine (HC.out _).mono ?_
  rintro e w' ⟨rfl,rfl⟩
  go_wp2_with fail
  go_ret2
  rw [HN.out]
  exact ⟨rfl,HH.out,Below.refl _ _⟩
 | true=>
  rw [hb] at hN HC
  by_cases hr:V<1\/most<V
  .have HN:Hid (za5 t st most=(V,true,za4 (zbc st 3 (i:Nat)))):=by show _=_;rw [hN,if_pos rfl,if_pos hr]
   have hc:V<1\/(1<=V/\most<V):=by omega
   clear hb hN hr
   rcases hc with hc|⟨hc0,hc⟩
   all_goals
    go_enter Tryz.func145,Tryz.ntmps145
    go_wp2_with fail
    refine (HC.out _).mono ?_
    rintro e w' ⟨rfl,rfl⟩
    go_wp2_with fail
    refine (zm1 t B R sv st 3 (i:Nat) _ HH.out).mono ?_
    rintro e w1 ⟨rfl,h1,b1⟩
    have H1:Hid (_/\_):=And.intro h1 b1
    clear h1 b1
    go_wp2_with fail
    refine (zb2 t ht B R sv _ _ H1.out.1).mono ?_
    rintro e w2 ⟨rfl,h2,b2⟩
    go_wp2_with fail
    go_ret2
    rw [HN.out]
    exact ⟨rfl,h2,H1.out.2.trans b2⟩
  .have HN:Hid (za5 t st most=(V,true,za4 st)):=by show _=_;rw [hN,if_pos rfl,if_neg hr]
   have hc0:1<=V:=by omega
   have hc:V<=most:=by omega
   clear hb hN hr
   go_enter Tryz.func145,Tryz.ntmps145
   go_wp2_with fail
   refine (HC.out _).mono ?_
   rintro e w' ⟨rfl,rfl⟩
   go_wp2_with fail
   refine (zb2 t ht B R sv _ _ HH.out).mono ?_
   rintro e w2 ⟨rfl,h2,b2⟩
   go_wp2_with fail
   go_ret2
   rw [HN.out]
   exact ⟨rfl,h2,b2⟩
theorem zpv (t:ByteArray)(ht:t.size<=400)(B R:Nat)(sv:Value)(st:RSt)(kind:Int)(w:World)(h:RdAt t B w R sv st):
  Calls Tryz.prog 125 #[.pointer (some ⟨R,0,none⟩),.int .i64 kind] w fun e w'=>
   e=.returned (.tuple #[.int .i64 (za8 t st kind).1,.bool (za8 t st kind).2.1])/\RdAt t B w' R sv (za8 t st kind).2.2/\Below B w w':=by
 have HH:=zHd h
 clear h
 by_cases h5:kind=5
 .have HN:Hid (za8 t st kind=za5 t st 6):=if_pos h5
  have e5:(kind==5)=true:=by simp [h5]
  clear h5
  go_enter Tryz.func125,Tryz.ntmps125
  go_wp2_with fail
  refine (zfC t ht B R sv st 6 _ HH.out).mono ?_
  rintro e w1 ⟨rfl,h1,b1⟩
  go_wp2_with fail
  go_ret2
  rw [HN.out]
  exact ⟨rfl,h1,b1⟩
 .have e5:(kind==5)=false:=by simp [h5]
  by_cases h6:kind=6
  .have HN:Hid (za8 t st kind=za5 t st 9):=(if_neg h5).trans (if_pos h6)
   have e6:(kind==6)=true:=by simp [h6]
   clear h5 h6
   go_enter Tryz.func125,Tryz.ntmps125
   go_wp2_with fail
   refine (zfC t ht B R sv st 9 _ HH.out).mono ?_
   rintro e w1 ⟨rfl,h1,b1⟩
   go_wp2_with fail
   go_ret2
   rw [HN.out]
   exact ⟨rfl,h1,b1⟩
  .have HN:Hid (za8 t st kind=(0,true,st)):=(if_neg h5).trans (if_neg h6)
   have e6:(kind==6)=false:=by simp [h6]
   clear h5 h6
   go_enter Tryz.func125,Tryz.ntmps125
   go_wp2_with fail
   go_ret2
   rw [HN.out]
   exact ⟨rfl,HH.out,Below.refl _ _⟩
theorem zpu (t:ByteArray)(ht:t.size<=400)(B R:Nat)(sv:Value)(st:RSt)(kind:Int)(w:World)(h:RdAt t B w R sv st):
  Calls Tryz.prog 127 #[.pointer (some ⟨R,0,none⟩),.int .i64 kind] w fun e w'=>
   e=.returned (.tuple #[.int .i64 (zb1 t st kind).1,.bool (zb1 t st kind).2.1])/\RdAt t B w' R sv (zb1 t st kind).2.2/\Below B w w':=by
 have HH:=zHd h
 clear h
 by_cases h2:kind=2
 .have e2:(kind==2)=true:=by simp [h2]
  have HN:Hid (zb1 t st kind=_):=if_pos (by omega)
  clear h2
  go_enter Tryz.func127,Tryz.ntmps127
  go_wp2_with fail
  refine (zfC t ht B R sv st 999 _ HH.out).mono ?_
  rintro e w1 ⟨rfl,h1,b1⟩
  go_wp2_with fail
  go_ret2
  rw [HN.out]
  exact ⟨rfl,h1,b1⟩
 by_cases h4:kind=4
 .have e4:(kind==4)=true:=by simp [h4]
  have HN:Hid (zb1 t st kind=_):=if_pos (by omega)
  have e2:(kind==2)=false:=by simp;omega
  clear h2 h4
  go_enter Tryz.func127,Tryz.ntmps127
  go_wp2_with fail
  refine (zfC t ht B R sv st 999 _ HH.out).mono ?_
  rintro e w1 ⟨rfl,h1,b1⟩
  go_wp2_with fail
  go_ret2
  rw [HN.out]
  exact ⟨rfl,h1,b1⟩
 by_cases h5:kind=5
 .have e5:(kind==5)=true:=by simp [h5]
  have HN:Hid (zb1 t st kind=_):=if_pos (by omega)
  have e2:(kind==2)=false:=by simp;omega
  have e4:(kind==4)=false:=by simp;omega
  clear h2 h4 h5
  go_enter Tryz.func127,Tryz.ntmps127
  go_wp2_with fail
  refine (zfC t ht B R sv st 999 _ HH.out).mono ?_
  rintro e w1 ⟨rfl,h1,b1⟩
  go_wp2_with fail
  go_ret2
  rw [HN.out]
  exact ⟨rfl,h1,b1⟩
 have HN:Hid (zb1 t st kind=(0,true,st)):=if_neg (by omega)
 have e2:(kind==2)=false:=by simp;omega
 have e4:(kind==4)=false:=by simp;omega
 have e5:(kind==5)=false:=by simp;omega
 clear h2 h4 h5
 go_enter Tryz.func127,Tryz.ntmps127
 go_wp2_with fail
 go_ret2
 rw [HN.out]
 exact ⟨rfl,HH.out,Below.refl _ _⟩
theorem zqY (t:ByteArray)(ht:t.size<=400)(B R:Nat)(sv:Value)(st:RSt)(kind:Int)(w:World)(h:RdAt t B w R sv st):
  Calls Tryz.prog 126 #[.pointer (some ⟨R,0,none⟩),.int .i64 kind] w fun e w'=>
   e=.returned (.tuple #[.int .i64 (zdt t st kind).1,.bool (zdt t st kind).2.1])/\RdAt t B w' R sv (zdt t st kind).2.2/\Below B w w':=by
 have HH:=zHd h
 have c1:w.cell? ⟨R,1,none⟩=some (.string (zcf t st.us)):=(zaa h.blk).trans rfl
 obtain ⟨s,hs⟩:∃ s,s=zcf t st.us:=⟨_,rfl⟩
 have hby:zaD t st=s.data.toList:=by rw [hs];rfl
 rw [<- hs] at c1
 have HC:Hid (∀ W,Calls Tryz.prog 146 #[.string s] W fun e w'=>e=.returned (.tuple #[.int .i64 (kV s.data.toList),.bool (kB s.data.toList)])/\w'=W):=fun W=>zpr s W
 have HKR:Hid ((kV (zaD t st),kB (zaD t st),if kB (zaD t st) then za4 st else st)=(kV s.data.toList,kB s.data.toList,if kB s.data.toList then za4 st else st)):=by show _=_;rw [hby]
 clear h hs hby
 by_cases h1:kind=1
 .have e1:(kind==1)=true:=by simp [h1]
  have HN:Hid (zdt t st kind=_):=if_pos (by omega)
  clear h1
  cases hb:kB s.data.toList with
  | false=>
   rw [hb] at HC HKR
   have HM:=HN.out.trans HKR.out
   have HM2:=zHd HM
   clear HM hb
   go_enter Tryz.func126,Tryz.ntmps126
   go_wp2_with fail
   refine (HC.out _).mono ?_
   rintro e w' ⟨rfl,rfl⟩
   go_wp2_with fail
   go_ret2
   rw [HM2.out]
   exact ⟨rfl,HH.out,Below.refl _ _⟩
  | true=>
   rw [hb] at HC HKR
   have HM:=HN.out.trans HKR.out
   have HM2:=zHd HM
   clear HM hb
   go_enter Tryz.func126,Tryz.ntmps126
   go_wp2_with fail
   refine (HC.out _).mono ?_
   rintro e w' ⟨rfl,rfl⟩
   go_wp2_with fail
   refine (zb2 t ht B R sv _ _ HH.out).mono ?_
   rintro e w2 ⟨rfl,h2,b2⟩
   go_wp2_with fail
   go_ret2
   rw [HM2.out]
   exact ⟨rfl,h2,b2⟩
 by_cases h4:kind=4
 .have e4:(kind==4)=true:=by simp [h4]
  have HN:Hid (zdt t st kind=_):=if_pos (by omega)
  have e1:(kind==1)=false:=by simp;omega
  clear h1 h4
  cases hb:kB s.data.toList with
  | false=>
   rw [hb] at HC HKR
   have HM:=HN.out.trans HKR.out
   have HM2:=zHd HM
   clear HM hb
   go_enter Tryz.func126,Tryz.ntmps126
   go_wp2_with fail
   refine (HC.out _).mono ?_
   rintro e w' ⟨rfl,rfl⟩
   go_wp2_with fail
   go_ret2
   rw [HM2.out]
   exact ⟨rfl,HH.out,Below.refl _ _⟩
  | true=>
   rw [hb] at HC HKR
   have HM:=HN.out.trans HKR.out
   have HM2:=zHd HM
   clear HM hb
   go_enter Tryz.func126,Tryz.ntmps126
   go_wp2_with fail
   refine (HC.out _).mono ?_
   rintro e w' ⟨rfl,rfl⟩
   go_wp2_with fail
   refine (zb2 t ht B R sv _ _ HH.out).mono ?_
   rintro e w2 ⟨rfl,h2,b2⟩
   go_wp2_with fail
   go_ret2
   rw [HM2.out]
   exact ⟨rfl,h2,b2⟩
 by_cases h5:kind=5
 .have e5:(kind==5)=true:=by simp [h5]
  have HN:Hid (zdt t st kind=_):=if_pos (by omega)
  have e1:(kind==1)=false:=by simp;omega
  have e4:(kind==4)=false:=by simp;omega
  clear h1 h4 h5
  cases hb:kB s.data.toList with
  | false=>
   rw [hb] at HC HKR
   have HM:=HN.out.trans HKR.out
   have HM2:=zHd HM
   clear HM hb
   go_enter Tryz.func126,Tryz.ntmps126
   go_wp2_with fail
   refine (HC.out _).mono ?_
   rintro e w' ⟨rfl,rfl⟩
   go_wp2_with fail
   go_ret2
   rw [HM2.out]
   exact ⟨rfl,HH.out,Below.refl _ _⟩
  | true=>
   rw [hb] at HC HKR
   have HM:=HN.out.trans HKR.out
   have HM2:=zHd HM
   clear HM hb
   go_enter Tryz.func126,Tryz.ntmps126
   go_wp2_with fail
   refine (HC.out _).mono ?_
   rintro e w' ⟨rfl,rfl⟩
   go_wp2_with fail
   refine (zb2 t ht B R sv _ _ HH.out).mono ?_
   rintro e w2 ⟨rfl,h2,b2⟩
   go_wp2_with fail
   go_ret2
   rw [HM2.out]
   exact ⟨rfl,h2,b2⟩
 have HN:Hid (zdt t st kind=(0,true,st)):=if_neg (by omega)
 have e1:(kind==1)=false:=by simp;omega
 have e4:(kind==4)=false:=by simp;omega
 have e5:(kind==5)=false:=by simp;omega
 clear h1 h4 h5
 go_enter Tryz.func126,Tryz.ntmps126
 go_wp2_with fail
 go_ret2
 rw [HN.out]
 exact ⟨rfl,HH.out,Below.refl _ _⟩
open Go.RowKit Go.Proofs.Herald
def zf9 (t:ByteArray)(n:Nat)(blk:RSt->Bool×RSt):Prop:=
 ∀ (B R:Nat) (sv:Value) (st:RSt) (w:World),st.us.length<n->0<=st.deep->st.deep+(st.us.length:Int)<=900->st.fl.length+st.us.length<=400->0<=st.heavy->st.heavy<=65->RdAt t B w R sv st ->
  Calls Tryz.prog 84 #[.pointer (some ⟨R,0,none⟩),.string ⟨#[125]⟩] w fun e w'=>e=.returned (.bool (blk st).1)/\(∃ sv',RdAt t B w' R sv' (blk st).2)/\Below B w w'/\((blk st).1=true->Keeps st (blk st).2)/\Grows st (blk st).2
theorem zeg {w:World}{B:Nat}{e:TypeId}{size:Nat}{v:Value}{n:Nat}{xs:List Value}(h:w.ownsRow B e size v n xs):∃ a cap,v=.slice a n cap:=by
 rcases h.2 with ⟨rfl,h0⟩|⟨g,cap,cur,rfl,_⟩
 .exact ⟨none,0,by rw [h0]⟩
 .exact ⟨_,_,rfl⟩
theorem zgH (t:ByteArray)(ht:t.size<=400)(n:Nat)(blk:RSt->Bool×RSt)(hblk:zf9 t n blk)(B R:Nat)(sv:Value)(st:RSt)(w:World)(h:RdAt t B w R sv st)
  (hn:st.us.length<=n) (hd0:0<=st.deep) (hd:st.deep+(st.us.length:Int)<=900) (hm:st.fl.length+st.us.length<=400) (hh0:0<=st.heavy) (hh:st.heavy<=65):
  Calls Tryz.prog 147 #[.pointer (some ⟨R,0,none⟩)] w fun e w'=>
   e=.returned (.tuple #[.int .i64 ((zaC t blk st).1:Nat),.bool (zaC t blk st).2.1])/\(∃ sv',RdAt t B w' R sv' (zaC t blk st).2.2)/\Below B w w'/\((zaC t blk st).2.1=true->Keeps st (zaC t blk st).2.2/\(zaC t blk st).2.2.us.length<st.us.length)/\Grows st (zaC t blk st).2.2:=by
 have c1:w.cell? ⟨R,1,none⟩=some (.string (zcf t st.us)):=(zaa h.blk).trans rfl
 have c2:w.cell? ⟨R,2,none⟩=some (.int .i64 (atR t st.us:Nat)):=(zaa h.blk).trans rfl
 have c4:w.cell? ⟨R,4,none⟩=some (.int .i64 st.deep):=(zaa h.blk).trans rfl
 have HH:=zHd h
 obtain ⟨s,hs⟩:∃ s,s=zcf t st.us:=⟨_,rfl⟩
 have hby:zaD t st=s.data.toList:=by rw [hs];rfl
 rw [<- hs] at c1
 by_cases ho:s.data.toList=zbV
 .have e0:(s.toList==[123])=true:=zaO ho
  obtain ⟨a,cap,hsv⟩:=zeg h.own
  subst hsv
  have hpos:0<st.us.length:=by
   cases hu:st.us with
   | nil=>
    exfalso
    rw [hs,hu] at ho
    have he:(zcf t []).data.toList=[]:=rfl
    rw [he] at ho
    exact absurd ho (by decide)
   | cons p q=>simp
  have hft:st.fl.length<=400:=by omega
  have hbr:zaD t st=zbV:=by rw [hby];exact ho
  clear ho hby hs h
  by_cases hdp:4<=st.deep
  .obtain ⟨r,hR⟩:∃ r,r=blk (za4 {(zbc st 4 (atR t st.us:Nat)) with deep:=(zbc st 4 (atR t st.us:Nat)).deep+1}):=⟨_,rfl⟩
   have HN:Hid (zaC t blk st=if r.1 then (r.2.fl.length - st.fl.length,true,za4 {r.2 with deep:=r.2.deep - 1}) else (0,false,r.2)):=by
    show _=_
    unfold zaC
    rw [if_neg (by rw [hbr];simp),hR,if_pos hdp]
   have HS:Hid (_/\_/\_/\_):=zdg st 4 (atR t st.us:Nat)
   have HP:Hid ((za4 {(zbc st 4 (atR t st.us:Nat)) with deep:=(zbc st 4 (atR t st.us:Nat)).deep+1}).us.length<n/\0<=(zbc st 4 (atR t st.us:Nat)).deep+1/\(zbc st 4 (atR t st.us:Nat)).deep+1+((za4 {(zbc st 4 (atR t st.us:Nat)) with deep:=(zbc st 4 (atR t st.us:Nat)).deep+1}).us.length:Int)<=900 /\
     (zbc st 4 (atR t st.us:Nat)).fl.length+(za4 {(zbc st 4 (atR t st.us:Nat)) with deep:=(zbc st 4 (atR t st.us:Nat)).deep+1}).us.length<=400/\0<=(zbc st 4 (atR t st.us:Nat)).heavy/\(zbc st 4 (atR t st.us:Nat)).heavy<=65):=by
    show _/\_
    simp only [za4,List.length_tail]
    rw [HS.out.1,HS.out.2.1,HS.out.2.2.1,HS.out.2.2.2]
    omega
   clear hbr
   go_enter Tryz.func147,Tryz.ntmps147
   go_wp2_with fail
   refine (zm1 t B R _ st 4 (atR t st.us:Nat) _ HH.out).mono ?_
   rintro e w1 ⟨rfl,h1,b1⟩
   have HH1:=zHd h1
   have HB1:Hid (Below B w w1):=b1
   clear h1 b1
   have c3:w1.cell? ⟨R,3,none⟩=some (.slice a st.fl.length cap):=by rw [zaa HH1.out.blk];rfl
   have c4:w1.cell? ⟨R,4,none⟩=some (.int .i64 st.deep):=by rw [zaa HH1.out.blk];show some (Value.int .i64 (zbc st 4 (atR t st.us:Nat)).deep)=_;rw [HS.out.1]
   have z4:w1.frozen? ⟨R,4,none⟩=false:=zab HH1.out.blk
   have HRD:Hid (RdAt t B (w1.setCell ⟨R,4,none⟩ (.int .i64 (st.deep+1))) R (.slice a st.fl.length cap) {(zbc st 4 (atR t st.us:Nat)) with deep:=(zbc st 4 (atR t st.us:Nat)).deep+1}):=HH1.out.set 4 _ rfl HH1.out.suf (by rw [HS.out.1];rfl)
   go_wp2_with fail
   refine (zb2 t ht B R _ _ _ HRD.out).mono ?_
   rintro e w2 ⟨rfl,h2,b2⟩
   have H2:Hid (_/\_):=And.intro h2 b2
   clear h2 b2 c3 c4 z4
   go_wp2_with fail
   refine (hblk B R _ (za4 {(zbc st 4 (atR t st.us:Nat)) with deep:=(zbc st 4 (atR t st.us:Nat)).deep+1}) _ HP.out.1 HP.out.2.1 HP.out.2.2.1 HP.out.2.2.2.1 HP.out.2.2.2.2.1 HP.out.2.2.2.2.2 H2.out.1).mono ?_
   rw [<- hR]
   clear hR
   rintro e w3 ⟨rfl,⟨sv3,h3⟩,b3,k3,g3⟩
   have HBW:Hid (Below B w w3):=HB1.out.trans (((Below.refl B w1).setCell (p:=⟨R,4,none⟩) HH1.out.le _).trans (H2.out.2.trans b3))
   have HG3:Hid (Grows st r.2):=by
    obtain ⟨g1,g2⟩:=g3
    simp only [za4,List.length_tail] at g1 g2
    first|(rw [HS.out.2.2.1] at g1 g2;rw [HS.out.2.2.2] at g2;exact ⟨g1,by omega⟩)|exact ⟨g1,by omega⟩
   clear g3
   obtain ⟨a3,cap3,hsv3⟩:=zeg h3.own
   rw [hsv3] at h3
   have H3:=zHd h3
   clear h3 b3 hsv3
   cases hr1:r.1 with
   | false=>
    have HN2:Hid (zaC t blk st=(0,false,r.2)):=HN.out.trans (if_neg (by rw [hr1];simp))
    clear k3 hr1
    go_wp2_with fail
    go_ret2
    rw [HN2.out]
    exact ⟨rfl,⟨_,H3.out⟩,HBW.out,fun h=>absurd h (by simp),HG3.out⟩
   | true=>
    have HN2:Hid (zaC t blk st=(r.2.fl.length - st.fl.length,true,za4 {r.2 with deep:=r.2.deep - 1})):=HN.out.trans (if_pos hr1)
    have kk:=k3 hr1
    have kd:r.2.deep=st.deep+1:=by rw [kk.deep];show (zbc st 4 (atR t st.us:Nat)).deep+1=_;rw [HS.out.1]
    have kg:st.fl.length<=r.2.fl.length:=by have:=kk.grows;simp only [za4] at this;rw [HS.out.2.2.1] at this;exact this
    have km:=kk.mass
    have kl:=kk.less
    simp only [za4] at km kl
    rw [HS.out.2.2.1,HS.out.2.2.2] at km
    rw [HS.out.2.2.2] at kl
    have kb:r.2.fl.length<=400:=by simp only [List.length_tail] at km;omega
    have kh:r.2.heavy=st.heavy:=by rw [kk.heavy];exact HS.out.2.1
    have d4:w3.cell? ⟨R,4,none⟩=some (.int .i64 (st.deep+1)):=by rw [zaa H3.out.blk];show some (Value.int .i64 r.2.deep)=_;rw [kd]
    have z4:w3.frozen? ⟨R,4,none⟩=false:=zab H3.out.blk
    have HRD3:Hid (RdAt t B (w3.setCell ⟨R,4,none⟩ (.int .i64 st.deep)) R (.slice a3 r.2.fl.length cap3) {r.2 with deep:=r.2.deep - 1}):=H3.out.set 4 _ rfl H3.out.suf (by rw [kd,show st.deep+1 - 1=st.deep from by omega];rfl)
    have HKP:Hid (Keeps st (za4 {r.2 with deep:=r.2.deep - 1})/\(za4 {r.2 with deep:=r.2.deep - 1}).us.length<st.us.length):=by
     simp only [List.length_tail] at km kl
     refine ⟨⟨?_,kh,kg,?_,?_⟩,?_⟩
     .show r.2.deep - 1=_;omega
     .show r.2.fl.length+r.2.us.tail.length<=_;rw [List.length_tail];omega
     .show r.2.us.tail.length<=_;rw [List.length_tail];omega
     .show r.2.us.tail.length < _;rw [List.length_tail];omega
    have HKD:Hid (r.2.deep=st.deep+1):=kd
    clear k3 hr1 kk kd km kl kh
    go_wp2_with fail
    refine (zb2 t ht B R _ _ _ HRD3.out).mono ?_
    rintro e w4 ⟨rfl,h4,b4⟩
    have e3:w4.cell? ⟨R,3,none⟩=some (.slice a3 r.2.fl.length cap3):=by rw [zaa h4.blk];rfl
    have H4:Hid (_/\_):=And.intro h4 b4
    clear h4 b4 d4 z4
    go_wp2_with fail
    go_ret2
    rw [HN2.out]
    refine ⟨zfX (a:=(r.2.fl.length:Int) - (st.fl.length:Int)) (by show _=((r.2.fl.length - st.fl.length:Nat):Int);omega) rfl,⟨_,H4.out.1⟩,?_,fun _=>HKP.out,HKP.out.1.grown⟩
    exact HBW.out.trans (((Below.refl B w3).setCell (p:=⟨R,4,none⟩) H3.out.le _).trans H4.out.2)
  .obtain ⟨r,hR⟩:∃ r,r=blk (za4 {st with deep:=st.deep+1}):=⟨_,rfl⟩
   have HN:Hid (zaC t blk st=if r.1 then (r.2.fl.length - st.fl.length,true,za4 {r.2 with deep:=r.2.deep - 1}) else (0,false,r.2)):=by
    show _=_
    unfold zaC
    rw [if_neg (by rw [hbr];simp),hR,if_neg hdp]
   have HS:Hid (st.deep=st.deep/\st.heavy=st.heavy/\st.fl=st.fl/\st.us=st.us):=⟨rfl,rfl,rfl,rfl⟩
   have HP:Hid ((za4 {st with deep:=st.deep+1}).us.length<n/\0<=st.deep+1/\st.deep+1+((za4 {st with deep:=st.deep+1}).us.length:Int)<=900/\st.fl.length+(za4 {st with deep:=st.deep+1}).us.length<=400/\0<=st.heavy/\st.heavy<=65):=by
    show _/\_
    simp only [za4,List.length_tail]
    omega
   have hdp':st.deep<4:=by omega
   clear hbr hdp
   go_enter Tryz.func147,Tryz.ntmps147
   have c3:w.cell? ⟨R,3,none⟩=some (.slice a st.fl.length cap):=by rw [zaa HH.out.blk];rfl
   have c4:w.cell? ⟨R,4,none⟩=some (.int .i64 st.deep):=by rw [zaa HH.out.blk];show some (Value.int .i64 (st).deep)=_;rw [HS.out.1]
   have z4:w.frozen? ⟨R,4,none⟩=false:=zab HH.out.blk
   have HRD:Hid (RdAt t B (w.setCell ⟨R,4,none⟩ (.int .i64 (st.deep+1))) R (.slice a st.fl.length cap) {(st) with deep:=(st).deep+1}):=HH.out.set 4 _ rfl HH.out.suf (by rw [HS.out.1];rfl)
   go_wp2_with fail
   refine (zb2 t ht B R _ _ _ HRD.out).mono ?_
   rintro e w2 ⟨rfl,h2,b2⟩
   have H2:Hid (_/\_):=And.intro h2 b2
   clear h2 b2 c3 c4 z4
   go_wp2_with fail
   refine (hblk B R _ (za4 {(st) with deep:=(st).deep+1}) _ HP.out.1 HP.out.2.1 HP.out.2.2.1 HP.out.2.2.2.1 HP.out.2.2.2.2.1 HP.out.2.2.2.2.2 H2.out.1).mono ?_
   rw [<- hR]
   clear hR
   rintro e w3 ⟨rfl,⟨sv3,h3⟩,b3,k3,g3⟩
   have HBW:Hid (Below B w w3):=(Below.refl B w).trans (((Below.refl B w).setCell (p:=⟨R,4,none⟩) HH.out.le _).trans (H2.out.2.trans b3))
   have HG3:Hid (Grows st r.2):=by
    obtain ⟨g1,g2⟩:=g3
    simp only [za4,List.length_tail] at g1 g2
    first|(rw [HS.out.2.2.1] at g1 g2;rw [HS.out.2.2.2] at g2;exact ⟨g1,by omega⟩)|exact ⟨g1,by omega⟩
   clear g3
   obtain ⟨a3,cap3,hsv3⟩:=zeg h3.own
   rw [hsv3] at h3
   have H3:=zHd h3
   clear h3 b3 hsv3
   cases hr1:r.1 with
   | false=>
    have HN2:Hid (zaC t blk st=(0,false,r.2)):=HN.out.trans (if_neg (by rw [hr1];simp))
    clear k3 hr1
    go_wp2_with fail
    go_ret2
    rw [HN2.out]
    exact ⟨rfl,⟨_,H3.out⟩,HBW.out,fun h=>absurd h (by simp),HG3.out⟩
   | true=>
    have HS:Hid (st.deep=st.deep/\st.heavy=st.heavy/\st.fl=st.fl/\st.us=st.us):=⟨rfl,rfl,rfl,rfl⟩
    have HN2:Hid (zaC t blk st=(r.2.fl.length - st.fl.length,true,za4 {r.2 with deep:=r.2.deep - 1})):=HN.out.trans (if_pos hr1)
    have kk:=k3 hr1
    have kd:r.2.deep=st.deep+1:=by rw [kk.deep];show (st).deep+1=_;rw [HS.out.1]
    have kg:st.fl.length<=r.2.fl.length:=by have:=kk.grows;simp only [za4] at this;rw [HS.out.2.2.1] at this;exact this
    have km:=kk.mass
    have kl:=kk.less
    simp only [za4] at km kl
    rw [HS.out.2.2.1,HS.out.2.2.2] at km
    rw [HS.out.2.2.2] at kl
    have kb:r.2.fl.length<=400:=by simp only [List.length_tail] at km;omega
    have kh:r.2.heavy=st.heavy:=by rw [kk.heavy];exact HS.out.2.1
    have d4:w3.cell? ⟨R,4,none⟩=some (.int .i64 (st.deep+1)):=by rw [zaa H3.out.blk];show some (Value.int .i64 r.2.deep)=_;rw [kd]
    have z4:w3.frozen? ⟨R,4,none⟩=false:=zab H3.out.blk
    have HRD3:Hid (RdAt t B (w3.setCell ⟨R,4,none⟩ (.int .i64 st.deep)) R (.slice a3 r.2.fl.length cap3) {r.2 with deep:=r.2.deep - 1}):=H3.out.set 4 _ rfl H3.out.suf (by rw [kd,show st.deep+1 - 1=st.deep from by omega];rfl)
    have HKP:Hid (Keeps st (za4 {r.2 with deep:=r.2.deep - 1})/\(za4 {r.2 with deep:=r.2.deep - 1}).us.length<st.us.length):=by
     simp only [List.length_tail] at km kl
     refine ⟨⟨?_,kh,kg,?_,?_⟩,?_⟩
     .show r.2.deep - 1=_;omega
     .show r.2.fl.length+r.2.us.tail.length<=_;rw [List.length_tail];omega
     .show r.2.us.tail.length<=_;rw [List.length_tail];omega
     .show r.2.us.tail.length < _;rw [List.length_tail];omega
    have HKD:Hid (r.2.deep=st.deep+1):=kd
    clear k3 hr1 kk kd km kl kh
    go_wp2_with fail
    refine (zb2 t ht B R _ _ _ HRD3.out).mono ?_
    rintro e w4 ⟨rfl,h4,b4⟩
    have e3:w4.cell? ⟨R,3,none⟩=some (.slice a3 r.2.fl.length cap3):=by rw [zaa h4.blk];rfl
    have H4:Hid (_/\_):=And.intro h4 b4
    clear h4 b4 d4 z4
    go_wp2_with fail
    go_ret2
    rw [HN2.out]
    refine ⟨zfX (a:=(r.2.fl.length:Int) - (st.fl.length:Int)) (by show _=((r.2.fl.length - st.fl.length:Nat):Int);omega) rfl,⟨_,H4.out.1⟩,?_,fun _=>HKP.out,HKP.out.1.grown⟩
    exact HBW.out.trans (((Below.refl B w3).setCell (p:=⟨R,4,none⟩) H3.out.le _).trans H4.out.2)
 .have HN:Hid (zaC t blk st=(0,false,st)):=by show _=_;unfold zaC;rw [if_pos (by rw [hby];exact ho)]
  have e0:(s.toList==[123])=false:=zas ho
  clear ho hby hs h
  go_enter Tryz.func147,Tryz.ntmps147
  go_wp2_with fail
  go_ret2
  rw [HN.out]
  exact ⟨rfl,⟨sv,HH.out⟩,Below.refl _ _,fun h=>absurd h (by simp),Grows.refl _⟩
open Go.RowKit Go.Proofs.Herald
theorem zbW (x:Nd)(r:List Nd):zbJ (x::r)=zaX x++zbJ r:=by simp [zbJ]
theorem zdx:∀ (l:List Nd)(i k:Nat),i<l.length->zbJ (zaB l i k)=(zbJ l).set (i*6+4) (.int .i64 (k:Nat)):=by
 intro l
 induction l with
 | nil=>intro i k hi;simp at hi
 | cons x r ih=>
  intro i k hi
  cases i with
  | zero=>
   have e:zaB (x::r) 0 k={x with body:=k}::r:=by simp [zaB]
   rw [e,zbW,zbW,List.set_append_left _ _ (by show 0*6+4<6;omega)]
   rfl
  | succ i=>
   have e:zaB (x::r) (i+1) k=x::zaB r i k:=by simp [zaB]
   have h6:(zaX x).length=6:=rfl
   rw [e,zbW,zbW,ih i k (by simpa using hi),List.set_append_right _ _ (by omega),h6,show (i+1)*6+4 - 6=i*6+4 from by omega]
theorem zhn:∀ (l:List Nd)(i k:Nat),i<l.length->zbJ (zbR l i k)=(zbJ l).set (i*6+5) (.int .i64 (k:Nat)):=by
 intro l
 induction l with
 | nil=>intro i k hi;simp at hi
 | cons x r ih=>
  intro i k hi
  cases i with
  | zero=>
   have e:zbR (x::r) 0 k={x with els:=k}::r:=by simp [zbR]
   rw [e,zbW,zbW,List.set_append_left _ _ (by show 0*6+5<6;omega)]
   rfl
  | succ i=>
   have e:zbR (x::r) (i+1) k=x::zbR r i k:=by simp [zbR]
   have h6:(zaX x).length=6:=rfl
   rw [e,zbW,zbW,ih i k (by simpa using hi),List.set_append_right _ _ (by omega),h6,show (i+1)*6+5 - 6=i*6+5 from by omega]
theorem zkI {w:World}{B:Nat}{e:TypeId}{size n g cap:Nat}{xs:List Value}(h:w.ownsRow B e size (.slice (some ⟨g,0,none⟩) n cap) n xs)(p:Nat)(v:Value):
  (w.setCell ⟨g,p,none⟩ v).ownsRow B e size (.slice (some ⟨g,0,none⟩) n cap) n (xs.set p v):=by
 refine ⟨by rw [List.length_set];exact h.1,.inr ?_⟩
 rcases h.2 with ⟨h1,_⟩|⟨g',cap',cur,hv,hb,hg,hn,hm,hs,ht⟩
 .cases h1
 .simp at hv
  obtain ⟨rfl,rfl⟩:=hv
  refine ⟨g,cap,cur.setIfInBounds p v,rfl,hb,zah v hg,hn,hm,by simpa using hs,?_⟩
  rw [Array.toList_setIfInBounds,List.take_set,ht]
theorem RdAt.row {t:ByteArray}{B:Nat}{w:World}{R g cap:Nat}{st:RSt}(h:RdAt t B w R (.slice (some ⟨g,0,none⟩) st.fl.length cap) st)(p:Nat)(v:Value)(fl':List Nd)(hl:fl'.length=st.fl.length)(hc:zbJ fl'=(zbJ st.fl).set p v):
  RdAt t B (w.setCell ⟨g,p,none⟩ v) R (.slice (some ⟨g,0,none⟩) st.fl.length cap) {st with fl:=fl'}:=by
 obtain ⟨hB,cur,hg⟩:=zbo h.own (k:=g) rfl
 refine ⟨h.le,by rw [Below.heap_setCell _ _ _ _ (zac h.blk hg (by decide))];exact h.blk,?_,h.suf⟩
 show World.ownsRow _ B _ 6 _ fl'.length (zbJ fl')
 rw [hl,hc]
 exact zkI h.own p v
theorem RdAt.cellAt {t:ByteArray}{B:Nat}{w:World}{R:Nat}{sv:Value}{st:RSt}(h:RdAt t B w R sv st)(i:Nat)(hi:i<st.fl.length):
  ∃ g cap,sv=.slice (some ⟨g,0,none⟩) st.fl.length cap/\B<=g/\st.fl.length<=cap/\w.cell? ⟨g,i*6+4,none⟩=some (.int .i64 (st.fl[i].body:Nat))/\w.cell? ⟨g,i*6+5,none⟩=some (.int .i64 (st.fl[i].els:Nat)) /\
   w.frozen? ⟨g,i*6+4,none⟩=false/\w.frozen? ⟨g,i*6+5,none⟩=false:=by
 rcases h.own.2 with ⟨_,h0⟩|⟨g,cap,cur,hv,hb,hg,hn,_⟩
 .omega
 .have hc:=h.own.cells (g:=g) (by rw [hv];rfl)
  have k4:=hc (i*6+4) (.int .i64 (st.fl[i].body:Nat)) (by rw [zeQ _ i hi 4 (by omega)];rfl)
  have k5:=hc (i*6+5) (.int .i64 (st.fl[i].els:Nat)) (by rw [zeQ _ i hi 5 (by omega)];rfl)
  rw [Addr.add_lit,Nat.zero_add] at k4 k5
  exact ⟨g,cap,hv,hb,hn,k4,k5,zab hg,zab hg⟩
open Go.RowKit Go.Proofs.Herald
theorem zaS (l:List Nd)(i k:Nat):(zaB l i k).length=l.length:=by simp [zaB]
theorem zc9 (l:List Nd)(i k:Nat):(zbR l i k).length=l.length:=by simp [zbR]
theorem zlS (t:ByteArray)(ht:t.size<=400)(n:Nat)(blk:RSt->Bool×RSt)(hblk:zf9 t n blk)(B R:Nat)(sv:Value)(st:RSt)(i:Nat)(w:World)(h:RdAt t B w R sv st)
  (hn:st.us.length<=n) (hd0:0<=st.deep) (hd:st.deep+(st.us.length:Int)<=900) (hm:st.fl.length+st.us.length<=400) (hh0:0<=st.heavy) (hh:st.heavy<=65) (hi:i<st.fl.length):
  Calls Tryz.prog 128 #[.pointer (some ⟨R,0,none⟩),.int .i64 (i:Nat)] w fun e w'=>
   e=.returned (.bool (zba t blk st i).1)/\(∃ sv',RdAt t B w' R sv' (zba t blk st i).2)/\Below B w w'/\((zba t blk st i).1=true->Keeps st (zba t blk st i).2)/\Grows st (zba t blk st i).2:=by
 obtain ⟨a,ha⟩:∃ a,a=zaC t blk st:=⟨_,rfl⟩
 have hcb:=zgH t ht n blk hblk B R sv st w h hn hd0 hd hm hh0 hh
 rw [<- ha] at hcb
 have HCB:=zHd hcb
 have hN0:zba t blk st i=if a.2.1 then (if zaD t {a.2.2 with fl:=zaB a.2.2.fl i a.1}=zdq then ((zaC t blk (za4 {a.2.2 with fl:=zaB a.2.2.fl i a.1})).2.1,{(zaC t blk (za4 {a.2.2 with fl:=zaB a.2.2.fl i a.1})).2.2 with fl:=zbR (zaC t blk (za4 {a.2.2 with fl:=zaB a.2.2.fl i a.1})).2.2.fl i (zaC t blk (za4 {a.2.2 with fl:=zaB a.2.2.fl i a.1})).1}) else (true,{a.2.2 with fl:=zaB a.2.2.fl i a.1})) else (false,a.2.2):=by
  unfold zba;rw [ha]
 have HN0:=zHd hN0
 clear hcb ha hN0 h
 go_enter Tryz.func128,Tryz.ntmps128
 go_wp2_with fail
 refine HCB.out.mono ?_
 rintro e w1 ⟨rfl,⟨sv1,h1⟩,b1,k1,g1⟩
 cases hr:a.2.1 with
 | false=>
  have HN:Hid (zba t blk st i=(false,a.2.2)):=HN0.out.trans (if_neg (by rw [hr];simp))
  have HP:Hid (_/\_/\_):=And.intro h1 (And.intro b1 g1)
  clear hr k1 h1 b1 g1 HCB HN0
  go_wp2_with fail
  go_ret
  rw [HN.out]
  exact ⟨rfl,⟨_,HP.out.1⟩,HP.out.2.1,fun h=>absurd h (by simp),HP.out.2.2⟩
 | true=>
  obtain ⟨k1,k1u⟩:=k1 hr
  have HN1:Hid (_=_):=HN0.out.trans (if_pos hr)
  obtain ⟨C,hC⟩:∃ C,C=a.1:=⟨_,rfl⟩
  obtain ⟨A,hA⟩:∃ A,A=a.2.2:=⟨_,rfl⟩
  rw [<- hC,<- hA] at HN1
  rw [<- hA] at h1 g1 k1 k1u
  have hiA:i<A.fl.length:=Nat.lt_of_lt_of_le hi g1.1
  obtain ⟨g,cap,hsv,hBg,hcap,c4,c5,z4,z5⟩:=h1.cellAt i hiA
  rw [hsv] at h1
  have hgR:g≠R:=by obtain ⟨_,cur,hg⟩:=zbo h1.own (k:=g) rfl;exact zac hg h1.blk (by decide)
  have d3:w1.cell? ⟨R,3,none⟩=some (.slice (some ⟨g,0,none⟩) A.fl.length cap):=by rw [zaa h1.blk];rfl
  have d1:w1.cell? ⟨R,1,none⟩=some (.string (zcf t A.us)):=by rw [zaa h1.blk];rfl
  have hl400:A.fl.length<=400:=by have:=g1.2;omega
  have H2:Hid (RdAt t B (w1.setCell ⟨g,i*6+4,none⟩ (.int .i64 (C:Nat))) R (.slice (some ⟨g,0,none⟩) A.fl.length cap) {A with fl:=zaB A.fl i C}):=h1.row (i*6+4) _ _ (zaS _ _ _) (zdx _ _ _ hiA)
  have HB2:Hid (Below B w (w1.setCell ⟨g,i*6+4,none⟩ (.int .i64 (C:Nat)))):=b1.setCell (p:=⟨g,i*6+4,none⟩) hBg _
  obtain ⟨s,hs⟩:∃ s,s=zcf t A.us:=⟨_,rfl⟩
  have hby:zaD t {A with fl:=zaB A.fl i C}=s.data.toList:=by rw [hs];rfl
  rw [<- hs] at d1
  have HK:Hid (Keeps st {A with fl:=zaB A.fl i C}):=⟨k1.deep,k1.heavy,by show _<=(zaB A.fl i C).length;rw [zaS];exact k1.grows,by show (zaB A.fl i C).length+_<=_;rw [zaS];exact k1.mass,k1.less⟩
  rw [<- hC]
  clear hr HN0 HCB h1 b1 k1 hs hsv hC hA g1
  by_cases he:s.data.toList=zdq
  .have HN2:Hid (_=_):=HN1.out.trans (if_pos (by rw [hby];exact he))
   have e0:(s.toList==[101,108,115,101])=true:=zaO he
   have hne:(s.toList != [101,108,115,101])=false:=by simp [bne,e0]
   clear he hby HN1
   go_wp2_with fail
   refine (zb2 t ht B R _ _ _ H2.out).mono ?_
   rintro e w2 ⟨rfl,h2,b2⟩
   obtain ⟨D,hD⟩:∃ D,D=za4 {A with fl:=zaB A.fl i C}:=⟨_,rfl⟩
   rw [<- hD] at h2 HN2
   have hDl:D.fl.length=A.fl.length/\D.us.length<=A.us.length/\D.deep=A.deep/\D.heavy=A.heavy/\A.us.length<st.us.length:=by
    rw [hD];exact ⟨zaS _ _ _,by show A.us.tail.length<=_;rw [List.length_tail];omega,rfl,rfl,k1u⟩
   obtain ⟨q1,q2,q3,q4,q5⟩:=hDl
   have hKm:=HK.out.mass
   have hKl:=HK.out.less
   have hKd:=HK.out.deep
   have hKh:=HK.out.heavy
   simp only [zaS] at hKm hKl hKd hKh
   have HKD:Hid (Keeps st D):=⟨by rw [q3,hKd],by rw [q4,hKh],by have:=HK.out.grows;simp only [zaS] at this;omega,by omega,by omega⟩
   have hcb:=zgH t ht n blk hblk B R _ D w2 h2 (by omega) (by omega) (by omega) (by omega) (by omega) (by omega)
   obtain ⟨b,hb⟩:∃ b,b=zaC t blk D:=⟨_,rfl⟩
   rw [<- hb] at hcb HN2
   have HCB:=zHd hcb
   have HB3:Hid (Below B w w2):=HB2.out.trans b2
   clear hcb hb hD h2 b2 hKm hKl hKd hKh
   go_wp2_with fail
   refine HCB.out.mono ?_
   rintro e w3 ⟨rfl,⟨sv3,h3⟩,b3,k3,g3⟩
   have hi3:i<b.2.2.fl.length:=by have:=g3.1;omega
   obtain ⟨g',cap',hsv',hBg',hcap',c4',c5',z4',z5'⟩:=h3.cellAt i hi3
   rw [hsv'] at h3
   have d3':w3.cell? ⟨R,3,none⟩=some (.slice (some ⟨g',0,none⟩) b.2.2.fl.length cap'):=by rw [zaa h3.blk];rfl
   have hl3:b.2.2.fl.length<=400:=by have:=g3.2;have:=HKD.out.mass;omega
   have H4:Hid (RdAt t B (w3.setCell ⟨g',i*6+5,none⟩ (.int .i64 (b.1:Nat))) R (.slice (some ⟨g',0,none⟩) b.2.2.fl.length cap') {b.2.2 with fl:=zbR b.2.2.fl i b.1}):=h3.row (i*6+5) _ _ (zc9 _ _ _) (zhn _ _ _ hi3)
   have HB4:Hid (Below B w (w3.setCell ⟨g',i*6+5,none⟩ (.int .i64 (b.1:Nat)))):=(HB3.out.trans b3).setCell (p:=⟨g',i*6+5,none⟩) hBg' _
   have HK3:Hid ((b.2.1=true->Keeps D b.2.2/\b.2.2.us.length<D.us.length)/\Grows D b.2.2):=⟨k3,g3⟩
   clear HCB h3 b3 k3 g3 hsv'
   go_wp2_with fail
   go_ret
   rw [HN2.out]
   refine ⟨rfl,⟨_,H4.out⟩,HB4.out,fun h=>?_,?_⟩
   .have kk:=HKD.out.trans (HK3.out.1 h).1
    exact ⟨kk.deep,kk.heavy,by show _<=(zbR b.2.2.fl i b.1).length;rw [zc9];exact kk.grows,by show (zbR b.2.2.fl i b.1).length+_<=_;rw [zc9];exact kk.mass,kk.less⟩
   .have gg:=HKD.out.grown.trans HK3.out.2
    exact ⟨by show _<=(zbR b.2.2.fl i b.1).length;rw [zc9];exact gg.1,by show (zbR b.2.2.fl i b.1).length+_<=_;rw [zc9];exact gg.2⟩
  .have HN2:Hid (_=_):=HN1.out.trans (if_neg (by rw [hby];exact he))
   have e0:(s.toList==[101,108,115,101])=false:=zas he
   have hne:(s.toList != [101,108,115,101])=true:=by simp [bne,e0]
   clear he hby HN1
   go_wp2_with fail
   go_ret
   rw [HN2.out]
   exact ⟨rfl,⟨_,H2.out⟩,HB2.out,fun _=>HK.out,HK.out.grown⟩
open Go.RowKit Go.Proofs.Herald
theorem zlV (t:ByteArray)(ht:t.size<=400)(n:Nat)(blk:RSt->Bool×RSt)(hblk:zf9 t n blk)(B R:Nat)(sv:Value)(st:RSt)(i:Nat)(T p:Int)(w:World)(h:RdAt t B w R sv st)
  (hn:st.us.length<=n) (hd0:0<=st.deep) (hd:st.deep+(st.us.length:Int)<=900) (hm:st.fl.length+st.us.length<=400) (hh0:0<=st.heavy) (hh:st.heavy<=65) (hi:i<st.fl.length) (hT0:0<=T) (hT:T<=9999):
  Calls Tryz.prog 129 #[.pointer (some ⟨R,0,none⟩),.int .i64 (i:Nat),.int .i64 T,.int .i64 p] w fun e w'=>
   e=.returned (.bool (zbg t blk st i T p).1)/\(∃ sv',RdAt t B w' R sv' (zbg t blk st i T p).2)/\Below B w w'/\((zbg t blk st i T p).1=true->Keeps st (zbg t blk st i T p).2)/\Grows st (zbg t blk st i T p).2:=by
 have c5:w.cell? ⟨R,5,none⟩=some (.int .i64 st.heavy):=by rw [zaa h.blk];rfl
 have z5:w.frozen? ⟨R,5,none⟩=false:=zab h.blk
 have hp0:0<=st.heavy*T:=Int.mul_nonneg hh0 hT0
 have hp1:st.heavy*T<=649935:=by
  have h1:st.heavy*T<=65*T:=Int.mul_le_mul_of_nonneg_right hh hT0
  omega
 obtain ⟨K,hK⟩:∃ K,K=Go.Proofs.Herald.zbF st.heavy T:=⟨_,rfl⟩
 have hKb:0<=K/\K<=65:=by rw [hK];unfold Go.Proofs.Herald.zbF;split <;> omega
 obtain ⟨hK0,hK65⟩:=hKb
 have HCH:Hid (∀ W,Calls Tryz.prog 148 #[.int .i64 st.heavy,.int .i64 T] W fun e w'=>e=.returned (.int .i64 K)/\w'=W):=fun W=>by
  rw [hK];exact zmY st.heavy T W (by omega) (by omega)
 have H1:Hid (RdAt t B (w.setCell ⟨R,5,none⟩ (.int .i64 K)) R sv {st with heavy:=K}):=h.set 5 _ rfl h.suf rfl
 have HH:=zHd h
 have HB1:Hid (Below B w (w.setCell ⟨R,5,none⟩ (.int .i64 K))):=(Below.refl B w).setCell (p:=⟨R,5,none⟩) h.le _
 by_cases h64:64<K
 .obtain ⟨a,hA⟩:∃ a,a=zaC t blk (zbc {st with heavy:=K} 5 p):=⟨_,rfl⟩
  have HN:Hid (zbg t blk st i T p=(a.2.1,{a.2.2 with fl:=zaB a.2.2.fl i a.1,heavy:=st.heavy})):=by
   show _=_
   unfold zbg
   simp only [<- hK]
   rw [if_pos h64,<- hA]
  have HS:Hid ((zbc {st with heavy:=K} 5 p).deep=st.deep/\(zbc {st with heavy:=K} 5 p).heavy=K/\(zbc {st with heavy:=K} 5 p).fl=st.fl/\(zbc {st with heavy:=K} 5 p).us=st.us):=zdg _ 5 p
  have HP:Hid ((zbc {st with heavy:=K} 5 p).us.length<=n/\0<=(zbc {st with heavy:=K} 5 p).deep/\(zbc {st with heavy:=K} 5 p).deep+((zbc {st with heavy:=K} 5 p).us.length:Int)<=900/\(zbc {st with heavy:=K} 5 p).fl.length+(zbc {st with heavy:=K} 5 p).us.length<=400/\0<=(zbc {st with heavy:=K} 5 p).heavy/\(zbc {st with heavy:=K} 5 p).heavy<=65):=by
   show _/\_
   rw [HS.out.1,HS.out.2.1,HS.out.2.2.1,HS.out.2.2.2]
   omega
  clear hK h hp0 hp1
  go_enter Tryz.func129,Tryz.ntmps129
  go_wp2_with fail
  refine (HCH.out _).mono ?_
  rintro e w' ⟨rfl,hw'⟩
  rw [hw']
  clear hw' w'
  go_wp2_with fail
  refine (zm1 t B R sv {st with heavy:=K} 5 p _ H1.out).mono ?_
  rintro e w2 ⟨rfl,h2,b2⟩
  have H2:=zHd h2
  have HB2:Hid (Below B w w2):=HB1.out.trans b2
  clear h2 b2 c5 z5
  have hcb:=zgH t ht n blk hblk B R sv (zbc {st with heavy:=K} 5 p) w2 H2.out HP.out.1 HP.out.2.1 HP.out.2.2.1 HP.out.2.2.2.1 HP.out.2.2.2.2.1 HP.out.2.2.2.2.2
  rw [<- hA] at hcb
  have HCB:=zHd hcb
  clear hcb hA
  go_wp2_with fail
  refine HCB.out.mono ?_
  rintro e w3 ⟨rfl,⟨sv3,h3⟩,b3,k3,g3⟩
  have hg1:st.fl.length<=a.2.2.fl.length:=by have:=g3.1;rw [HS.out.2.2.1] at this;exact this
  have hg2:a.2.2.fl.length+a.2.2.us.length<=st.fl.length+st.us.length:=by have:=g3.2;rw [HS.out.2.2.1,HS.out.2.2.2] at this;exact this
  have hi3:i<a.2.2.fl.length:=by omega
  obtain ⟨g',cap',hsv',hBg',hcap',c4',c5',z4',z5'⟩:=h3.cellAt i hi3
  rw [hsv'] at h3
  have hgR:g'≠R:=by obtain ⟨_,cur,hg⟩:=zbo h3.own (k:=g') rfl;exact zac hg h3.blk (by decide)
  have d3':w3.cell? ⟨R,3,none⟩=some (.slice (some ⟨g',0,none⟩) a.2.2.fl.length cap'):=by rw [zaa h3.blk];rfl
  have d5':w3.cell? ⟨R,5,none⟩=some (.int .i64 a.2.2.heavy):=by rw [zaa h3.blk];rfl
  have y5':w3.frozen? ⟨R,5,none⟩=false:=zab h3.blk
  have hl3:a.2.2.fl.length<=400:=by omega
  have h4:RdAt t B (w3.setCell ⟨g',i*6+4,none⟩ (.int .i64 (a.1:Nat))) R (.slice (some ⟨g',0,none⟩) a.2.2.fl.length cap') {a.2.2 with fl:=zaB a.2.2.fl i a.1}:=h3.row (i*6+4) _ _ (zaS _ _ _) (zdx _ _ _ hi3)
  have H5:Hid (RdAt t B ((w3.setCell ⟨g',i*6+4,none⟩ (.int .i64 (a.1:Nat))).setCell ⟨R,5,none⟩ (.int .i64 st.heavy)) R (.slice (some ⟨g',0,none⟩) a.2.2.fl.length cap') {a.2.2 with fl:=zaB a.2.2.fl i a.1,heavy:=st.heavy}):=h4.set 5 _ rfl h4.suf rfl
  have HB5:Hid (Below B w ((w3.setCell ⟨g',i*6+4,none⟩ (.int .i64 (a.1:Nat))).setCell ⟨R,5,none⟩ (.int .i64 st.heavy))):=((HB2.out.trans b3).setCell (p:=⟨g',i*6+4,none⟩) hBg' _).setCell (p:=⟨R,5,none⟩) h3.le _
  have HK3:Hid ((a.2.1=true->Keeps st {a.2.2 with fl:=zaB a.2.2.fl i a.1,heavy:=st.heavy})/\Grows st {a.2.2 with fl:=zaB a.2.2.fl i a.1,heavy:=st.heavy}):=by
   refine ⟨fun hh=>⟨?_,rfl,?_,?_,?_⟩,?_,?_⟩
   .show a.2.2.deep=_;rw [(k3 hh).1.deep];exact HS.out.1
   .show _<=(zaB a.2.2.fl i a.1).length;rw [zaS];exact hg1
   .show (zaB a.2.2.fl i a.1).length+a.2.2.us.length<=_;rw [zaS];exact hg2
   .show a.2.2.us.length<=_;have:=(k3 hh).2;rw [HS.out.2.2.2] at this;omega
   .show _<=(zaB a.2.2.fl i a.1).length;rw [zaS];exact hg1
   .show (zaB a.2.2.fl i a.1).length+a.2.2.us.length<=_;rw [zaS];exact hg2
  clear HCB h3 h4 b3 k3 g3 hsv'
  go_wp2_with fail
  go_ret
  rw [HN.out]
  exact ⟨rfl,⟨_,H5.out⟩,HB5.out,HK3.out.1,HK3.out.2⟩
 .obtain ⟨a,hA⟩:∃ a,a=zaC t blk {st with heavy:=K}:=⟨_,rfl⟩
  have HN:Hid (zbg t blk st i T p=(a.2.1,{a.2.2 with fl:=zaB a.2.2.fl i a.1,heavy:=st.heavy})):=by
   show _=_
   unfold zbg
   simp only [<- hK]
   rw [if_neg h64,<- hA]
  have HP:Hid (st.us.length<=n/\0<=st.deep/\st.deep+(st.us.length:Int)<=900/\st.fl.length+st.us.length<=400/\0<=K/\K<=65):=by show _/\_;omega
  have h64':K<=64:=by omega
  clear hK h hp0 hp1 h64
  go_enter Tryz.func129,Tryz.ntmps129
  go_wp2_with fail
  refine (HCH.out _).mono ?_
  rintro e w' ⟨rfl,hw'⟩
  rw [hw']
  clear hw' w'
  have hcb:=zgH t ht n blk hblk B R sv ({st with heavy:=K}) _ H1.out HP.out.1 HP.out.2.1 HP.out.2.2.1 HP.out.2.2.2.1 HP.out.2.2.2.2.1 HP.out.2.2.2.2.2
  rw [<- hA] at hcb
  have HCB:=zHd hcb
  clear hcb hA
  go_wp2_with fail
  refine HCB.out.mono ?_
  rintro e w3 ⟨rfl,⟨sv3,h3⟩,b3,k3,g3⟩
  have hg1:st.fl.length<=a.2.2.fl.length:=by have:=g3.1;exact this
  have hg2:a.2.2.fl.length+a.2.2.us.length<=st.fl.length+st.us.length:=by have:=g3.2;exact this
  have hi3:i<a.2.2.fl.length:=by omega
  obtain ⟨g',cap',hsv',hBg',hcap',c4',c5',z4',z5'⟩:=h3.cellAt i hi3
  rw [hsv'] at h3
  have hgR:g'≠R:=by obtain ⟨_,cur,hg⟩:=zbo h3.own (k:=g') rfl;exact zac hg h3.blk (by decide)
  have d3':w3.cell? ⟨R,3,none⟩=some (.slice (some ⟨g',0,none⟩) a.2.2.fl.length cap'):=by rw [zaa h3.blk];rfl
  have d5':w3.cell? ⟨R,5,none⟩=some (.int .i64 a.2.2.heavy):=by rw [zaa h3.blk];rfl
  have y5':w3.frozen? ⟨R,5,none⟩=false:=zab h3.blk
  have hl3:a.2.2.fl.length<=400:=by omega
  have h4:RdAt t B (w3.setCell ⟨g',i*6+4,none⟩ (.int .i64 (a.1:Nat))) R (.slice (some ⟨g',0,none⟩) a.2.2.fl.length cap') {a.2.2 with fl:=zaB a.2.2.fl i a.1}:=h3.row (i*6+4) _ _ (zaS _ _ _) (zdx _ _ _ hi3)
  have H5:Hid (RdAt t B ((w3.setCell ⟨g',i*6+4,none⟩ (.int .i64 (a.1:Nat))).setCell ⟨R,5,none⟩ (.int .i64 st.heavy)) R (.slice (some ⟨g',0,none⟩) a.2.2.fl.length cap') {a.2.2 with fl:=zaB a.2.2.fl i a.1,heavy:=st.heavy}):=h4.set 5 _ rfl h4.suf rfl
  have HB5:Hid (Below B w ((w3.setCell ⟨g',i*6+4,none⟩ (.int .i64 (a.1:Nat))).setCell ⟨R,5,none⟩ (.int .i64 st.heavy))):=((HB1.out.trans b3).setCell (p:=⟨g',i*6+4,none⟩) hBg' _).setCell (p:=⟨R,5,none⟩) h3.le _
  have HK3:Hid ((a.2.1=true->Keeps st {a.2.2 with fl:=zaB a.2.2.fl i a.1,heavy:=st.heavy})/\Grows st {a.2.2 with fl:=zaB a.2.2.fl i a.1,heavy:=st.heavy}):=by
   refine ⟨fun hh=>⟨?_,rfl,?_,?_,?_⟩,?_,?_⟩
   .show a.2.2.deep=_;rw [(k3 hh).1.deep]
   .show _<=(zaB a.2.2.fl i a.1).length;rw [zaS];exact hg1
   .show (zaB a.2.2.fl i a.1).length+a.2.2.us.length<=_;rw [zaS];exact hg2
   .show a.2.2.us.length<=_;have:=(k3 hh).2;exact Nat.le_of_lt this
   .show _<=(zaB a.2.2.fl i a.1).length;rw [zaS];exact hg1
   .show (zaB a.2.2.fl i a.1).length+a.2.2.us.length<=_;rw [zaS];exact hg2
  clear HCB h3 h4 b3 k3 g3 hsv'
  go_wp2_with fail
  go_ret
  rw [HN.out]
  exact ⟨rfl,⟨_,H5.out⟩,HB5.out,HK3.out.1,HK3.out.2⟩
end Go.Proofs.YtmmmnghiegajmaaGreat
