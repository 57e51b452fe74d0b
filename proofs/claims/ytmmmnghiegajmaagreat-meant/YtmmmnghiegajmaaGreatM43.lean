import Derived.Test.YtmmmnghiegajmaaGreatM41
import Derived.Test.YtmmmnghiegajmaaGreatM42
import Derived.Test.YtmmmnghiegajmaaGreatM23
import Derived.Test.YtmmmnghiegajmaaGreatM15
import Derived.Test.YtmmmnghiegajmaaGreatM02
import Derived.Test.YtmmmnghiegajmaaGreatM27
import Derived.Test.YtmmmnghiegajmaaGreatM25
set_option maxHeartbeats 8000000
namespace Go.Proofs.YtmmmnghiegajmaaGreat
open Go.RowKit Go.Proofs.Herald
theorem zjf {E:Eng Pr}(hE:∀ p,E.pub p=zcE p)(id:Int):∀ (ps:List Pr),(zc3 E ps id=none/\zd3 id ps=ps.length)\/∃ i,∃ hi:i<ps.length,zc3 E ps id=some ps[i]/\zd3 id ps=i/\ps[i].id=id:=by
 intro ps
 induction ps with
 | nil=>exact .inl ⟨rfl,rfl⟩
 | cons p ps ih=>
  have hp:(E.pub p).id=p.id:=by rw [hE];rfl
  by_cases h:p.id=id
  .right
   refine ⟨0,by simp,?_,?_,h⟩
   .unfold zc3
    rw [List.find?_cons_of_pos (by simp [hp,h])]
    rfl
   .rw [zd3,if_pos h]
  .have e1:zc3 E (p::ps) id=zc3 E ps id:=by
    unfold zc3
    rw [List.find?_cons_of_neg (by simp [hp,h])]
   have e2:zd3 id (p::ps)=zd3 id ps+1:=by rw [zd3,if_neg h]
   rw [e1,e2]
   rcases ih with ⟨h1,h2⟩|⟨i,hi,h1,h2,h3⟩
   .exact .inl ⟨h1,by rw [h2];rfl⟩
   .exact .inr ⟨i+1,by simpa using hi,h1,by rw [h2],h3⟩
structure MOk (cs:List Ins)(C:Int)(h:Her Pr):Prop where
 snd:zbq cs=true
 eng:EngOk (zaA cs) (zeA cs)
 ok:HOk (zaA cs) (zeA cs) C h
 qs:QsOk h
 C1:C<=900000000000000000
 last1:h.last<=1000000000000000000
theorem MOk.sent {cs:List Ins}{C:Int}{h:Her Pr}(hk:MOk cs C h){p:Pr}(hp:p∈h.rs):p.sent<=999999999999990000:=by
 have h1:=(hk.ok.sent p hp).2
 have h2:=hk.C1
 have e:((zaA cs).pub p).sent=p.sent:=rfl
 omega
theorem znt (H:Nat)(code rec:Value)(cs:List Ins)(h:Her Pr)(rv:Value)(qv:Nat->Value)(dev C:Int)(w:World)(H0:MH w H code rec cs h rv qv)(hk:MOk cs C h):
  Calls Tryz.prog 63 #[.pointer (some ⟨H,0,none⟩),.int .i64 dev] w fun e w'=>e=.returned (.tuple #[.int .i64 (zb7 (zaA cs) h dev).1,.int .i64 (zb7 (zaA cs) h dev).2.1])/\MHOut w w' H code rec cs (zb7 (zaA cs) h dev).2.2 rv qv:=by
 unfold zb7
 by_cases hd:0<=dev/\dev<=2
 .rw [if_neg (by simpa using hd)]
  obtain ⟨d,hdd⟩:∃ d:Nat,dev=(d:Nat):=⟨dev.toNat,by omega⟩
  subst hdd
  have hd3:d<3:=by omega
  by_cases hl:5<=h.rs.length
  .rw [if_pos hl]
   refine (zkp H code rec h.now h.last rv qv h.qs h.rs d w H0.at' hd3 hl (by have:=hk.ok.len;omega)).mono ?_
   rintro e w' ⟨rfl,rfl⟩
   exact ⟨rfl,MHOut.below H0 (Below.refl _ _)⟩
  .rw [if_neg hl]
   refine (znj H code rec h.now h.last rv qv h.qs h.rs d cs w H0.at' hd3 hl hk.ok.last0 hk.last1 H0.cd hk.snd hk.ok.now0 hk.ok.now1).mono ?_
   rintro e w' ⟨rfl,ho⟩
   refine ⟨rfl,MHOut.of_proc (h':=_) H0 ho rfl ?_⟩
   have hnd:(h.rs++[zaZ (h.last+1) (d:Nat)]).Pairwise fun a b=>((zaA cs).pub a).id≠((zaA cs).pub b).id:=by
    rw [List.pairwise_append]
    refine ⟨hk.ok.nd,by simp,fun a ha b hb=>?_⟩
    rw [List.mem_singleton.mp hb]
    have:=hk.ok.id a ha
    show ((zaA cs).pub a).id≠h.last+1
    omega
   have:=zfy (E:=zaA cs) (fun _=>rfl) (p':=(zco h.now cs 10000 (h.qs d) (zaZ (h.last+1) (d:Nat))).2.1) (done:=(zco h.now cs 10000 (h.qs d) (zaZ (h.last+1) (d:Nat))).2.2) hnd (i:=h.rs.length) (by simp) (by rw [zgr];simp)
   exact this
 .rw [if_pos (by simpa using hd)]
  refine (zmb H dev w hd).mono ?_
  rintro e w' ⟨rfl,rfl⟩
  exact ⟨rfl,MHOut.below H0 (Below.refl _ _)⟩
theorem zqu (H:Nat)(code rec:Value)(cs:List Ins)(h:Her Pr)(rv:Value)(qv:Nat->Value)(n C:Int)(w:World)(H0:MH w H code rec cs h rv qv)(hk:MOk cs C h):
  Calls Tryz.prog 69 #[.pointer (some ⟨H,0,none⟩),.int .i64 n] w fun e w'=>e=.returned (.int .i64 (zdk (zaA cs) h n).1)/\MHOut w w' H code rec cs (zdk (zaA cs) h n).2 rv qv:=by
 unfold zdk
 by_cases hn:¬ (1<=n/\n<=999)\/1000000000<h.now+n
 .rw [if_pos hn]
  exact zni H code rec cs h rv qv n C w H0 hk.ok hn
 .rw [if_neg hn]
  exact zma H code rec cs h rv qv n C w hk.snd hk.eng H0 hk.ok hk.C1 (by omega) (by omega) (by omega)
theorem zoG (H:Nat)(code rec:Value)(cs:List Ins)(h:Her Pr)(rv:Value)(qv:Nat->Value)(id C:Int)(w:World)(H0:MH w H code rec cs h rv qv)(hk:MOk cs C h):
  Calls Tryz.prog 75 #[.pointer (some ⟨H,0,none⟩),.int .i64 id] w fun e w'=>e=.returned (.int .i64 (zbb (zaA cs) h id).1)/\MHOut w w' H code rec cs (zbb (zaA cs) h id).2 rv qv:=by
 have hl:=hk.ok.len
 unfold zbb
 rcases zjf (E:=zaA cs) (fun _=>rfl) id h.rs with ⟨h1,h2⟩|⟨i,hi,h1,h2,h3⟩
 .rw [h1]
  refine (ziq H code rec h.now h.last rv qv h.qs h.rs id w H0.at' (by omega) h2).mono ?_
  rintro e w' ⟨rfl,hb⟩
  exact ⟨rfl,MHOut.below H0 hb⟩
 .rw [h1]
  obtain ⟨d,hd3,hdev,hdn,_⟩:=zkQ hk.ok (List.getElem_mem hi)
  refine (zir H code rec h.now h.last rv qv h.qs h.rs id i d w H0.at' (by omega) hi h2 hd3 hdev).mono ?_
  rintro e w' ⟨rfl,ho⟩
  refine ⟨rfl,MHOut.of_proc (h':=_) H0 ho ?_ ?_⟩
  .show zcc h.qs ((zaA cs).pub h.rs[i]).dev.toNat _=_
   rw [show ((zaA cs).pub h.rs[i]).dev.toNat=d from hdn]
  .have:=zfy (E:=zaA cs) (fun _=>rfl) (p':=h.rs[i]) (done:=true) hk.ok.nd hi rfl
   unfold zbe zck at this
   simp only [if_true] at this
   rw [<- this]
   show h.rs.filter (fun y=>((zaA cs).pub y).id != id)=_
   rw [show ((zaA cs).pub h.rs[i]).id=id from h3]
theorem zq3 (H:Nat)(code rec:Value)(cs:List Ins)(h:Her Pr)(rv:Value)(qv:Nat->Value)(id num C:Int)(w:World)(H0:MH w H code rec cs h rv qv)(hk:MOk cs C h):
  Calls Tryz.prog 72 #[.pointer (some ⟨H,0,none⟩),.int .i64 id,.int .i64 num] w fun e w'=>e=.returned (.int .i64 (zej (zaA cs) h id num).1)/\MHOut w w' H code rec cs (zej (zaA cs) h id num).2 rv qv:=by
 have hl:=hk.ok.len
 unfold zej
 rcases zjf (E:=zaA cs) (fun _=>rfl) id h.rs with ⟨h1,h2⟩|⟨i,hi,h1,h2,h3⟩
 .rw [h1]
  refine (zl7 H code rec h.now h.last rv qv h.qs h.rs id num w H0.at' (by omega) h2).mono ?_
  rintro e w' ⟨rfl,hb⟩
  exact ⟨rfl,MHOut.below H0 hb⟩
 .rw [h1]
  have hmem:=List.getElem_mem hi
  obtain ⟨d,hd3,hdev,hdn,_,_,_,_,hgood⟩:=zkQ hk.ok hmem
  simp only
  have e1:((zaA cs).pub h.rs[i]).num=h.rs[i].num:=rfl
  have e2:((zaA cs).pub h.rs[i]).dev.toNat=d:=hdn
  rw [e1,e2]
  by_cases hn:num=0\/h.rs[i].num≠num
  .rw [if_pos hn]
   refine (zl8 H code rec h.now h.last rv qv h.qs h.rs id num i w H0.at' (by omega) hi h2 (by rcases hn with h|h;exact .inl h;exact .inr fun hh=>h hh.symm)).mono ?_
   rintro e w' ⟨rfl,hb⟩
   exact ⟨rfl,MHOut.below H0 hb⟩
  .rw [if_neg hn]
   have hz:¬ num=0:=fun hh=>hn (.inl hh)
   have hnn:num=h.rs[i].num:=by
    by_cases hh:h.rs[i].num=num
    .exact hh.symm
    .exact absurd (.inr hh) hn
   cases hq:zjk (h.qs d) id num with
   | true=>
    simp only [if_true]
    refine (zkn H code rec h.now h.last rv qv h.qs h.rs id num i d w H0.at' (by omega) hi h2 hd3 hdev hz hnn hq).mono ?_
    rintro e w' ⟨rfl,hb⟩
    exact ⟨rfl,MHOut.below H0 hb⟩
   | false=>
    simp only [Bool.false_eq_true,if_false]
    refine (zoz H code rec h.now h.last rv qv h.qs h.rs id num i d cs w H0.at' (by omega) hi h2 hd3 hdev hz hnn H0.cd hk.snd hgood (hk.sent hmem) hk.ok.now0 hk.ok.now1 hq).mono ?_
    rintro e w' ⟨rfl,ho⟩
    refine ⟨rfl,MHOut.of_proc (h':=goH (zaA cs) h h.rs[i] true) H0 ho ?_ ?_⟩
    .unfold goH
     rw [e2]
     rfl
    .unfold goH
     rw [e2]
     exact zfy (E:=zaA cs) (fun _=>rfl) hk.ok.nd hi (zls _ _ _ _ _)
theorem zpI (H:Nat)(code rec:Value)(cs:List Ins)(h:Her Pr)(rv:Value)(qv:Nat->Value)(dev C:Int)(w:World)(H0:MH w H code rec cs h rv qv)(hk:MOk cs C h):
  Calls Tryz.prog 78 #[.pointer (some ⟨H,0,none⟩),.int .i64 dev] w fun e w'=>e=.returned (.tuple #[zlq (zbA h dev).1,.int .i64 (zbA h dev).2.1])/\MHOut w w' H code rec cs (zbA h dev).2.2 rv qv:=by
 unfold zbA
 by_cases hd:0<=dev/\dev<=2
 .rw [if_neg (by simpa using hd)]
  obtain ⟨d,hdd⟩:∃ d:Nat,dev=(d:Nat):=⟨dev.toNat,by omega⟩
  subst hdd
  have hd3:d<3:=by omega
  have e:((d:Nat):Int).toNat=d:=by simp
  rw [e]
  cases hq:h.qs d with
  | nil=>
   refine (zis H code rec h.now h.last rv qv h.qs h.rs d w H0.at' hd3 hq).mono ?_
   rintro e w' ⟨rfl,hb⟩
   exact ⟨rfl,MHOut.below H0 hb⟩
  | cons m r=>
   have hpos:=hk.qs.pos d m (by rw [hq];exact List.mem_cons_self ..)
   have hdist:=hk.qs.dist d
   rw [hq] at hdist
   refine (zl9 H code rec h.now h.last rv qv h.qs h.rs d m r w H0.at' hd3 hq (by omega)).mono ?_
   rintro e w' ⟨rfl,ho⟩
   rw [zmB hdist hpos] at ho
   exact ⟨rfl,MHOut.of_proc (h':={h with qs:=zcc h.qs d r}) H0 ho rfl rfl⟩
 .rw [if_pos (by simpa using hd)]
  refine (zko H dev w hd).mono ?_
  rintro e w' ⟨rfl,hb⟩
  exact ⟨rfl,MHOut.below H0 hb⟩
open Go.RowKit Go.Proofs.Herald
def zbl (xs:List Int):List Value:=xs.map fun z=>Value.int .u8 z
theorem zge (xs:List Int):(zbl xs).length=xs.length:=by simp [zbl]
theorem zc1 (a b:List Int):zbl (a++b)=zbl a++zbl b:=by simp [zbl]
theorem zgf (xs:List Int):∀ u∈zbl xs,u.oneCell'=true:=by
 intro u hu
 obtain ⟨z,_,rfl⟩:=List.mem_map.mp hu
 rfl
set_option maxRecDepth 20000 in
theorem zp8 (n:Int)(w:World):
  Calls Tryz.prog 119 #[.int .i64 n] w fun e w'=>∃ v xs,e=.returned v/\xs.length=8/\w'.ownsRow w.heap.size 5 1 v 8 (zbl xs)/\Below w.heap.size w w':=by
 go_enter Tryz.func119,Tryz.ntmps119
 go_wp2_with fail
 go_loopw [3,4] (fun v i wr=>∃ (k:Nat) (xs:List Int),k<=8/\i=.int .i64 (56 - 8*(k:Int))/\xs.length=k/\Hid (wr.ownsRow w.heap.size 5 1 v k (zbl xs))/\Hid (Below w.heap.size w wr)) (fun _ i _=>(intOf i+8).toNat)
 case atStart=>exact ⟨0,[],by omega,rfl,rfl,World.ownsRow_nil _ _ _ _,Below.refl _ _⟩
 case round=>
  obtain ⟨k,xs,hk,rfl,hxl,HV,HB⟩:=hrel
  by_cases hlt:k<8
  .have h0:(0:Int)<=56 - 8*(k:Int):=by omega
   have h1:56 - 8*(k:Int)<=56:=by omega
   obtain ⟨s,hs⟩:∃ s:Nat,56 - 8*(k:Int)=(s:Nat):=⟨(56 - 8*(k:Int)).toNat,by omega⟩
   have hs1:s<=56:=by omega
   have HSK:Hid ((s:Int) - 8=56 - 8*((k+1:Nat):Int)):=by show _=_;omega
   rw [hs] at *
   have HXL:=zHd hxl
   clear h0 h1 hs hxl
   go_wp2_with (at_builtin;refine zav _ rfl (.tmp 9) (.tmp 14) 80 rfl 5 _ 1 1 Tryz.underlying80 Tryz.infoByte rfl (by decide) (by decide) u3 k 1 (zbl xs) wr.heap.size [_] (by rfl) (by exact (zcr HV.out).alloc _) (by exact heap_alloc_new _ _) (by rfl) rfl (by simp [Value.oneCell']) (by decide) (by omega) ?_)
   intro v2 w2 hown2 ha2
   have hab:=zaR (w0:=w) (B:=w.heap.size) (HB.out.alloc HB.out.size _) (by have:=HB.out.size;simp;omega) (HV.out.alloc _) hown2 ha2
   have HV2:Hid (∃ ys,ys.length=k+1/\w2.ownsRow w.heap.size 5 1 v2 (k+1) (zbl ys)):=⟨xs++[_],by simp [HXL.out],by rw [zc1];exact hab.2⟩
   have HB2:Hid (Below w.heap.size w w2):=hab.1
   clear hown2 ha2 hab
   go_wp2_with fail
   go_roundw
   case rel=>
    obtain ⟨ys,hy1,hy2⟩:=HV2.out
    exact ⟨k+1,ys,by omega,by rw [<- HSK.out],hy1,hy2,HB2⟩
   case measure=>simp [intOf];omega
  .obtain rfl:k=8:=by omega
   obtain ⟨av,cv,hvv⟩:=zag HV.out
   subst hvv
   go_wp2_with fail
   go_ret
   exact ⟨_,xs,rfl,hxl,HV.out,HB.out⟩
set_option maxRecDepth 20000 in
theorem zp7 (a:Option Addr)(n cap:Nat)(xs:List Int)(w:World)(h:w.ownsRow 0 5 1 (.slice a n cap) n (zbl xs))(hx:xs.length=n)(hn:n<=1000):
  Calls Tryz.prog 120 #[.slice a n cap] w fun e w'=>∃ r:Int,e=.returned (.int .i64 r)/\SameH w w':=by
 have HO:Hid (w.ownsRow 0 5 1 (.slice a n cap) n (zbl xs)/\xs.length=n):=⟨h,hx⟩
 clear h hx
 go_enter Tryz.func120,Tryz.ntmps120
 go_wp2_with fail
 go_loopw [3,9] (fun r i wr=>∃ (k:Nat) (z:Int),k<=n/\i=.int .i64 k/\r=.int .i64 z/\Hid (SameH w wr)) (fun _ i _=>n - (intOf i).toNat)
 case atStart=>exact ⟨0,_,Nat.zero_le _,rfl,rfl,SameH.refl _⟩
 case round=>
  obtain ⟨k,z,hk,rfl,rfl,HS⟩:=hrel
  by_cases hlt:k<n
  .obtain ⟨g,cap',hv,_,_⟩:=HO.out.1.form (by omega)
   simp at hv
   obtain ⟨rfl,rfl⟩:=hv
   obtain ⟨y,hy⟩:∃ y,(zbl xs)[k]?=some (.int .u8 y):=⟨xs[k]'(by rw [HO.out.2];exact hlt),by simp [zbl,HO.out.2,hlt]⟩
   have e0:=(zbn HO.out.1 k _ hy).1
   rw [<- HS.out.cell] at e0
   clear hy
   go_wp2_with fail
   generalize hz0:Go.bits _ _ _ _=z0
   clear hz0
   go_loopw [3,6] (fun r i wr2=>∃ (j:Nat) (x:Int),j<=8/\i=.int .i64 j/\r=.int .i64 x/\Hid (SameH w wr2)) (fun _ i _=>8 - (intOf i).toNat)
   case atStart=>exact ⟨0,_,Nat.zero_le _,rfl,rfl,HS⟩
   case round=>
    obtain ⟨j,x,hj,rfl,rfl,HT⟩:=hrel
    by_cases hj8:j<8
    .go_wp2_with fail
     all_goals
      go_roundw
      case rel=>exact ⟨j+1,_,by omega,by go_num,rfl,HT⟩
      case measure=>simp [intOf];omega
    .obtain rfl:j=8:=by omega
     go_wp2_with fail
     go_roundw
     case rel=>exact ⟨k+1,x,by omega,by go_num,rfl,HT⟩
     case measure=>simp [intOf];omega
  .go_wp2_with fail
   go_ret
   exact ⟨_,rfl,HS.out⟩
open Go.RowKit Go.Proofs.Herald
theorem zkW {w:World}{a:Option Addr}{n cap:Nat}{e:TypeId}{xs:List Value}(h:w.ownsRow 0 e 1 (.slice a n cap) n xs):zfq w a n xs:=fun hp=>by
 obtain ⟨g,c,hv,_,_⟩:=h.form hp
 simp at hv
 obtain ⟨rfl,rfl⟩:=hv
 exact ⟨_,rfl,fun i u hu=>h.cells (g:=g) rfl i u hu⟩
set_option maxRecDepth 20000 in
theorem zqa (c a b:Int)(w:World):
  Calls Tryz.prog 94 #[.agg #[.int .u8 c,.int .i64 a,.int .i64 b]] w fun e w'=>∃ v xs,e=.returned v/\xs.length=19/\w'.ownsRow w.heap.size 5 1 v 19 (zbl xs)/\Below w.heap.size w w':=by
 have HE:Hid (∀ (n:Int) (W:World),Calls Tryz.prog 119 #[.int .i64 n] W fun e w'=>∃ v xs,e=.returned v/\xs.length=8/\w'.ownsRow W.heap.size 5 1 v 8 (zbl xs)/\Below W.heap.size W w'):=fun n W=>zp8 n W
 go_enter Tryz.func94,Tryz.ntmps94
 go_wp2_with fail
 obtain ⟨W0,hW0⟩:∃ W0,W0=(w.alloc (.cells #[.int .u8 c,.int .i64 a,.int .i64 b] 143)).alloc (.cells #[.int .u8 c] 5):=⟨_,rfl⟩
 have HB0:Hid (Below w.heap.size w W0/\W0.heap[w.heap.size]?=some (.cells #[.int .u8 c,.int .i64 a,.int .i64 b] 143 (0,0))/\W0.ownsRow w.heap.size 5 1 (.slice (some ⟨w.heap.size+1,0,none⟩) 1 1) 1 (zbl [c])):=by
  rw [hW0]
  refine ⟨((Below.refl _ _).alloc (Nat.le_refl _) _).alloc (by simp) _,?_,rfl,.inr ⟨w.heap.size+1,1,#[.int .u8 c],rfl,by omega,zaw _ _ _,by omega,by unfold maxLen;omega,by rfl,by rfl⟩⟩
  rw [Below.heap_alloc _ _ _ (by simp)]
  exact heap_alloc_new _ _
 rw [<- hW0]
 refine (HE.out a W0).mono ?_
 rintro e w1 ⟨v1,x1,rfl,hl1,ho1,hb1⟩
 obtain ⟨a1,cap1,hv1⟩:=zag ho1
 subst hv1
 have HS1:Hid (zfq w1 a1 8 (zbl x1)/\x1.length=8):=⟨zkW (zcr ho1),hl1⟩
 have H1:Hid (Below w.heap.size w w1/\w1.heap[w.heap.size]?=some (.cells #[.int .u8 c,.int .i64 a,.int .i64 b] 143 (0,0))/\w1.ownsRow w.heap.size 5 1 (.slice (some ⟨w.heap.size+1,0,none⟩) 1 1) 1 (zbl [c])):=
  ⟨HB0.out.1.trans (hb1.mono HB0.out.1.size),(hb1.block _ (zae HB0.out.2.1)).trans HB0.out.2.1,zaJ HB0.out.2.2 fun k hk=>hb1.block k (by obtain ⟨_,cur,hc⟩:=zao HB0.out.2.2 hk;exact zae hc)⟩
 clear ho1 hb1 hW0 hl1
 go_wp2_with (at_builtin;refine za9 _ rfl (.tmp 13) (.tmp 14) 80 rfl 5 _ 1 1 Tryz.underlying80 Tryz.infoByte rfl (by decide) (by decide) (.slice (some ⟨w.heap.size+1,0,none⟩) 1 1) 1 (zbl [c]) a1 8 cap1 (zbl x1) (by rfl) (by exact zcr H1.out.2.2) (by rfl) HS1.out.1 (by rw [zge,HS1.out.2]) (zgf _) (by omega) ?_)
 intro v2 w2 hown2 ha2
 have hab2:=zaR (w0:=w) (B:=w.heap.size) H1.out.1 H1.out.1.size H1.out.2.2 hown2 ha2
 have hcall2:w2.heap[w.heap.size]?=some (.cells #[.int .u8 c,.int .i64 a,.int .i64 b] 143 (0,0)):=by
  rcases ha2 with ⟨g,cap,e1,_,hg⟩|⟨_,hg⟩
  .rw [hg.block _ (zae H1.out.2.1) (fun e=>by
    simp at e1;have e2:g=w.heap.size:=by simpa using e.symm
    omega)]
   exact H1.out.2.1
  .rw [hg.block _ (zae H1.out.2.1) (by simp)];exact H1.out.2.1
 obtain ⟨a2,cap2,hv2⟩:=zag hown2
 subst hv2
 have H2:Hid (Below w.heap.size w w2/\w2.heap[w.heap.size]?=some (.cells #[.int .u8 c,.int .i64 a,.int .i64 b] 143 (0,0))/\w2.ownsRow w.heap.size 5 1 (.slice a2 9 cap2) 9 (zbl ([c]++x1))):=⟨hab2.1,hcall2,by rw [zc1];exact hab2.2⟩
 obtain ⟨k0,k1,k2,_⟩:=zev hcall2
 clear hown2 ha2 hab2 hcall2
 go_wp2_with fail
 refine (HE.out b w2).mono ?_
 rintro e w3 ⟨v3,x3,rfl,hl3,ho3,hb3⟩
 obtain ⟨a3,cap3,hv3⟩:=zag ho3
 subst hv3
 have HS3:Hid (zfq w3 a3 8 (zbl x3)/\x3.length=8):=⟨zkW (zcr ho3),hl3⟩
 have H3:Hid (Below w.heap.size w w3/\w3.ownsRow w.heap.size 5 1 (.slice a2 9 cap2) 9 (zbl ([c]++x1))):=
  ⟨H2.out.1.trans (hb3.mono H2.out.1.size),zaJ H2.out.2.2 fun k hk=>hb3.block k (by obtain ⟨_,cur,hc⟩:=zao H2.out.2.2 hk;exact zae hc)⟩
 clear ho3 hb3 k0 k1 k2 hl3
 go_wp2_with (at_builtin;refine za9 _ rfl (.tmp 19) (.tmp 20) 80 rfl 5 _ 1 1 Tryz.underlying80 Tryz.infoByte rfl (by decide) (by decide) (.slice a2 9 cap2) 9 (zbl ([c]++x1)) a3 8 cap3 (zbl x3) (by rfl) (by exact zcr H3.out.2) (by rfl) HS3.out.1 (by rw [zge,HS3.out.2]) (zgf _) (by omega) ?_)
 intro v4 w4 hown4 ha4
 have hab4:=zaR (w0:=w) (B:=w.heap.size) H3.out.1 H3.out.1.size H3.out.2 hown4 ha4
 obtain ⟨a4,cap4,hv4⟩:=zag hown4
 subst hv4
 have H4:Hid (Below w.heap.size w w4/\w4.ownsRow w.heap.size 5 1 (.slice a4 17 cap4) 17 (zbl ([c]++x1++x3))):=⟨hab4.1,by rw [zc1];exact hab4.2⟩
 have HL:Hid (([c]++x1++x3).length=17):=(by simp [HS1.out.2,HS3.out.2]:([c]++x1++x3).length=17)
 clear hown4 ha4 hab4
 go_wp2_with fail
 refine (zp7 a4 17 cap4 ([c]++x1++x3) w4 (zcr H4.out.2) HL.out (by omega)).mono ?_
 rintro e w5 ⟨r,rfl,hs5⟩
 have H5:Hid (Below w.heap.size w w5/\w5.ownsRow w.heap.size 5 1 (.slice a4 17 cap4) 17 (zbl ([c]++x1++x3))):=⟨H4.out.1.trans (hs5.below _),zaJ H4.out.2 fun k _=>by rw [hs5.heap]⟩
 clear hs5
 generalize hys:[c]++x1++x3=ys at *
 go_wp2_with (at_builtin;refine zav _ rfl (.tmp 24) (.tmp 30) 80 rfl 5 _ 1 1 Tryz.underlying80 Tryz.infoByte rfl (by decide) (by decide) (.slice a4 17 cap4) 17 2 (zbl ys) w5.heap.size [_,_] (by rfl) (by exact (zcr H5.out.2).alloc _) (by exact heap_alloc_new _ _) (by rfl) rfl (by simp [Value.oneCell']) (by decide) (by omega) ?_)
 intro v6 w6 hown6 ha6
 have hab6:=zaR (w0:=w) (B:=w.heap.size) (H5.out.1.alloc H5.out.1.size _) (by have:=H5.out.1.size;simp;omega) (H5.out.2.alloc _) hown6 ha6
 obtain ⟨a6,cap6,hv6⟩:=zag hown6
 subst hv6
 have H6:Hid (∃ zs,zs.length=19/\w6.ownsRow w.heap.size 5 1 (.slice a6 19 cap6) 19 (zbl zs)/\Below w.heap.size w w6):=⟨ys++[_,_],by simp [HL.out],by rw [zc1];exact hab6.2,hab6.1⟩
 clear hown6 ha6 hab6
 go_wp2_with fail
 go_ret
 obtain ⟨zs,h1,h2,h3⟩:=H6.out
 exact ⟨_,zs,rfl,h1,h2,h3⟩
structure FH (w:World)(H:Nat)(cs:List Ins)(h:Her Pr)(code rec rv:Value)(qv:Nat->Value)(n:Nat):Prop where
 m:MH w H code rec cs h rv qv
 r:∃ xs,xs.length=n/\w.ownsRow 0 5 1 rec n (zbl xs)
def zhp (H:Nat)(code rec rv:Value)(qv:Nat->Value)(k:Nat):Prop:=zcs H rv qv k\/rec.ownBlock=some k\/code.ownBlock=some k
structure FHOut (w w':World)(H:Nat)(cs:List Ins)(h:Her Pr)(code rec rv:Value)(qv:Nat->Value)(n:Nat):Prop where
 ex:∃ rec' rv' qv' n',n'<=n/\FH w' H cs h code rec' rv' qv' n'/\∀ k,zhp H code rec' rv' qv' k->zhp H code rec rv qv k\/w.heap.size<=k
 fr:Fr (zhp H code rec rv qv) w w'
theorem FH.rec_keep {w w1:World}{H:Nat}{cs:List Ins}{h:Her Pr}{code rec rv:Value}{qv:Nat->Value}{n:Nat}(F:FH w H cs h code rec rv qv n)(hf:Fr (zcs H rv qv) w w1):∃ xs,xs.length=n/\w1.ownsRow 0 5 1 rec n (zbl xs):=by
 obtain ⟨xs,h1,h2⟩:=F.r
 refine ⟨xs,h1,zaj h2 fun b hb=>?_⟩
 obtain ⟨c,hc⟩:=zad h2 hb
 refine hf.block b (zae hc) fun ho=>?_
 obtain ⟨c2,t,hc2,ht⟩:=F.m.at'.sort ho
 rcases ht with rfl|rfl|rfl
 .exact zac hc hc2 (by decide) rfl
 .exact zac hc hc2 (by decide) rfl
 .exact zac hc hc2 (by decide) rfl
theorem FHOut.of_m {w w1:World}{H:Nat}{cs:List Ins}{h h1:Her Pr}{code rec rv:Value}{qv:Nat->Value}{n:Nat}(F:FH w H cs h code rec rv qv n)(ho:MHOut w w1 H code rec cs h1 rv qv):FHOut w w1 H cs h1 code rec rv qv n:=by
 obtain ⟨⟨rv',qv',h2,h3⟩,h4⟩:=ho
 refine ⟨⟨rec,rv',qv',n,Nat.le_refl _,⟨h2,F.rec_keep h4⟩,fun k hk=>?_⟩,h4.mono fun k _ hk=>.inl hk⟩
 rcases hk with hk|hk
 .rcases h3 k hk with h|h
  .exact .inl (.inl h)
  .exact .inr h
 .exact .inl (.inr hk)
theorem FHOut.trans {w w1 w2:World}{H:Nat}{cs:List Ins}{h1:Her Pr}{code rec rv rec1 rv1:Value}{qv qv1:Nat->Value}{n n1:Nat}(hn:n1<=n)(ho:∀ k,zhp H code rec1 rv1 qv1 k->zhp H code rec rv qv k\/w.heap.size<=k)(hf:Fr (zhp H code rec rv qv) w w1)(h2:FHOut w1 w2 H cs h1 code rec1 rv1 qv1 n1):FHOut w w2 H cs h1 code rec rv qv n:=by
 obtain ⟨⟨rec',rv',qv',n',a1,a2,a3⟩,a4⟩:=h2
 refine ⟨⟨rec',rv',qv',n',Nat.le_trans a1 hn,a2,fun k hk=>?_⟩,?_⟩
 .rcases a3 k hk with h|h
  .exact ho k h
  .exact .inr (Nat.le_trans hf.size h)
 .have f1:Fr (fun k=>zhp H code rec rv qv k\/w.heap.size<=k) w w1:=hf.mono fun k _ hk=>.inl hk
  have f2:Fr (fun k=>zhp H code rec rv qv k\/w.heap.size<=k) w1 w2:=a4.mono fun k _ hk=>ho k hk
  exact (f1.trans f2).mono fun k hk hs=>by
   rcases hs with h|h
   .exact h
   .omega
theorem FH.below {w w1:World}{H:Nat}{cs:List Ins}{h:Her Pr}{code rec rv:Value}{qv:Nat->Value}{n:Nat}(F:FH w H cs h code rec rv qv n)(hb:Below w.heap.size w w1):FH w1 H cs h code rec rv qv n:=by
 have hf:Fr (zcs H rv qv) w w1:=(Fr.of_below hb).mono fun k hk hs=>by omega
 exact ⟨⟨F.m.at'.below hb,F.m.at'.code hf F.m.cd⟩,F.rec_keep hf⟩
theorem FHOut.below {w w1:World}{H:Nat}{cs:List Ins}{h:Her Pr}{code rec rv:Value}{qv:Nat->Value}{n:Nat}(F:FH w H cs h code rec rv qv n)(hb:Below w.heap.size w w1):FHOut w w1 H cs h code rec rv qv n:=
 ⟨⟨rec,rv,qv,n,Nat.le_refl _,F.below hb,fun _ hk=>.inl hk⟩,(Fr.of_below hb).mono fun k hk hs=>by omega⟩
set_option maxRecDepth 20000 in
theorem zpP (H:Nat)(f c a b:Int)(w:World)(hf:¬ f=0):
  Calls Tryz.prog 64 #[.pointer (some ⟨H,0,none⟩),.int .i64 f,.agg #[.int .u8 c,.int .i64 a,.int .i64 b]] w fun e w'=>e=.returned (.tuple #[])/\Below w.heap.size w w':=by
 have hfb:(f != 0)=true:=by simpa using hf
 clear hf
 go_enter Tryz.func64,Tryz.ntmps64
 go_wp2_with fail
 (try simp only [Exit.inBlock,Exit.then]);refine bodyPost_ret (results_none rfl _ _ _) rfl ?_
 exact ⟨rfl,(Below.refl _ _).alloc (Nat.le_refl _) _⟩
set_option maxRecDepth 20000 in
theorem zoM (H:Nat)(cs:List Ins)(h:Her Pr)(code rec rv:Value)(qv:Nat->Value)(n:Nat)(c a b:Int)(w:World)(F:FH w H cs h code rec rv qv n)(hn:n<=90000000):
  Calls Tryz.prog 64 #[.pointer (some ⟨H,0,none⟩),.int .i64 0,.agg #[.int .u8 c,.int .i64 a,.int .i64 b]] w fun e w'=>e=.returned (.tuple #[])/\FHOut w w' H cs h code rec rv qv (n+19):=by
 obtain ⟨xs,hxl,hxo⟩:=F.r
 obtain ⟨ra,rc,hrv⟩:=zag hxo
 have HF:Hid (FH w H cs h code rec rv qv n):=F
 have HRV:=zHd hrv
 have HXL:=zHd hxl
 have HW:Hid (∀ W:World,Calls Tryz.prog 94 #[.agg #[.int .u8 c,.int .i64 a,.int .i64 b]] W fun e w'=>∃ v xs,e=.returned v/\xs.length=19/\w'.ownsRow W.heap.size 5 1 v 19 (zbl xs)/\Below W.heap.size W w'):=fun W=>zqa c a b W
 have HXO:Hid (w.ownsRow 0 5 1 (.slice ra n rc) n (zbl xs)):=by rw [<- hrv];exact hxo
 clear F hxo hrv hxl
 go_enter Tryz.func64,Tryz.ntmps64
 go_wp2_with fail
 refine (HW.out _).mono ?_
 rintro e w1 ⟨v,ys,rfl,hyl,hyo,hb1⟩
 obtain ⟨va,vc,hv⟩:=zag hyo
 subst hv
 have HB1:Hid (Below w.heap.size w w1):=((Below.refl _ _).alloc (Nat.le_refl _) _).trans (hb1.mono (by simp))
 have HS:Hid (zfq w1 va 19 (zbl ys)/\ys.length=19):=⟨zkW (zcr hyo),hyl⟩
 have HF1:Hid (FH w1 H cs h code rec rv qv n):=HF.out.below HB1.out
 have HX1:Hid (w1.ownsRow 0 5 1 (.slice ra n rc) n (zbl xs)):=zaj HXO.out fun k hk=>by obtain ⟨c,hc⟩:=zad HXO.out hk;exact HB1.out.block k (zae hc)
 have c7:w1.cell? ⟨H,7,none⟩=some (.slice ra n rc):=by rw [<- HRV.out];exact (zaa HF1.out.m.at'.blk).trans rfl
 clear hyo hb1 hyl
 go_wp2_with (at_builtin;refine za9 _ rfl (.tmp 15) (.tmp 16) 80 rfl 5 _ 1 1 Tryz.underlying80 Tryz.infoByte rfl (by decide) (by decide) (.slice ra n rc) n (zbl xs) va 19 vc (zbl ys) (by rfl) (by exact HX1.out) (by rfl) HS.out.1 (by rw [zge,HS.out.2]) (zgf _) (by omega) ?_)
 intro v2 w2 hown2 ha2
 have hty:∀ {k:Nat} {c:Array Value} {t:TypeId},w1.heap[k]?=some (.cells c t (0,0))->t≠5->w2.heap[k]?=w1.heap[k]?:=fun {k c t} hk ht=>by
  rcases ha2 with ⟨g,cap,e1,_,hg⟩|⟨_,hg⟩
  .refine hg.block k (zae hk) fun e=>?_
   obtain ⟨c2,hc2⟩:=zad HX1.out (k:=k) (by rw [e1];exact e.symm)
   exact zac hk hc2 ht rfl
  .exact hg.block k (zae hk) (by simp)
 have hb2:=(hty HF1.out.m.at'.blk (by decide)).trans HF1.out.m.at'.blk
 have d7:w2.cell? ⟨H,7,none⟩=some (.slice ra n rc):=by rw [<- HRV.out];exact (zaa hb2).trans rfl
 have y7:w2.frozen? ⟨H,7,none⟩=false:=zab hb2
 obtain ⟨a2,cap2,hv2⟩:=zag hown2
 subst hv2
 have HFin:Hid (FHOut w (w2.setCell ⟨H,7,none⟩ (.slice a2 (n+19) cap2)) H cs h code rec rv qv (n+19)):=by
  have hk3:∀ {k:Nat} {c:Array Value} {t:TypeId},w1.heap[k]?=some (.cells c t (0,0))->t≠5->t≠114->(w2.setCell ⟨H,7,none⟩ (.slice a2 (n+19) cap2)).heap[k]?=w1.heap[k]?:=fun {k c t} hk h1 h2=>by
   rw [Below.heap_setCell _ _ _ _ (zac hk HF1.out.m.at'.blk h2)]
   exact hty hk h1
  have hA:=HF1.out.m.at'
  have hnew:∀ b,(Value.slice a2 (n+19) cap2).ownBlock=some b->rec.ownBlock=some b\/w.heap.size<=b:=fun b hb=>by
   rcases ha2 with ⟨g,cap,e1,e2,hg⟩|⟨hnw,hg⟩
   .rw [e2] at hb
    left
    rw [HRV.out,e1]
    exact hb
   .exact .inr (Nat.le_trans HB1.out.size (hnw b hb))
  refine ⟨⟨.slice a2 (n+19) cap2,rv,qv,n+19,Nat.le_refl _,⟨⟨⟨?_,fun d hd=>zaj (hA.oB d hd) fun b hb=>?_,hA.ql,hA.dis,zaj hA.rB fun b hb=>?_,hA.rl⟩,zaj HF1.out.m.cd fun b hb=>?_⟩,xs++ys,by simp [HXL.out,HS.out.2],?_⟩,fun k hk=>?_⟩,?_⟩
  .rw [zah _ hb2];rfl
  .obtain ⟨c,hc⟩:=zad (hA.oB d hd) hb
   exact hk3 hc (by decide) (by decide)
  .obtain ⟨c,hc⟩:=zad hA.rB hb
   exact hk3 hc (by decide) (by decide)
  .obtain ⟨c,hc⟩:=zad HF1.out.m.cd hb
   exact hk3 hc (by decide) (by decide)
  .rw [zc1]
   refine zaj hown2 fun b hb=>?_
   obtain ⟨c,hc⟩:=zad hown2 hb
   exact Below.heap_setCell _ _ _ _ (zac hc hb2 (by decide))
  .rcases hk with hk|hk|hk
   .exact .inl (.inl hk)
   .rcases hnew k hk with h|h
    .exact .inl (.inr (.inl h))
    .exact .inr h
   .exact .inl (.inr (.inr hk))
  .have f1:Fr (zhp H code rec rv qv) w w1:=(Fr.of_below HB1.out).mono fun k hk hs=>by omega
   have f2:Fr (zhp H code rec rv qv) w1 w2:=by
    rcases ha2 with ⟨g,cap,e1,_,hg⟩|⟨_,hg⟩
    .exact (Fr.refl _ _).grown hg fun k hk=>.inl (.inr (.inl (by rw [HRV.out,e1];exact hk)))
    .exact (Fr.refl _ _).grown hg fun k hk=>by cases hk
   exact (f1.trans f2).setCell ⟨H,7,none⟩ (.inl (.inl (.inl rfl))) _
 clear hown2 ha2 hty hb2
 go_wp2_with fail
 go_end0
 exact ⟨rfl,HFin.out⟩
open Go.RowKit Go.Proofs.Herald
theorem ShAt.alloc {w wr:World}{now:Int}{rv uv:Value}{rl:List Rn}{ml:List Msg}(h:ShAt w wr now rv rl uv ml)(o:Obj):ShAt w (wr.alloc o) now rv rl uv ml:=by
 have k:∀ j,j<wr.heap.size->(wr.alloc o).heap[j]?=wr.heap[j]?:=fun j hj=>Below.heap_alloc _ _ _ hj
 exact ⟨h.bel.alloc h.bel.size _,(k _ (zae h.a)).trans h.a,(k _ (zae h.o)).trans h.o,h.r.alloc _,h.m.alloc _⟩
theorem ShAt.pushA {w wr w1:World}{now:Int}{rv uv v':Value}{rl:List Rn}{ml:List Msg}(h:ShAt w wr now rv rl uv ml)(r:Rn)
  (hown1:w1.ownsRow 0 96 5 v' (rl.length+1) (zbp rl++zdB r)) (ha:zcM wr w1 rv rl.length 1 v'):
  ShAt w (w1.setCell ⟨w.heap.size+1,1,none⟩ v') now v' (rl++[r]) uv ml:=by
 obtain ⟨hb,hown2⟩:=zaR h.bel h.bel.size h.r hown1 ha
 have hrO:∀ {k:Nat} {c:Array Value} {t:TypeId},wr.heap[k]?=some (.cells c t (0,0))->t≠96->w1.heap[k]?=wr.heap[k]?:=fun {k c t} hk ht=>by
  rcases ha with ⟨g,cap,e1,_,hg⟩|⟨_,hg⟩
  .refine hg.block k (zae hk) fun e=>?_
   obtain ⟨c2,hc2⟩:=zad (zcr h.r) (k:=k) (by rw [e1];exact e.symm)
   exact zac hk hc2 ht rfl
  .exact hg.block k (zae hk) (by simp)
 have ho1:=(hrO h.o (by decide)).trans h.o
 refine ⟨hb.setCell (p:=⟨w.heap.size+1,1,none⟩) (Nat.le_succ _) _,?_,?_,?_,?_⟩
 .rw [Below.heap_setCell _ _ _ _ (show w.heap.size≠w.heap.size+1 by omega)]
  exact (hrO h.a (by decide)).trans h.a
 .rw [zah _ ho1];rfl
 .rw [zfY,List.length_append]
  refine zaJ hown2 fun k hk=>?_
  obtain ⟨c,hc⟩:=zad (zcr hown2) hk
  exact Below.heap_setCell _ _ _ _ (zac hc ho1 (by decide))
 .refine zaJ h.m fun k hk=>?_
  obtain ⟨c,hc⟩:=zad (zcr h.m) hk
  rw [Below.heap_setCell _ _ _ _ (zac hc h.o (by decide))]
  exact hrO hc (by decide)
set_option maxRecDepth 20000 in
theorem zps (H:Nat)(code rec:Value)(now last:Int)(rv:Value)(qv:Nat->Value)(qs:Nat->List Msg)(ps:List Pr)(w:World)(h:HAt w H code rec now last rv qv qs ps)(hl:ps.length<=1000):
  Calls Tryz.prog 79 #[.pointer (some ⟨H,0,none⟩)] w fun e w'=>∃ sv uv,e=.returned (.agg #[.int .i64 now,sv,uv])/\w'.ownsRow w.heap.size 96 5 sv ps.length (zbp (ps.map zcE))/\w'.ownsRow w.heap.size 87 4 uv (qs 0++qs 1++qs 2).length (zak (qs 0++qs 1++qs 2))/\Below w.heap.size w w':=by
 obtain ⟨pa,pc,hpv⟩:=zag h.rB
 subst hpv
 have c1:w.cell? ⟨H,1,none⟩=some (.int .i64 now):=(zaa h.blk).trans rfl
 have c3:w.cell? ⟨H,3,none⟩=some (.slice pa ps.length pc):=(zaa h.blk).trans rfl
 have hHl:H<w.heap.size:=zae h.blk
 have HH:=zHd h
 clear h
 go_enter Tryz.func79,Tryz.ntmps79
 go_wp2_with fail
 go_loopw [18] (fun i wr=>∃ (k:Nat) (sv:Value),k<=ps.length/\i=.int .i64 k/\Hid (ShAt w wr now sv ((ps.map zcE).take k) (.slice none 0 0) [])) (fun i _=>ps.length - (intOf i).toNat)
 case atStart=>
  refine ⟨0,.slice none 0 0,Nat.zero_le _,rfl,⟨((Below.refl _ _).alloc (Nat.le_refl _) _).alloc (by simp) _,?_,zaw _ _ _,World.ownsRow_nil _ _ _ _,World.ownsRow_nil _ _ _ _⟩⟩
  rw [Below.heap_alloc _ _ _ (by simp)];exact heap_alloc_new _ _
 case round=>
  clear c1 c3
  obtain ⟨k,sv,hk,rfl,HS⟩:=hrel
  have HA:Hid (HAt wr H code rec now last (.slice pa ps.length pc) qv qs ps):=HH.out.below HS.out.bel
  have hl1:=zae HS.out.o
  by_cases hlt:k<ps.length
  .obtain ⟨g,pc',hv,_,hgl⟩:=HA.out.rB.form (by omega)
   simp at hv
   obtain ⟨rfl,rfl⟩:=hv
   have hran:=zc8 HA.out.rB HA.out.rl hlt
   have hrl:=HA.out.rl _ (List.getElem_mem hlt)
   have HTK:Hid ((ps.map zcE).take (k+1)=(ps.map zcE).take k++[zcE ps[k]]):=by
    show _=_
    rw [List.take_succ_eq_append_getElem (by simpa using hlt)]
    simp
   obtain ⟨rl,hrll⟩:∃ rl,rl=(ps.map zcE).take k:=⟨_,rfl⟩
   rw [<- hrll] at HS HTK
   have HRL:Hid (rl.length=k):=(by rw [hrll];simp;omega:rl.length=k)
   obtain ⟨ra,rc,hrv⟩:=zag HS.out.r
   subst hrv
   generalize ps[k]=m at *
   obtain ⟨C,hC⟩:∃ C,C=(zaz m).toArray:=⟨_,rfl⟩
   have HCR:Hid (CellsR C m/\wr.rangeAt g (k*19) C.toList):=⟨⟨hC,hrl⟩,CellsR.range ⟨hC,hrl⟩ hran⟩
   have k0:C[0]?=some (.int .i64 m.id):=by rw [hC];rfl
   have k1:C[1]?=some (.int .i64 m.dev):=by rw [hC];rfl
   have k2:C[2]?=some (.int .i64 m.sent):=by rw [hC];rfl
   have k3:C[3]?=some (.int .i64 m.til):=by rw [hC];rfl
   have k4:C[4]?=some (.int .i64 m.num):=by rw [hC];rfl
   have HS1:Hid (ShAt w ((wr.alloc (.cells C 172)).alloc (.cells #[.int .i64 m.id,.int .i64 m.dev,.int .i64 m.sent,.int .i64 m.til,.int .i64 m.num] 96)) now (.slice ra rl.length rc) rl (.slice none 0 0) []):=(HS.out.alloc _).alloc _
   have o1:wr.cell? ⟨w.heap.size+1,1,none⟩=some (.slice ra rl.length rc):=(zaa HS.out.o).trans rfl
   have HNE:Hid ((Value.slice ra rl.length rc).ownBlock≠some (w.heap.size+1)):=fun e=>by obtain ⟨cur,hc⟩:=zad (zcr HS.out.r) e;exact zac hc HS.out.o (by decide) rfl
   clear hran hrl hC hrll hgl HA
   go_wp2_with (first|(refine wpList_load_mid rfl 172 (.tmp 20) rfl g (k*19) (by rfl) C.toList _ HCR.out.2 Tryz.underlying172 rfl HCR.out.1.infoL ?_)|(refine zaU wr rfl 172 (.tmp 5) (.tmp 21) rfl zcQ C (by rfl) (by rfl) HCR.out.1.info HCR.out.1.zero HCR.out.1.one ?_)|(at_builtin;refine zav _ rfl (.tmp 23) (.tmp 26) 94 rfl 96 _ 5 40 Tryz.underlying94 Tryz.infoRun rfl (by decide) (by decide) (.slice ra rl.length rc) rl.length 1 (zbp rl) (wr.heap.size+1) (zdB (zcE m)) (by rfl) (by exact zcr HS1.out.r) (by exact zaw _ _ _) (by rfl) rfl (by simp [zdB,Value.oneCell']) (by decide) (by have:=HRL.out;omega) ?_))
   intro v2 w2 hown2 ha2
   have HP:=HS1.out.pushA (zcE m) hown2 ha2
   rw [<- HTK.out] at HP
   have hob:w2.heap[w.heap.size+1]?=some (.cells #[.int .i64 now,.slice ra rl.length rc,.slice none 0 0] 103 (0,0)):=by
    rcases ha2 with ⟨g2,cap2,e1,_,hg⟩|⟨_,hg⟩
    .rw [hg.block _ (zae HS1.out.o) (fun e=>HNE.out (by rw [e1];exact e.symm))];exact HS1.out.o
    .rw [hg.block _ (zae HS1.out.o) (by simp)];exact HS1.out.o
   have o2:w2.cell? ⟨w.heap.size+1,1,none⟩=some (.slice ra rl.length rc):=(zaa hob).trans rfl
   have y2:w2.frozen? ⟨w.heap.size+1,1,none⟩=false:=zab hob
   obtain ⟨va,vc,hv2⟩:=zag hown2
   subst hv2
   have HP2:=zHd HP
   clear HP hob hown2 ha2 HS1 HCR k0 k1 k2 k3 k4 o1
   go_wp2_with fail
   go_roundw
   case rel=>exact ⟨k+1,_,by omega,by go_num,HP2⟩
   case measure=>simp [intOf];omega
  .have HK:Hid ((ps.map zcE).take k=ps.map zcE):=List.take_of_length_le (by simp;omega)
   rw [HK.out] at HS
   obtain ⟨ra,rc,hrv⟩:=zag HS.out.r
   rw [List.length_map] at hrv
   subst hrv
   obtain ⟨qa0,qc0,hq0⟩:=zag (HH.out.oB 0 (by omega))
   obtain ⟨qa1,qc1,hq1⟩:=zag (HH.out.oB 1 (by omega))
   obtain ⟨qa2,qc2,hq2⟩:=zag (HH.out.oB 2 (by omega))
   have HQV:Hid (qv 0=.slice qa0 (qs 0).length qc0/\qv 1=.slice qa1 (qs 1).length qc1/\qv 2=.slice qa2 (qs 2).length qc2):=⟨hq0,hq1,hq2⟩
   have d4:wr.cell? ⟨H,4,none⟩=some (.slice qa0 (qs 0).length qc0):=by rw [<- hq0];exact (zaa HA.out.blk).trans rfl
   have d5:wr.cell? ⟨H,5,none⟩=some (.slice qa1 (qs 1).length qc1):=by rw [<- hq1];exact (zaa HA.out.blk).trans rfl
   have d6:wr.cell? ⟨H,6,none⟩=some (.slice qa2 (qs 2).length qc2):=by rw [<- hq2];exact (zaa HA.out.blk).trans rfl
   clear HK HA hq0 hq1 hq2
   go_wp2_with fail
   clear d4 d5 d6
   go_loopw [34] (fun i wr'=>∃ (j:Nat) (uv:Value),j<=3/\i=.int .i64 j/\Hid (ShAt w wr' now (.slice ra ps.length rc) (ps.map zcE) uv (upQ qs j))) (fun i _=>3 - (intOf i).toNat)
   case atStart=>exact ⟨0,.slice none 0 0,Nat.zero_le _,rfl,HS⟩
   case round=>
    clear hl1 HS
    obtain ⟨j,uv,hj,rfl,HS⟩:=hrel
    have HA:Hid (HAt wr H code rec now last (.slice pa ps.length pc) qv qs ps):=HH.out.below HS.out.bel
    have hl1:=zae HS.out.o
    obtain ⟨ua,uc,huv⟩:=zag HS.out.m
    subst huv
    have o0:wr.cell? ⟨w.heap.size+1,0,none⟩=some (.int .i64 now):=(zaa HS.out.o).trans rfl
    have o1:wr.cell? ⟨w.heap.size+1,1,none⟩=some (.slice ra ps.length rc):=(zaa HS.out.o).trans rfl
    have o2:wr.cell? ⟨w.heap.size+1,2,none⟩=some (.slice ua (upQ qs j).length uc):=(zaa HS.out.o).trans rfl
    by_cases hlt3:j<3
    .have hlq:=HH.out.ql j hlt3
     have hlu:(upQ qs j).length<=12:=by
      have h0:=HH.out.ql 0 (by omega)
      have h1:=HH.out.ql 1 (by omega)
      rcases (show j=0\/j=1\/j=2 by omega) with rfl|rfl|rfl <;> simp [upQ] <;> omega
     obtain ⟨qa,qc,hqv⟩:∃ qa qc,qv j=.slice qa (qs j).length qc:=by
      obtain ⟨a,c,h⟩:=zag (HH.out.oB j hlt3)
      exact ⟨a,c,h⟩
     have HSRC:Hid (∀ (ob:Obj),zfq (wr.alloc ob) qa (qs j).length (zak (qs j))):=fun ob hp=>by
      have ho:=(HA.out.oB j hlt3).alloc ob
      rw [hqv] at ho
      obtain ⟨g,c,hv,_,hgl⟩:=ho.form hp
      simp at hv
      obtain ⟨rfl,rfl⟩:=hv
      exact ⟨_,rfl,fun i u hu=>ho.cells (g:=g) rfl i u hu⟩
     have HNE:Hid ((Value.slice ua (upQ qs j).length uc).ownBlock≠some (w.heap.size+1)):=fun e=>by obtain ⟨cur,hc⟩:=zad (zcr HS.out.m) e;exact zac hc HS.out.o (by decide) rfl
     have HOB:Hid (∀ (ob:Obj) (w2:World) (v2:Value),w2.ownsRow 0 87 4 v2 ((upQ qs j).length+(qs j).length) (zak (upQ qs j)++zak (qs j))->zcM (wr.alloc ob) w2 (.slice ua (upQ qs j).length uc) (upQ qs j).length (qs j).length v2->w2.heap[w.heap.size+1]?=some (.cells #[.int .i64 now,.slice ra ps.length rc,.slice ua (upQ qs j).length uc] 103 (0,0))/\ShAt w (w2.setCell ⟨w.heap.size+1,2,none⟩ v2) now (.slice ra ps.length rc) (ps.map zcE) v2 (upQ qs (j+1))):=fun ob w2 v2 hown ha=>by
      have hS1:=HS.out.alloc ob
      refine ⟨?_,ShAt.pushM hS1 (qs j) hown ha⟩
      rcases ha with ⟨g,cap,e1,_,hg⟩|⟨_,hg⟩
      .rw [hg.block _ (zae hS1.o) (fun e=>HNE.out (by rw [e1];exact e.symm))];exact hS1.o
      .rw [hg.block _ (zae hS1.o) (by simp)];exact hS1.o
     have HM0:Hid (wr.ownsRow 0 87 4 (.slice ua (upQ qs j).length uc) (upQ qs j).length (zak (upQ qs j))):=zcr HS.out.m
     clear HA
     obtain ⟨ix0,ix1,ix2⟩:=zmt (.slice qa0 (qs 0).length qc0) (.slice qa1 (qs 1).length qc1) (.slice qa2 (qs 2).length qc2) wr
     have hcase:j=0\/j=1\/j=2:=by omega
     clear hlt3
     rcases hcase with rfl|rfl|rfl
     .rw [HQV.out.1] at hqv
      simp at hqv
      obtain ⟨rfl,rfl⟩:=hqv
      go_wp2_with (at_builtin;refine za9 _ rfl (.tmp 38) (.tmp 40) 99 rfl 87 _ 4 32 Tryz.underlying99 Tryz.infoMsg rfl (by decide) (by decide) (.slice ua (upQ qs 0).length uc) _ (zak (upQ qs 0)) qa0 _ qc0 (zak (qs 0)) (by rfl) (by exact HM0.out.alloc _) (by rfl) (by exact HSRC.out _) (zbH _) (by exact zb8 _) (by omega) ?_)
      intro v2 w2 hown2 ha2
      obtain ⟨hob,HP⟩:=HOB.out _ w2 v2 hown2 ha2
      have e2:w2.cell? ⟨w.heap.size+1,2,none⟩=some (.slice ua (upQ qs 0).length uc):=(zaa hob).trans rfl
      have y2:w2.frozen? ⟨w.heap.size+1,2,none⟩=false:=zab hob
      obtain ⟨va,vc,hv2⟩:=zag hown2
      subst hv2
      have HP2:=zHd HP
      clear HP hob hown2 ha2 HOB HSRC HM0 o0 o1 o2 ix0 ix1 ix2
      go_wp2_with fail
      go_roundw
      case rel=>exact ⟨0+1,_,by omega,by go_num,HP2⟩
      case measure=>simp [intOf]
     .rw [HQV.out.2.1] at hqv
      simp at hqv
      obtain ⟨rfl,rfl⟩:=hqv
      go_wp2_with (at_builtin;refine za9 _ rfl (.tmp 38) (.tmp 40) 99 rfl 87 _ 4 32 Tryz.underlying99 Tryz.infoMsg rfl (by decide) (by decide) (.slice ua (upQ qs 1).length uc) _ (zak (upQ qs 1)) qa1 _ qc1 (zak (qs 1)) (by rfl) (by exact HM0.out.alloc _) (by rfl) (by exact HSRC.out _) (zbH _) (by exact zb8 _) (by omega) ?_)
      intro v2 w2 hown2 ha2
      obtain ⟨hob,HP⟩:=HOB.out _ w2 v2 hown2 ha2
      have e2:w2.cell? ⟨w.heap.size+1,2,none⟩=some (.slice ua (upQ qs 1).length uc):=(zaa hob).trans rfl
      have y2:w2.frozen? ⟨w.heap.size+1,2,none⟩=false:=zab hob
      obtain ⟨va,vc,hv2⟩:=zag hown2
      subst hv2
      have HP2:=zHd HP
      clear HP hob hown2 ha2 HOB HSRC HM0 o0 o1 o2 ix0 ix1 ix2
      go_wp2_with fail
      go_roundw
      case rel=>exact ⟨1+1,_,by omega,by go_num,HP2⟩
      case measure=>simp [intOf]
     .rw [HQV.out.2.2] at hqv
      simp at hqv
      obtain ⟨rfl,rfl⟩:=hqv
      go_wp2_with (at_builtin;refine za9 _ rfl (.tmp 38) (.tmp 40) 99 rfl 87 _ 4 32 Tryz.underlying99 Tryz.infoMsg rfl (by decide) (by decide) (.slice ua (upQ qs 2).length uc) _ (zak (upQ qs 2)) qa2 _ qc2 (zak (qs 2)) (by rfl) (by exact HM0.out.alloc _) (by rfl) (by exact HSRC.out _) (zbH _) (by exact zb8 _) (by omega) ?_)
      intro v2 w2 hown2 ha2
      obtain ⟨hob,HP⟩:=HOB.out _ w2 v2 hown2 ha2
      have e2:w2.cell? ⟨w.heap.size+1,2,none⟩=some (.slice ua (upQ qs 2).length uc):=(zaa hob).trans rfl
      have y2:w2.frozen? ⟨w.heap.size+1,2,none⟩=false:=zab hob
      obtain ⟨va,vc,hv2⟩:=zag hown2
      subst hv2
      have HP2:=zHd HP
      clear HP hob hown2 ha2 HOB HSRC HM0 o0 o1 o2 ix0 ix1 ix2
      go_wp2_with fail
      go_roundw
      case rel=>exact ⟨2+1,_,by omega,by go_num,HP2⟩
      case measure=>simp [intOf]
    .have hj3:j=3:=by omega
     subst hj3
     have r0:wr.cell? ⟨w.heap.size,0,none⟩=some (.int .i64 0):=(zaa HS.out.a).trans rfl
     have r1:wr.cell? ⟨w.heap.size,1,none⟩=some (.slice none 0 0):=(zaa HS.out.a).trans rfl
     have r2:wr.cell? ⟨w.heap.size,2,none⟩=some (.slice none 0 0):=(zaa HS.out.a).trans rfl
     have y0:wr.frozen? ⟨w.heap.size,0,none⟩=false:=zab HS.out.a
     have y1:wr.frozen? ⟨w.heap.size,1,none⟩=false:=zab HS.out.a
     have y2':wr.frozen? ⟨w.heap.size,2,none⟩=false:=zab HS.out.a
     have HB:Hid (Below w.heap.size w (((wr.setCell ⟨w.heap.size,0,none⟩ (.int .i64 now)).setCell ⟨w.heap.size,1,none⟩ (.slice ra ps.length rc)).setCell ⟨w.heap.size,2,none⟩ (.slice ua (upQ qs 3).length uc))):=
      ((HS.out.bel.setCell (p:=⟨w.heap.size,0,none⟩) (Nat.le_refl _) _).setCell (p:=⟨w.heap.size,1,none⟩) (Nat.le_refl _) _).setCell (p:=⟨w.heap.size,2,none⟩) (Nat.le_refl _) _
     have HU:Hid (upQ qs 3=qs 0++qs 1++qs 2):=(by simp [upQ]:upQ qs 3=qs 0++qs 1++qs 2)
     go_wp2_with fail
     refine bodyPost_ret (v:=.agg #[.int .i64 now,.slice ra ps.length rc,.slice ua (upQ qs 3).length uc]) (by simp [results,Tryz.results79,go_sem,r0,r1,r2]) rfl ⟨_,_,rfl,?_,?_,HB.out⟩
     .have h:=HS.out.r
      rw [List.length_map] at h
      refine zaJ h fun k hk=>?_
      obtain ⟨c,hc⟩:=zad (zcr h) hk
      have hne:=zac hc HS.out.a (by decide)
      rw [Below.heap_setCell _ _ _ _ hne,Below.heap_setCell _ _ _ _ hne,Below.heap_setCell _ _ _ _ hne]
     .rw [<- HU.out]
      have h:=HS.out.m
      refine zaJ h fun k hk=>?_
      obtain ⟨c,hc⟩:=zad (zcr h) hk
      have hne:=zac hc HS.out.a (by decide)
      rw [Below.heap_setCell _ _ _ _ hne,Below.heap_setCell _ _ _ _ hne,Below.heap_setCell _ _ _ _ hne]
open Go.RowKit Go.Proofs.Herald
theorem zlr (H:Nat)(cs:List Ins)(h:Her Pr)(code rec rv:Value)(qv:Nat->Value)(n:Nat)(f c a b:Int)(w:World)(F:FH w H cs h code rec rv qv n)(hn:n<=90000000):
  Calls Tryz.prog 64 #[.pointer (some ⟨H,0,none⟩),.int .i64 f,.agg #[.int .u8 c,.int .i64 a,.int .i64 b]] w fun e w'=>e=.returned (.tuple #[])/\FHOut w w' H cs h code rec rv qv (n+19):=by
 by_cases hf:f=0
 .subst hf
  exact zoM H cs h code rec rv qv n c a b w F hn
 .refine (zpP H f c a b w hf).mono ?_
  rintro e w' ⟨rfl,hb⟩
  exact ⟨rfl,FHOut.trans (Nat.le_add_right _ _) (fun k hk=>.inl hk) (Fr.refl _ _) (FHOut.below F hb)⟩
theorem zoN {w w1:World}{H:Nat}{cs:List Ins}{h h1:Her Pr}{code rec rv:Value}{qv:Nat->Value}{n:Nat}(F:FH w H cs h code rec rv qv n)(hn:n<=90000000)(ho:MHOut w w1 H code rec cs h1 rv qv)(f c a b:Int):
  Calls Tryz.prog 64 #[.pointer (some ⟨H,0,none⟩),.int .i64 f,.agg #[.int .u8 c,.int .i64 a,.int .i64 b]] w1 fun e w'=>e=.returned (.tuple #[])/\FHOut w w' H cs h1 code rec rv qv (n+19):=by
 obtain ⟨⟨rec',rv',qv',n',h2,h3,h4⟩,h5⟩:=FHOut.of_m F ho
 refine (zlr H cs h1 code rec' rv' qv' n' f c a b w1 h3 (by omega)).mono ?_
 rintro e w' ⟨rfl,hO⟩
 exact ⟨rfl,FHOut.trans (by omega) h4 h5 hO⟩
set_option maxRecDepth 20000 in
theorem znf (H:Nat)(cs:List Ins)(h:Her Pr)(code rec rv:Value)(qv:Nat->Value)(n:Nat)(dev C:Int)(w:World)(F:FH w H cs h code rec rv qv n)(hk:MOk cs C h)(hn:n<=90000000):
  Calls Tryz.prog 34 #[.pointer (some ⟨H,0,none⟩),.int .i64 dev] w fun e w'=>e=.returned (.tuple #[.int .i64 (zb7 (zaA cs) h dev).1,.int .i64 (zb7 (zaA cs) h dev).2.1])/\FHOut w w' H cs (zb7 (zaA cs) h dev).2.2 code rec rv qv (n+19):=by
 have HM:Hid (Calls Tryz.prog 63 #[.pointer (some ⟨H,0,none⟩),.int .i64 dev] w fun e w'=>e=.returned (.tuple #[.int .i64 (zb7 (zaA cs) h dev).1,.int .i64 (zb7 (zaA cs) h dev).2.1])/\MHOut w w' H code rec cs (zb7 (zaA cs) h dev).2.2 rv qv):=znt H code rec cs h rv qv dev C w F.m hk
 have HF:Hid (FH w H cs h code rec rv qv n):=F
 clear F hk
 generalize zb7 (zaA cs) h dev=T at *
 go_enter Tryz.func34,Tryz.ntmps34
 go_wp2_with fail
 refine HM.out.mono ?_
 rintro e w1 ⟨rfl,ho⟩
 have HN:Hid (Calls Tryz.prog 64 #[.pointer (some ⟨H,0,none⟩),.int .i64 T.2.1,.agg #[.int .u8 84,.int .i64 dev,.int .i64 0]] w1 fun e w'=>e=.returned (.tuple #[])/\FHOut w w' H cs T.2.2 code rec rv qv (n+19)):=zoN HF.out hn ho _ _ _ _
 clear ho HM
 go_wp2_with fail
 refine HN.out.mono ?_
 rintro e w2 ⟨rfl,ho⟩
 have HO:=zHd ho
 clear ho HN
 go_wp2_with fail
 go_ret2
 exact ⟨rfl,HO.out⟩
set_option maxRecDepth 20000 in
theorem zqr (H:Nat)(cs:List Ins)(h:Her Pr)(code rec rv:Value)(qv:Nat->Value)(n:Nat)(t C:Int)(w:World)(F:FH w H cs h code rec rv qv n)(hk:MOk cs C h)(hn:n<=90000000):
  Calls Tryz.prog 36 #[.pointer (some ⟨H,0,none⟩),.int .i64 t] w fun e w'=>e=.returned (.int .i64 (zdk (zaA cs) h t).1)/\FHOut w w' H cs (zdk (zaA cs) h t).2 code rec rv qv (n+19):=by
 have HM:Hid (Calls Tryz.prog 69 #[.pointer (some ⟨H,0,none⟩),.int .i64 t] w fun e w'=>e=.returned (.int .i64 (zdk (zaA cs) h t).1)/\MHOut w w' H code rec cs (zdk (zaA cs) h t).2 rv qv):=zqu H code rec cs h rv qv t C w F.m hk
 have HF:Hid (FH w H cs h code rec rv qv n):=F
 clear F hk
 generalize zdk (zaA cs) h t=T at *
 go_enter Tryz.func36,Tryz.ntmps36
 go_wp2_with fail
 refine HM.out.mono ?_
 rintro e w1 ⟨rfl,ho⟩
 have HN:Hid (Calls Tryz.prog 64 #[.pointer (some ⟨H,0,none⟩),.int .i64 T.1,.agg #[.int .u8 75,.int .i64 t,.int .i64 0]] w1 fun e w'=>e=.returned (.tuple #[])/\FHOut w w' H cs T.2 code rec rv qv (n+19)):=zoN HF.out hn ho _ _ _ _
 clear ho HM
 go_wp2_with fail
 refine HN.out.mono ?_
 rintro e w2 ⟨rfl,ho⟩
 have HO:=zHd ho
 clear ho HN
 go_wp2_with fail
 go_ret
 exact ⟨rfl,HO.out⟩
set_option maxRecDepth 20000 in
theorem zqZ (H:Nat)(cs:List Ins)(h:Her Pr)(code rec rv:Value)(qv:Nat->Value)(n:Nat)(id num C:Int)(w:World)(F:FH w H cs h code rec rv qv n)(hk:MOk cs C h)(hn:n<=90000000):
  Calls Tryz.prog 38 #[.pointer (some ⟨H,0,none⟩),.int .i64 id,.int .i64 num] w fun e w'=>e=.returned (.int .i64 (zej (zaA cs) h id num).1)/\FHOut w w' H cs (zej (zaA cs) h id num).2 code rec rv qv (n+19):=by
 have HM:Hid (Calls Tryz.prog 72 #[.pointer (some ⟨H,0,none⟩),.int .i64 id,.int .i64 num] w fun e w'=>e=.returned (.int .i64 (zej (zaA cs) h id num).1)/\MHOut w w' H code rec cs (zej (zaA cs) h id num).2 rv qv):=zq3 H code rec cs h rv qv id num C w F.m hk
 have HF:Hid (FH w H cs h code rec rv qv n):=F
 clear F hk
 generalize zej (zaA cs) h id num=T at *
 go_enter Tryz.func38,Tryz.ntmps38
 go_wp2_with fail
 refine HM.out.mono ?_
 rintro e w1 ⟨rfl,ho⟩
 have HN:Hid (Calls Tryz.prog 64 #[.pointer (some ⟨H,0,none⟩),.int .i64 T.1,.agg #[.int .u8 65,.int .i64 id,.int .i64 num]] w1 fun e w'=>e=.returned (.tuple #[])/\FHOut w w' H cs T.2 code rec rv qv (n+19)):=zoN HF.out hn ho _ _ _ _
 clear ho HM
 go_wp2_with fail
 refine HN.out.mono ?_
 rintro e w2 ⟨rfl,ho⟩
 have HO:=zHd ho
 clear ho HN
 go_wp2_with fail
 go_ret
 exact ⟨rfl,HO.out⟩
set_option maxRecDepth 20000 in
theorem zow (H:Nat)(cs:List Ins)(h:Her Pr)(code rec rv:Value)(qv:Nat->Value)(n:Nat)(id C:Int)(w:World)(F:FH w H cs h code rec rv qv n)(hk:MOk cs C h)(hn:n<=90000000):
  Calls Tryz.prog 40 #[.pointer (some ⟨H,0,none⟩),.int .i64 id] w fun e w'=>e=.returned (.int .i64 (zbb (zaA cs) h id).1)/\FHOut w w' H cs (zbb (zaA cs) h id).2 code rec rv qv (n+19):=by
 have HM:Hid (Calls Tryz.prog 75 #[.pointer (some ⟨H,0,none⟩),.int .i64 id] w fun e w'=>e=.returned (.int .i64 (zbb (zaA cs) h id).1)/\MHOut w w' H code rec cs (zbb (zaA cs) h id).2 rv qv):=zoG H code rec cs h rv qv id C w F.m hk
 have HF:Hid (FH w H cs h code rec rv qv n):=F
 clear F hk
 generalize zbb (zaA cs) h id=T at *
 go_enter Tryz.func40,Tryz.ntmps40
 go_wp2_with fail
 refine HM.out.mono ?_
 rintro e w1 ⟨rfl,ho⟩
 have HN:Hid (Calls Tryz.prog 64 #[.pointer (some ⟨H,0,none⟩),.int .i64 T.1,.agg #[.int .u8 67,.int .i64 id,.int .i64 0]] w1 fun e w'=>e=.returned (.tuple #[])/\FHOut w w' H cs T.2 code rec rv qv (n+19)):=zoN HF.out hn ho _ _ _ _
 clear ho HM
 go_wp2_with fail
 refine HN.out.mono ?_
 rintro e w2 ⟨rfl,ho⟩
 have HO:=zHd ho
 clear ho HN
 go_wp2_with fail
 go_ret
 exact ⟨rfl,HO.out⟩
theorem FH.keep {w w1:World}{H:Nat}{cs:List Ins}{h:Her Pr}{code rec rv:Value}{qv:Nat->Value}{n:Nat}(F:FH w H cs h code rec rv qv n)(hk:∀ k,zhp H code rec rv qv k->w1.heap[k]?=w.heap[k]?):FH w1 H cs h code rec rv qv n:=by
 obtain ⟨xs,h1,h2⟩:=F.r
 exact ⟨⟨F.m.at'.keep fun k hk'=>hk k (.inl hk'),zaj F.m.cd fun b hb=>hk b (.inr (.inr hb))⟩,xs,h1,zaj h2 fun b hb=>hk b (.inr (.inl hb))⟩
theorem FH.lt {w:World}{H:Nat}{cs:List Ins}{h:Her Pr}{code rec rv:Value}{qv:Nat->Value}{n:Nat}(F:FH w H cs h code rec rv qv n){k:Nat}(hk:zhp H code rec rv qv k):k<w.heap.size:=by
 rcases hk with hk|hk|hk
 .exact F.m.at'.lt hk
 .obtain ⟨xs,_,h2⟩:=F.r
  obtain ⟨c,hc⟩:=zad h2 hk
  exact zae hc
 .obtain ⟨c,hc⟩:=zad F.m.cd hk
  exact zae hc
set_option maxRecDepth 20000 in
theorem zpC (H:Nat)(cs:List Ins)(h:Her Pr)(code rec rv:Value)(qv:Nat->Value)(n:Nat)(dev C:Int)(w:World)(F:FH w H cs h code rec rv qv n)(hk:MOk cs C h)(hn:n<=90000000):
  Calls Tryz.prog 42 #[.pointer (some ⟨H,0,none⟩),.int .i64 dev] w fun e w'=>e=.returned (.tuple #[zlq (zbA h dev).1,.int .i64 (zbA h dev).2.1])/\FHOut w w' H cs (zbA h dev).2.2 code rec rv qv (n+19):=by
 have HM:Hid (∀ ob,Calls Tryz.prog 78 #[.pointer (some ⟨H,0,none⟩),.int .i64 dev] (w.alloc ob) fun e w'=>e=.returned (.tuple #[zlq (zbA h dev).1,.int .i64 (zbA h dev).2.1])/\MHOut (w.alloc ob) w' H code rec cs (zbA h dev).2.2 rv qv):=fun ob=>zpI H code rec cs h rv qv dev C (w.alloc ob) (F.below ((Below.refl _ _).alloc (Nat.le_refl _) _)).m hk
 have HF:Hid (∀ ob,FH (w.alloc ob) H cs h code rec rv qv n):=fun ob=>F.below ((Below.refl _ _).alloc (Nat.le_refl _) _)
 have HFW:Hid (FH w H cs h code rec rv qv n):=F
 clear F hk
 generalize zbA h dev=T at *
 obtain ⟨m,f,h1⟩:=T
 have emv:zlq m=.agg #[.int .i64 m.dev,.int .i64 m.run,.int .i64 m.num,.int .i64 m.key]:=rfl
 simp only [emv] at *
 clear emv
 go_enter Tryz.func42,Tryz.ntmps42
 go_wp2_with fail
 refine (HM.out _).mono ?_
 rintro e w1 ⟨rfl,ho⟩
 obtain ⟨W,hW⟩:∃ W,W=w.alloc (.cells #[.int .i64 0,.int .i64 0,.int .i64 0,.int .i64 0] 87):=⟨_,rfl⟩
 rw [<- hW] at ho
 have hWs:W.heap.size=w.heap.size+1:=by rw [hW];simp
 have hWr:W.heap[w.heap.size]?=some (.cells #[.int .i64 0,.int .i64 0,.int .i64 0,.int .i64 0] 87 (0,0)):=by rw [hW];exact heap_alloc_new _ _
 have HFo:Hid (FHOut W w1 H cs h1 code rec rv qv n):=FHOut.of_m (by rw [hW];exact HF.out _) ho
 have HWW:Hid (W.heap.size=w.heap.size+1/\(∀ k,k<w.heap.size->W.heap[k]?=w.heap[k]?)/\Fr (zhp H code rec rv qv) w W):=by
  refine ⟨hWs,fun k hk=>by rw [hW];exact Below.heap_alloc _ _ _ hk,?_⟩
  rw [hW]
  exact (Fr.refl _ _).alloc _
 have hr1:w1.heap[w.heap.size]?=some (.cells #[.int .i64 0,.int .i64 0,.int .i64 0,.int .i64 0] 87 (0,0)):=by
  rw [HFo.out.fr.block _ (by omega) (fun hk=>by have:=HFW.out.lt hk;omega)]
  exact hWr
 have HN:Hid (∀ ob,Calls Tryz.prog 64 #[.pointer (some ⟨H,0,none⟩),.int .i64 f,.agg #[.int .u8 68,.int .i64 dev,.int .i64 0]] (w1.alloc ob) fun e w'=>e=.returned (.tuple #[])/\FHOut W w' H cs h1 code rec rv qv (n+19)/\w'.heap[w1.heap.size]?=some ob/\w'.heap[w.heap.size]?=some (.cells #[.int .i64 0,.int .i64 0,.int .i64 0,.int .i64 0] 87 (0,0))):=fun ob=>by
  obtain ⟨⟨rec',rv',qv',n',h2,h3,h4⟩,h5⟩:=HFo.out
  have hb:Below w1.heap.size w1 (w1.alloc ob):=(Below.refl _ _).alloc (Nat.le_refl _) _
  refine (zlr H cs h1 code rec' rv' qv' n' f 68 dev 0 (w1.alloc ob) (h3.below hb) (by omega)).mono ?_
  rintro e w' ⟨rfl,hO⟩
  refine ⟨rfl,FHOut.trans (by omega) h4 (h5.alloc _) hO,?_,?_⟩
  .rw [hO.fr.block _ (by simp) (fun hk=>by have:=h3.lt hk;omega)]
   exact heap_alloc_new _ _
  .have hlt:w.heap.size<w1.heap.size:=zae hr1
   rw [hO.fr.block _ (by simp;omega) (fun hk=>by
    rcases h4 _ hk with h|h
    .have:=HFW.out.lt h;omega
    .omega),Below.heap_alloc _ _ _ hlt]
   exact hr1
 clear ho HM hW hWs hWr HFo hr1
 go_wp2_with fail
 refine (HN.out _).mono ?_
 rintro e w2 ⟨rfl,ho,hm2,hr2⟩
 obtain ⟨r0,r1,r2,r3,y0,y1,y2,y3⟩:=zhU hr2
 obtain ⟨s0,s1,s2,s3,_⟩:=zhU hm2
 have hlt2:w.heap.size<w2.heap.size:=zae hr2
 have HO:=zHd ho
 clear ho HN hm2 hr2
 go_wp2_with fail
 refine bodyPost_ret (v:=.tuple #[.agg #[.int .i64 m.dev,.int .i64 m.run,.int .i64 m.num,.int .i64 m.key],.int .i64 f]) (by simp [results,Tryz.results42,go_sem,r0,r1,r2,r3]) rfl ⟨rfl,?_⟩
 obtain ⟨⟨rec',rv',qv',n',h2,h3,h4⟩,h5⟩:=HO.out
 have hne:∀ k,zhp H code rec' rv' qv' k->k≠w.heap.size:=fun k hk=>by
  rcases h4 k hk with h|h
  .have:=HFW.out.lt h;omega
  .have:=HWW.out.1;omega
 refine ⟨⟨rec',rv',qv',n',h2,h3.keep fun k hk=>?_,fun k hk=>?_⟩,?_⟩
 .have:=hne k hk
  rw [Below.heap_setCell _ _ _ _ this,Below.heap_setCell _ _ _ _ this,Below.heap_setCell _ _ _ _ this,Below.heap_setCell _ _ _ _ this]
 .rcases h4 k hk with h|h
  .exact .inl h
  .exact .inr (by have:=HWW.out.1;omega)
 .have hw:w.heap.size<=(⟨w.heap.size,0,none⟩:Addr).block:=Nat.le_refl _
  have f0:Fr (zhp H code rec rv qv) w w2:=HWW.out.2.2.trans h5
  exact (((f0.setCell ⟨w.heap.size,0,none⟩ (.inr hw) _).setCell ⟨w.heap.size,1,none⟩ (.inr hw) _).setCell ⟨w.heap.size,2,none⟩ (.inr hw) _).setCell ⟨w.heap.size,3,none⟩ (.inr hw) _
set_option maxRecDepth 20000 in
theorem zqq (H:Nat)(cs:List Ins)(h:Her Pr)(code rec rv:Value)(qv:Nat->Value)(n:Nat)(w:World)(F:FH w H cs h code rec rv qv n)(hl:h.rs.length<=1000):
  Calls Tryz.prog 45 #[.pointer (some ⟨H,0,none⟩)] w fun e w'=>∃ sv uv,e=.returned (.agg #[.int .i64 h.now,sv,uv])/\w'.ownsRow w.heap.size 96 5 sv h.rs.length (zbp (h.rs.map zcE))/\w'.ownsRow w.heap.size 87 4 uv (h.qs 0++h.qs 1++h.qs 2).length (zak (h.qs 0++h.qs 1++h.qs 2))/\Below w.heap.size w w':=by
 have HC:Hid (∀ o,Calls Tryz.prog 79 #[.pointer (some ⟨H,0,none⟩)] (w.alloc o) fun e w'=>∃ sv uv,e=.returned (.agg #[.int .i64 h.now,sv,uv])/\w'.ownsRow (w.alloc o).heap.size 96 5 sv h.rs.length (zbp (h.rs.map zcE))/\w'.ownsRow (w.alloc o).heap.size 87 4 uv (h.qs 0++h.qs 1++h.qs 2).length (zak (h.qs 0++h.qs 1++h.qs 2))/\Below (w.alloc o).heap.size (w.alloc o) w'):=fun o=>zps H code rec h.now h.last rv qv h.qs h.rs (w.alloc o) (F.below ((Below.refl _ _).alloc (Nat.le_refl _) _)).m.at' hl
 clear F
 go_enter Tryz.func45,Tryz.ntmps45
 go_wp2_with fail
 refine (HC.out _).mono ?_
 rintro e w1 ⟨sv,uv,rfl,hr1,hm1,hb1⟩
 obtain ⟨sa,sc,hsv⟩:=zag hr1
 obtain ⟨ua,uc,huv⟩:=zag hm1
 subst hsv huv
 have g1:w1.heap[w.heap.size]?=some (.cells #[.int .i64 0,.slice none 0 0,.slice none 0 0] 103 (0,0)):=(hb1.block _ (by simp)).trans (heap_alloc_new _ _)
 obtain ⟨r0,r1,r2,y0,y1,y2⟩:=zev g1
 have HB:Hid (Below w.heap.size w w1/\w1.ownsRow w.heap.size 96 5 (.slice sa h.rs.length sc) h.rs.length (zbp (h.rs.map zcE))/\w1.ownsRow w.heap.size 87 4 (.slice ua (h.qs 0++h.qs 1++h.qs 2).length uc) (h.qs 0++h.qs 1++h.qs 2).length (zak (h.qs 0++h.qs 1++h.qs 2))/\w1.heap[w.heap.size]?=some (.cells #[.int .i64 0,.slice none 0 0,.slice none 0 0] 103 (0,0))):=
  ⟨((Below.refl _ _).alloc (Nat.le_refl _) _).trans (hb1.mono (by simp)),zdn (zcr hr1) fun b hb=>by have:=(zao hr1 hb).1;simp at this;omega,zdn (zcr hm1) fun b hb=>by have:=(zao hm1 hb).1;simp at this;omega,g1⟩
 clear hb1 g1 HC hr1 hm1
 go_wp2_with fail
 refine bodyPost_ret (v:=.agg #[.int .i64 h.now,.slice sa h.rs.length sc,.slice ua (h.qs 0++h.qs 1++h.qs 2).length uc]) (by simp [results,Tryz.results45,go_sem,r0,r1,r2]) rfl ⟨_,_,rfl,?_,?_,?_⟩
 .refine zaJ HB.out.2.1 fun k hk=>?_
  obtain ⟨c,hc⟩:=zad (zcr HB.out.2.1) hk
  have hne:=zac hc HB.out.2.2.2 (by decide)
  rw [Below.heap_setCell _ _ _ _ hne,Below.heap_setCell _ _ _ _ hne,Below.heap_setCell _ _ _ _ hne]
 .refine zaJ HB.out.2.2.1 fun k hk=>?_
  obtain ⟨c,hc⟩:=zad (zcr HB.out.2.2.1) hk
  have hne:=zac hc HB.out.2.2.2 (by decide)
  rw [Below.heap_setCell _ _ _ _ hne,Below.heap_setCell _ _ _ _ hne,Below.heap_setCell _ _ _ _ hne]
 .exact ((HB.out.1.setCell (p:=⟨w.heap.size,0,none⟩) (Nat.le_refl _) _).setCell (p:=⟨w.heap.size,1,none⟩) (Nat.le_refl _) _).setCell (p:=⟨w.heap.size,2,none⟩) (Nat.le_refl _) _
end Go.Proofs.YtmmmnghiegajmaaGreat
