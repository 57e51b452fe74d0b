import Derived.Test.YtmmmnghiegajmaaGreatM07
import Derived.Test.YtmmmnghiegajmaaGreatM04
set_option maxHeartbeats 2000000
namespace Go.Proofs.YtmmmnghiegajmaaGreat
open Go.RowKit Go.Proofs.Herald
theorem zhL (t:ByteArray){T:Type}:∀ (xs:List ((Hd×T×T)×(Value×Value))) (i:Nat) (hi:i<xs.length) (j:Nat) (_:j<7),
  (zbt t xs)[i*7+j]?=(zbw t xs[i].1.1 xs[i].2)[j]?:=by
 intro xs
 induction xs with
 | nil=>intro i hi;simp at hi
 | cons x r ih=>
  intro i hi j hj
  have hl:(zbw t x.1.1 x.2).length=7:=rfl
  cases i with
  | zero=>
   simp only [zbt,List.flatMap_cons,Nat.zero_mul,Nat.zero_add,List.getElem_cons_zero]
   rw [List.getElem?_append_left (by omega)]
  | succ i=>
   have:=ih i (by simpa using hi) j hj
   simp only [zbt,List.flatMap_cons,List.getElem_cons_succ] at this ⊢
   rw [List.getElem?_append_right (by omega),show (i+1)*7+j - (zbw t x.1.1 x.2).length=i*7+j from by omega]
   exact this
theorem TreeAt.open {t:ByteArray}{w:World}{X:Nat->Prop}{d:Nat}{v:Value}{l:Tree (d+1)}(h:TreeAt t w X (d+1) v l):
  ∃ (xs:List ((Hd×Tree d×Tree d)×(Value×Value))) (a:Option Addr) (cap g:Nat),l=xs.map Prod.fst/\v=.slice a xs.length cap/\(0<xs.length->a=some ⟨g,0,none⟩) /\
   (∀ (i:Nat) (hi:i<xs.length),w.cell? ⟨g,i*7,none⟩=some (.string (t.extract xs[i].1.1.p.1 xs[i].1.1.p.2))/\w.cell? ⟨g,i*7+1,none⟩=some (.int .i64 xs[i].1.1.key) /\
    w.cell? ⟨g,i*7+2,none⟩=some (.int .i64 xs[i].1.1.n)/\w.cell? ⟨g,i*7+3,none⟩=some (.int .i64 xs[i].1.1.m)/\w.cell? ⟨g,i*7+4,none⟩=some xs[i].2.1 /\
    w.cell? ⟨g,i*7+5,none⟩=some xs[i].2.2/\w.cell? ⟨g,i*7+6,none⟩=some (.int .i64 xs[i].1.1.p.1)) /\
   (∀ (i:Nat) (hi:i<xs.length),TreeAt t w X d xs[i].2.1 xs[i].1.2.1/\TreeAt t w X d xs[i].2.2 xs[i].1.2.2):=by
 obtain ⟨xs,h1,h2,h3,h4,h5⟩:=h
 rcases h2.2 with ⟨rfl,h0⟩|⟨g,cap,cur,rfl,hb,hg,hn,hm,hs,ht⟩
 .exact ⟨xs,none,0,0,h1,by rw [h0],by omega,fun i hi=>by omega,fun i hi=>h4 _ (List.getElem_mem hi)⟩
 .refine ⟨xs,_,cap,g,h1,rfl,fun _=>rfl,fun i hi=>?_,fun i hi=>h4 _ (List.getElem_mem hi)⟩
  have hc:=h2.cells (g:=g) rfl
  have key:∀ (j:Nat) (u:Value),j<7->(zbw t xs[i].1.1 xs[i].2)[j]?=some u->w.cell? ⟨g,i*7+j,none⟩=some u:=fun j u hj hu=>by
   have:=hc (i*7+j) u (by rw [zhL t xs i hi j hj];exact hu)
   rwa [Addr.add_lit,Nat.zero_add] at this
  exact ⟨key 0 _ (by omega) rfl,key 1 _ (by omega) rfl,key 2 _ (by omega) rfl,key 3 _ (by omega) rfl,key 4 _ (by omega) rfl,key 5 _ (by omega) rfl,key 6 _ (by omega) rfl⟩
def zgY (t:ByteArray)(d:Nat):Prop:=
 ∀ (v:Value) (tr:Tree d) (n:Int) (X:Nat->Prop) (w:World),TreeAt t w X d v tr->OkT t d tr->zaQ d tr<=400->1<=n->n<=64 ->
  Calls Tryz.prog 25 #[v,.int .i64 n] w fun e w'=>e=.returned (.int .i64 (zce t d tr n))/\w'=w
theorem zoJ {n m:Int}(h1:1<=n)(h2:n<=64)(h3:1<=m)(h4:m<=9):1<=n*m/\n*m<=576:=by
 have h:m=1\/m=2\/m=3\/m=4\/m=5\/m=6\/m=7\/m=8\/m=9:=by omega
 rcases h with rfl|rfl|rfl|rfl|rfl|rfl|rfl|rfl|rfl <;> omega
theorem zjW {α:Type}(f:α->Nat):∀ (l:List α) (x:α),x∈l->f x<=(l.map f).sum:=by
 intro l
 induction l with
 | nil=>intro x h;simp at h
 | cons y r ih=>
  intro x h
  simp only [List.mem_cons] at h
  rcases h with rfl|h
  .simp
  .have:=ih x h;simp;omega
theorem zfL {α:Type}(f:α->Nat)(hf:∀ x,1<=f x):∀ (l:List α),l.length<=(l.map f).sum:=by
 intro l
 induction l with
 | nil=>simp
 | cons y r ih=>have:=hf y;simp;omega
theorem zkr (a:Option Addr)(cap:Nat)(n:Int)(w:World):
  Calls Tryz.prog 25 #[.slice a 0 cap,.int .i64 n] w fun e w'=>e=.returned (.int .i64 (-1))/\w'=w:=by
 go_enter Tryz.func25,Tryz.ntmps25
 go_wp2_with fail
 go_loop [5] (fun i=>i=.int .i64 0) (fun _=>0)
 case atStart=>rfl
 case round=>
  subst hrel
  go_wp2_with fail
  go_ret
  exact ⟨rfl,rfl⟩
theorem zmc (t:ByteArray)(d:Nat)(ih:zgY t d):zgY t (d+1):=by
 intro v tr n X w htr hok hsz hn1 hn2
 obtain ⟨xs,a,cap,g,hl,hv,ha,hcells,hsubs⟩:=htr.open
 subst hv
 have hlen:xs.length<=400:=by
  have:=zfL (fun x:Hd×Tree d×Tree d=>1+zaQ d x.2.1+zaQ d x.2.2) (fun x=>by omega) tr.list
  have e:tr.list.length=xs.length:=by rw [hl];exact List.length_map ..
  have e2:zaQ (d+1) tr=(tr.list.map fun x:Hd×Tree d×Tree d=>1+zaQ d x.2.1+zaQ d x.2.2).sum:=rfl
  omega
 have HOK:Hid (∀ (i:Nat) (hi:i<xs.length),OkT t d xs[i].1.2.1/\OkT t d xs[i].1.2.2/\(zaf t xs[i].1.1.p=zax->1<=xs[i].1.1.n/\xs[i].1.1.n<=9)/\zaQ d xs[i].1.2.1<=400/\zaQ d xs[i].1.2.2<=400):=by
  intro i hi
  have hm:xs[i].1∈tr.list:=by rw [hl];exact List.mem_map.2 ⟨xs[i],List.getElem_mem hi,rfl⟩
  have h1:=hok _ hm
  have h2:=zjW (fun x:Hd×Tree d×Tree d=>1+zaQ d x.2.1+zaQ d x.2.2) tr.list _ hm
  have e2:zaQ (d+1) tr=(tr.list.map fun x:Hd×Tree d×Tree d=>1+zaQ d x.2.1+zaQ d x.2.2).sum:=rfl
  exact ⟨h1.2.2.2.2.2.1,h1.2.2.2.2.2.2,h1.2.2.2.2.1,by omega,by omega⟩
 have HT:Hid (zce t (d+1) tr n=zew t (zce t d) (xs.map Prod.fst) n):=by show _=_;rw [zce,hl]
 have HC:Hid (∀ (i:Nat) (hi:i<xs.length),w.cell? ⟨g,i*7,none⟩=some (.string (t.extract xs[i].1.1.p.1 xs[i].1.1.p.2))/\w.cell? ⟨g,i*7+1,none⟩=some (.int .i64 xs[i].1.1.key) /\
    w.cell? ⟨g,i*7+2,none⟩=some (.int .i64 xs[i].1.1.n)/\w.cell? ⟨g,i*7+3,none⟩=some (.int .i64 xs[i].1.1.m)/\w.cell? ⟨g,i*7+4,none⟩=some xs[i].2.1 /\
    w.cell? ⟨g,i*7+5,none⟩=some xs[i].2.2/\w.cell? ⟨g,i*7+6,none⟩=some (.int .i64 xs[i].1.1.p.1)):=hcells
 have HS:=zHd hsubs
 have HA:=zHd ha
 clear hl hok hsz hcells hsubs ha htr
 go_enter Tryz.func25,Tryz.ntmps25
 go_wp2_with fail
 go_loop [5] (fun i=>∃ k:Nat,k<=xs.length/\i=.int .i64 k/\zew t (zce t d) ((xs.drop k).map Prod.fst) n=zew t (zce t d) (xs.map Prod.fst) n) (fun i=>xs.length - (intOf i).toNat)
 case atStart=>exact ⟨0,Nat.zero_le _,rfl,rfl⟩
 case round=>
  obtain ⟨k,hk,rfl,hrun⟩:=hrel
  by_cases hlt:k<xs.length
  .have ha:=HA.out (by omega)
   obtain ⟨c0,_,c2,_,c4,c5,c6⟩:=HC.out k hlt
   obtain ⟨ta,tb⟩:=HS.out k hlt
   obtain ⟨oa,ob,orp,za,zb⟩:=HOK.out k hlt
   rw [zbT xs k hlt,List.map_cons,zew] at hrun
   obtain ⟨va,hva⟩:∃ u,u=xs[k].2.1:=⟨_,rfl⟩
   obtain ⟨vb,hvb⟩:∃ u,u=xs[k].2.2:=⟨_,rfl⟩
   obtain ⟨s,hs⟩:∃ s,s=t.extract xs[k].1.1.p.1 xs[k].1.1.p.2:=⟨_,rfl⟩
   obtain ⟨N,hN⟩:∃ N,N=xs[k].1.1.n:=⟨_,rfl⟩
   have hby:zaf t xs[k].1.1.p=s.data.toList:=by rw [hs];rfl
   rw [<- hva] at c4 ta
   rw [<- hvb] at c5 tb
   rw [<- hs] at c0
   rw [<- hN] at c2 orp hrun
   rw [hby] at orp hrun
   clear hva hvb hs hN hby
   subst ha
   have HTA:Hid (TreeAt t w X d va xs[k].1.2.1):=ta
   have HTB:Hid (TreeAt t w X d vb xs[k].1.2.2):=tb
   have HOA:Hid (OkT t d xs[k].1.2.1):=oa
   have HOB:Hid (OkT t d xs[k].1.2.2):=ob
   clear ta tb oa ob
   by_cases hrp:s.data.toList=zax
   .rw [if_pos hrp] at hrun
    obtain ⟨o1,o2⟩:=orp hrp
    have hb:=zoJ hn1 hn2 o1 o2
    have e0:(s.toList==[114,101,112,101,97,116])=true:=zaO hrp
    clear orp hrp
    by_cases h64:64<n*N
    .rw [if_pos h64] at hrun
     have HR:=zHd hrun
     clear hrun
     go_wp2_with fail
     go_ret
     exact ⟨zaV (by rw [HT.out,<- HR.out]),rfl⟩
    .rw [if_neg h64] at hrun
     have h64':n*N<=64:=by omega
     obtain ⟨P,hP⟩:∃ P,P=zce t d xs[k].1.2.1 (n*N):=⟨_,rfl⟩
     obtain ⟨R,hR⟩:∃ R,R=zce t d xs[k].1.2.2 (n*N):=⟨_,rfl⟩
     rw [<- hP,<- hR] at hrun
     have HP:=zHd hP
     have HQ:=zHd hR
     clear hP hR
     by_cases hp:0<=P
     .rw [if_pos hp] at hrun
      have HR:=zHd hrun
      clear hrun
      go_wp2_with fail
      refine (ih va _ _ X _ HTA.out HOA.out za (by omega) h64').mono ?_
      rw [<- HP.out]
      rintro e w' ⟨rfl,rfl⟩
      go_wp2_with fail
      go_ret
      exact ⟨zaV (by rw [HT.out,<- HR.out]),rfl⟩
     .rw [if_neg hp] at hrun
      by_cases hq:0<=R
      .rw [if_pos hq] at hrun
       have HR:=zHd hrun
       clear hrun
       go_wp2_with fail
       refine (ih va _ _ X _ HTA.out HOA.out za (by omega) h64').mono ?_
       rw [<- HP.out]
       rintro e w' ⟨rfl,rfl⟩
       go_wp2_with fail
       refine (ih vb _ _ X _ HTB.out HOB.out zb (by omega) h64').mono ?_
       rw [<- HQ.out]
       rintro e w' ⟨rfl,rfl⟩
       go_wp2_with fail
       go_ret
       exact ⟨zaV (by rw [HT.out,<- HR.out]),rfl⟩
      .rw [if_neg hq] at hrun
       have HR:=zHd hrun
       clear hrun
       go_wp2_with fail
       refine (ih va _ _ X _ HTA.out HOA.out za (by omega) h64').mono ?_
       rw [<- HP.out]
       rintro e w' ⟨rfl,rfl⟩
       go_wp2_with fail
       refine (ih vb _ _ X _ HTB.out HOB.out zb (by omega) h64').mono ?_
       rw [<- HQ.out]
       rintro e w' ⟨rfl,rfl⟩
       go_wp2_with fail
       go_round
       case rel=>exact ⟨k+1,by omega,by go_num,HR.out⟩
       case measure=>simp [intOf];omega
   .rw [if_neg hrp] at hrun
    have e0:(s.toList==[114,101,112,101,97,116])=false:=zas hrp
    clear orp hrp
    obtain ⟨P,hP⟩:∃ P,P=zce t d xs[k].1.2.1 (n):=⟨_,rfl⟩
    obtain ⟨R,hR⟩:∃ R,R=zce t d xs[k].1.2.2 (n):=⟨_,rfl⟩
    rw [<- hP,<- hR] at hrun
    have HP:=zHd hP
    have HQ:=zHd hR
    clear hP hR
    by_cases hp:0<=P
    .rw [if_pos hp] at hrun
     have HR:=zHd hrun
     clear hrun
     go_wp2_with fail
     refine (ih va _ _ X _ HTA.out HOA.out za hn1 hn2).mono ?_
     rw [<- HP.out]
     rintro e w' ⟨rfl,rfl⟩
     go_wp2_with fail
     go_ret
     exact ⟨zaV (by rw [HT.out,<- HR.out]),rfl⟩
    .rw [if_neg hp] at hrun
     by_cases hq:0<=R
     .rw [if_pos hq] at hrun
      have HR:=zHd hrun
      clear hrun
      go_wp2_with fail
      refine (ih va _ _ X _ HTA.out HOA.out za hn1 hn2).mono ?_
      rw [<- HP.out]
      rintro e w' ⟨rfl,rfl⟩
      go_wp2_with fail
      refine (ih vb _ _ X _ HTB.out HOB.out zb hn1 hn2).mono ?_
      rw [<- HQ.out]
      rintro e w' ⟨rfl,rfl⟩
      go_wp2_with fail
      go_ret
      exact ⟨zaV (by rw [HT.out,<- HR.out]),rfl⟩
     .rw [if_neg hq] at hrun
      have HR:=zHd hrun
      clear hrun
      go_wp2_with fail
      refine (ih va _ _ X _ HTA.out HOA.out za hn1 hn2).mono ?_
      rw [<- HP.out]
      rintro e w' ⟨rfl,rfl⟩
      go_wp2_with fail
      refine (ih vb _ _ X _ HTB.out HOB.out zb hn1 hn2).mono ?_
      rw [<- HQ.out]
      rintro e w' ⟨rfl,rfl⟩
      go_wp2_with fail
      go_round
      case rel=>exact ⟨k+1,by omega,by go_num,HR.out⟩
      case measure=>simp [intOf];omega
  .rw [List.drop_of_length_le (by omega)] at hrun
   have HR:=zHd hrun
   clear hrun
   go_wp2_with fail
   go_ret
   exact ⟨zaV (by rw [HT.out,<- HR.out];rfl),rfl⟩
theorem znm (t:ByteArray)(d:Nat):zgY t d:=by
 induction d with
 | zero=>
  intro v tr n X w htr _ _ _ _
  obtain ⟨a,cap,rfl⟩:=htr
  exact zkr a cap n w
 | succ d ih=>exact zmc t d ih
open Go.RowKit Go.Proofs.Herald
theorem zik {t:ByteArray}{w:World}{d:Nat}{v:Value}{l:Tree d}{X:Nat->Prop}(o:Obj)(h:TreeAt t w X d v l)(hX:∀ k,X k->k<w.heap.size):TreeAt t (w.alloc o) X d v l:=
 TreeAt.keep (fun k hk=>Below.heap_alloc _ _ _ (hX k hk)) d v l h
theorem zgb (a b:Int)(w:World)(ha:a<=4000000000000000000)(hb:b<=4000000000000000000):
  Calls Tryz.prog 57 #[.int .i64 a,.int .i64 b] w fun e w'=>e=.returned (.int .i64 (zat a b))/\w'=w:=by
 by_cases h:a<0
 .go_enter Tryz.func57,Tryz.ntmps57
  go_wp2
  go_ret
  exact ⟨zaV (by rw [zat,if_pos (by omega)]),rfl⟩
 .by_cases h2:b<0
  .go_enter Tryz.func57,Tryz.ntmps57
   go_wp2
   go_ret
   exact ⟨zaV (by rw [zat,if_pos (by omega)]),rfl⟩
  .go_enter Tryz.func57,Tryz.ntmps57
   go_wp2
   go_ret
   exact ⟨zaV (by rw [zat,if_neg (by omega)]),rfl⟩
def ziZ (t:ByteArray)(d:Nat):Prop:=
 ∀ (v:Value) (tr:Tree d) (X:Nat->Prop) (w:World),TreeAt t w X d v tr->OkT t d tr->zaQ d tr<=400->d<=5 ->
  Calls Tryz.prog 26 #[v] w fun e w'=>e=.returned (.tuple #[.int .i64 (zay t d tr).1,.int .i64 (zay t d tr).2])/\Below w.heap.size w w'
def zmL (t:ByteArray)(d:Nat):Prop:=
 ∀ (h:Hd) (va vb:Value) (A B:Tree d) (X:Nat->Prop) (w:World),TreeAt t w X d va A->TreeAt t w X d vb B->(∀ k,X k->k<w.heap.size)->OkT t d A->OkT t d B->zaQ d A<=400->zaQ d B<=400 ->
  0<=h.n->h.n<=999->0<=h.m->h.m<=6->(zaf t h.p=zax->1<=h.n/\h.n<=9) ->
  Calls Tryz.prog 56 #[.agg #[.string (t.extract h.p.1 h.p.2),.int .i64 h.key,.int .i64 h.n,.int .i64 h.m,va,vb,.int .i64 h.p.1]] w fun e w'=>
   e=.returned (.tuple #[.int .i64 (zeC t h (zay t d A) (zay t d B)).1,.int .i64 (zeC t h (zay t d A) (zay t d B)).2])/\Below w.heap.size w w'
theorem zns (t:ByteArray)(d:Nat)(hd:d<=5)(ih:ziZ t d):zmL t d:=by
 intro h va vb A B X w ta tb hX oa ob za zb hn0 hn9 hm0 hm6 hrep
 obtain ⟨s,hs⟩:∃ s,s=t.extract h.p.1 h.p.2:=⟨_,rfl⟩
 have hby:zaf t h.p=s.data.toList:=by rw [hs];rfl
 rw [<- hs]
 rw [hby] at hrep
 have ba:=zcR (zbC t d A oa) za hd
 have bb:=zcR (zbC t d B ob) zb hd
 obtain ⟨a,hA⟩:∃ a,a=zay t d A:=⟨_,rfl⟩
 obtain ⟨b,hB⟩:∃ b,b=zay t d B:=⟨_,rfl⟩
 have HO:Hid (zeC t h (zay t d A) (zay t d B)=if s.data.toList=zcB then (h.n,-1) else if s.data.toList=zcN then (-1,0) else if s.data.toList=zci then (0,-1)
   else if s.data.toList=zax then zcU h.n.toNat (0,-1) a
   else (zcy (zat (zcl h.n (h.m - 1).toNat - 1) a.1) (zat (zcl h.n (h.m - 1).toNat) b.1),zcy (zat (zcl h.n (h.m - 1).toNat - 1) a.2) (zat (zcl h.n (h.m - 1).toNat) b.2))):=by
  show _=_
  rw [zeC,hby,hA,hB]
 obtain ⟨N,hN⟩:∃ N,N=h.n:=⟨_,rfl⟩
 obtain ⟨M,hM⟩:∃ M,M=h.m:=⟨_,rfl⟩
 rw [<- hN] at hn0 hn9 hrep HO
 rw [<- hM] at hm0 hm6 HO
 rw [<- hN,<- hM]
 rw [<- hA] at ba
 rw [<- hB] at bb
 obtain ⟨ba1,ba2,ba3,ba4⟩:=ba
 obtain ⟨bb1,bb2,bb3,bb4⟩:=bb
 have HA:=zHd hA
 have HB:=zHd hB
 have HTA:Hid (TreeAt t w X d va A):=ta
 have HTB:Hid (TreeAt t w X d vb B):=tb
 have HXX:=zHd hX
 have HOA:Hid (OkT t d A):=oa
 have HOB:Hid (OkT t d B):=ob
 obtain ⟨aa,na,ca,hva⟩:=ta.one
 obtain ⟨ab,nb,cb,hvb⟩:=tb.one
 clear hA hB hby hs hN hM ta tb hX oa ob
 subst hva
 subst hvb
 by_cases k1:s.data.toList=zcB
 .have HR:Hid (_=_):=HO.out.trans (if_pos k1)
  have e1:(s.toList==[119,97,105,116])=true:=zaO k1
  clear k1 hrep
  go_enter Tryz.func56,Tryz.ntmps56
  go_wp2_with fail
  go_ret2
  exact ⟨zdA (by rw [HR.out]) (by rw [HR.out]),(Below.refl _ _).alloc (Nat.le_refl _) _⟩
 have HO1:Hid (_=_):=HO.out.trans (if_neg k1)
 have e1:(s.toList==[119,97,105,116])=false:=zas k1
 by_cases k2:s.data.toList=zcN
 .have HR:Hid (_=_):=HO1.out.trans (if_pos k2)
  have e2:(s.toList==[115,116,111,112])=true:=zaO k2
  clear k1 k2 hrep
  go_enter Tryz.func56,Tryz.ntmps56
  go_wp2_with fail
  go_ret2
  exact ⟨zdA (by rw [HR.out]) (by rw [HR.out]),(Below.refl _ _).alloc (Nat.le_refl _) _⟩
 have HO2:Hid (_=_):=HO1.out.trans (if_neg k2)
 have e2:(s.toList==[115,116,111,112])=false:=zas k2
 by_cases k3:s.data.toList=zci
 .have HR:Hid (_=_):=HO2.out.trans (if_pos k3)
  have e3:(s.toList==[115,101,110,100])=true:=zaO k3
  clear k1 k2 k3 hrep
  go_enter Tryz.func56,Tryz.ntmps56
  go_wp2_with fail
  go_ret2
  exact ⟨zdA (by rw [HR.out]) (by rw [HR.out]),(Below.refl _ _).alloc (Nat.le_refl _) _⟩
 have HO3:Hid (_=_):=HO2.out.trans (if_neg k3)
 have e3:(s.toList==[115,101,110,100])=false:=zas k3
 by_cases k4:s.data.toList=zax
 .have HR:Hid (_=_):=HO3.out.trans (if_pos k4)
  have e4:(s.toList==[114,101,112,101,97,116])=true:=zaO k4
  obtain ⟨r1,r2⟩:=hrep k4
  clear k1 k2 k3 k4 hrep HO HO1 HO2 HO3
  go_enter Tryz.func56,Tryz.ntmps56
  go_wp2_with fail
  refine (ih _ A X _ ?_ HOA.out za hd).mono ?_
  .exact zik _ HTA.out HXX.out
  rw [<- HA.out]
  rintro e w1 ⟨rfl,hb1⟩
  have hwc:(w.alloc (.cells #[.string s,.int .i64 h.key,.int .i64 N,.int .i64 M,.slice aa na ca,.slice ab nb cb,.int .i64 h.p.1] 133)).heap.size=w.heap.size+1:=by simp
  rw [hwc] at hb1
  have hF1:w1.heap[w.heap.size]?=some (.cells #[.string s,.int .i64 h.key,.int .i64 N,.int .i64 M,.slice aa na ca,.slice ab nb cb,.int .i64 h.p.1] 133 (0,0)):=(hb1.block _ (by omega)).trans (heap_alloc_new _ _)
  have hc0:w1.cell? ⟨w.heap.size,0,none⟩=some (.string s):=(zaa hF1).trans rfl
  have hc2:w1.cell? ⟨w.heap.size,2,none⟩=some (.int .i64 N):=(zaa hF1).trans rfl
  have HB1:Hid (Below w.heap.size w w1):=((Below.refl _ _).alloc (Nat.le_refl _) _).trans (hb1.mono (by omega))
  clear hF1 hb1 hwc
  go_wp2_with fail
  go_loop [6,7,8] (fun x y i=>∃ (j:Nat) (p q:Int),j<=N.toNat/\i=.int .i64 j/\x=.int .i64 p/\y=.int .i64 q/\-1<=p/\p<=j*10000000000000/\-1<=q/\q<=j*10000000000000/\zcU (N.toNat - j) (p,q) a=zcU N.toNat (0,-1) a) (fun _ _ i=>N.toNat - (intOf i).toNat)
  case atStart=>exact ⟨0,0,-1,by omega,rfl,rfl,rfl,by omega,by omega,by omega,by omega,rfl⟩
  case round=>
   obtain ⟨j,p,q,hj,rfl,rfl,rfl,p1,p2,q1,q2,hr⟩:=hrel
   by_cases hlt:j<N.toNat
   .have hlt':(j:Int)<N:=by omega
    rw [show N.toNat - j=(N.toNat - (j+1))+1 from by omega,zcU] at hr
    have HRR:=zHd hr
    clear hr
    go_wp2_with (first|(go_at_call 57;refine (zgb _ _ _ (by omega) (by omega)).mono ?_;rintro e w' ⟨rfl,rfl⟩)|(go_at_call 27;refine (zdK _ _ _).mono ?_;rintro e w' ⟨rfl,rfl⟩))
    go_round
    case rel=>
     have s1:=AtMost.step (acc:=(p,q)) (a:=a) (c:=j*10000000000000) (e:=10000000000000) ⟨p1,p2,q1,q2⟩ ⟨ba1,ba2,ba3,ba4⟩ (by omega) (by omega)
     exact ⟨j+1,_,_,by omega,by go_num,rfl,rfl,s1.1,by have:=s1.2.1;simp only at this;omega,s1.2.2.1,by have:=s1.2.2.2;simp only at this;omega,HRR.out⟩
    case measure=>simp [intOf];omega
   .have hlt':¬ (j:Int)<N:=by omega
    rw [show N.toNat - j=0 from by omega,zcU] at hr
    have HRR:=zHd hr
    clear hr hlt
    go_wp2_with fail
    go_ret2
    exact ⟨zdA (by rw [HR.out,<- HRR.out]) (by rw [HR.out,<- HRR.out]),HB1.out⟩
 .have HR:Hid (_=_):=HO3.out.trans (if_neg k4)
  have e4:(s.toList==[114,101,112,101,97,116])=false:=zas k4
  clear k1 k2 k3 k4 hrep HO HO1 HO2 HO3
  have ht:=zd1 N hn0 hn9 (M - 1).toNat (by omega)
  go_enter Tryz.func56,Tryz.ntmps56
  go_wp2_with fail
  refine (ih _ A X _ ?_ HOA.out za hd).mono ?_
  .exact zik _ HTA.out HXX.out
  rw [<- HA.out]
  rintro e w1 ⟨rfl,hb1⟩
  have hwc:(w.alloc (.cells #[.string s,.int .i64 h.key,.int .i64 N,.int .i64 M,.slice aa na ca,.slice ab nb cb,.int .i64 h.p.1] 133)).heap.size=w.heap.size+1:=by simp
  rw [hwc] at hb1
  have hs1:=hb1.size
  rw [hwc] at hs1
  have hF1:w1.heap[w.heap.size]?=some (.cells #[.string s,.int .i64 h.key,.int .i64 N,.int .i64 M,.slice aa na ca,.slice ab nb cb,.int .i64 h.p.1] 133 (0,0)):=(hb1.block _ (by omega)).trans (heap_alloc_new _ _)
  have hc0:w1.cell? ⟨w.heap.size,0,none⟩=some (.string s):=(zaa hF1).trans rfl
  have hc2:w1.cell? ⟨w.heap.size,2,none⟩=some (.int .i64 N):=(zaa hF1).trans rfl
  have hc3:w1.cell? ⟨w.heap.size,3,none⟩=some (.int .i64 M):=(zaa hF1).trans rfl
  have hc5:w1.cell? ⟨w.heap.size,5,none⟩=some (.slice ab nb cb):=(zaa hF1).trans rfl
  have HB1:Hid (Below w.heap.size w w1):=((Below.refl _ _).alloc (Nat.le_refl _) _).trans (hb1.mono (by omega))
  clear hF1 hb1 hwc
  go_wp2_with fail
  go_loop [9,10] (fun x i=>∃ (j:Nat),j<=(M - 1).toNat/\i=.int .i64 ((j:Int)+1)/\x=.int .i64 (zcl N j)) (fun _ i=>10 - (intOf i).toNat)
  case atStart=>exact ⟨0,by omega,rfl,rfl⟩
  case round=>
   obtain ⟨j,hj,rfl,rfl⟩:=hrel
   have htj:=zd1 N hn0 hn9 j (by omega)
   by_cases hlt:j<(M - 1).toNat
   .have hlt':(j:Int)+1<M:=by omega
    go_wp2_with fail
    go_round
    case rel=>exact ⟨j+1,by omega,by go_num,by rw [zcl]⟩
    case measure=>simp [intOf];omega
   .have hlt':¬ (j:Int)+1<M:=by omega
    obtain rfl:j=(M - 1).toNat:=by omega
    obtain ⟨T,hT⟩:∃ T,T=zcl N (M - 1).toNat:=⟨_,rfl⟩
    rw [<- hT] at htj ht HR
    rw [<- hT]
    clear hT hlt hj
    go_wp2_with fail
    refine (ih _ B X _ ?_ HOB.out zb hd).mono ?_
    .exact TreeAt.keep (fun k hk=>HB1.out.block k (HXX.out k hk)) d _ _ HTB.out
    rw [<- HB.out]
    rintro e w2 ⟨rfl,hb2⟩
    have HB2:Hid (Below w.heap.size w w2):=HB1.out.trans (hb2.mono (by omega))
    clear hb2
    go_wp2_with (first|(go_at_call 57;refine (zgb _ _ _ (by omega) (by omega)).mono ?_;rintro e w' ⟨rfl,rfl⟩)|(go_at_call 27;refine (zdK _ _ _).mono ?_;rintro e w' ⟨rfl,rfl⟩))
    go_ret2
    exact ⟨zdA (by rw [HR.out]) (by rw [HR.out]),HB2.out⟩
theorem zmE {t:ByteArray}{w:World}{X:Nat->Prop}:∀ (d:Nat) (v:Value) (l:Tree d),TreeAt t w X d v l->TreeAt t w (fun k=>X k/\k<w.heap.size) d v l:=by
 intro d
 induction d with
 | zero=>intro v l hl;exact hl
 | succ d ih=>
  intro v l hl
  obtain ⟨xs,h1,h2,h3,h4,h5⟩:=hl
  exact ⟨xs,h1,h2,fun k hk=>⟨h3 k hk,by obtain ⟨c,hc⟩:=zad h2 hk;exact zae hc⟩,fun x hx=>⟨ih _ _ (h4 x hx).1,ih _ _ (h4 x hx).2⟩,h5⟩
theorem zj0 (a:Option Addr)(cap:Nat)(w:World):
  Calls Tryz.prog 26 #[.slice a 0 cap] w fun e w'=>e=.returned (.tuple #[.int .i64 0,.int .i64 (-1)])/\w'=w:=by
 go_enter Tryz.func26,Tryz.ntmps26
 go_wp2_with fail
 go_loop [4,5,6] (fun x y i=>x=.int .i64 0/\y=.int .i64 (-1)/\i=.int .i64 0) (fun _ _ _=>0)
 case atStart=>exact ⟨rfl,rfl,rfl⟩
 case round=>
  obtain ⟨rfl,rfl,rfl⟩:=hrel
  go_wp2_with fail
  go_ret2
  exact ⟨rfl,rfl⟩
theorem zlK (t:ByteArray)(d:Nat)(hd1:d+1<=5)(ih:zmL t d)(v:Value)(tr:Tree (d+1))(X0:Nat->Prop)(w:World)(htr0:TreeAt t w X0 (d+1) v tr)(hok:OkT t (d+1) tr)(hsz:zaQ (d+1) tr<=400):
  Calls Tryz.prog 26 #[v] w fun e w'=>e=.returned (.tuple #[.int .i64 (zay t (d+1) tr).1,.int .i64 (zay t (d+1) tr).2])/\Below w.heap.size w w':=by
 have htr:=zmE (d+1) v tr htr0
 obtain ⟨X,hXd⟩:∃ X:Nat->Prop,X=fun k=>X0 k/\k<w.heap.size:=⟨_,rfl⟩
 rw [<- hXd] at htr
 have HX:Hid (∀ k,X k->k<w.heap.size):=by rw [hXd];exact fun k hk=>hk.2
 obtain ⟨xs,a,cap,g,hl,hv,ha,hcells,hsubs⟩:=htr.open
 subst hv
 have e2:zaQ (d+1) tr=(tr.list.map fun x:Hd×Tree d×Tree d=>1+zaQ d x.2.1+zaQ d x.2.2).sum:=rfl
 have e3:tr.list=xs.map Prod.fst:=hl
 have hlen:xs.length<=400:=by
  have:=zfL (fun x:Hd×Tree d×Tree d=>1+zaQ d x.2.1+zaQ d x.2.2) (fun x=>by omega) tr.list
  have e:tr.list.length=xs.length:=by rw [e3];exact List.length_map ..
  omega
 have HOK:Hid (∀ (i:Nat) (hi:i<xs.length),OkT t d xs[i].1.2.1/\OkT t d xs[i].1.2.2/\(zaf t xs[i].1.1.p=zax->1<=xs[i].1.1.n/\xs[i].1.1.n<=9)/\zaQ d xs[i].1.2.1<=400/\zaQ d xs[i].1.2.2<=400 /\
   0<=xs[i].1.1.n/\xs[i].1.1.n<=999/\0<=xs[i].1.1.m/\xs[i].1.1.m<=6):=by
  intro i hi
  have hm:xs[i].1∈tr.list:=by rw [hl];exact List.mem_map.2 ⟨xs[i],List.getElem_mem hi,rfl⟩
  have h1:=hok _ hm
  have h2:=zjW (fun x:Hd×Tree d×Tree d=>1+zaQ d x.2.1+zaQ d x.2.2) tr.list _ hm
  exact ⟨h1.2.2.2.2.2.1,h1.2.2.2.2.2.2,h1.2.2.2.2.1,by omega,by omega,h1.1,h1.2.1,h1.2.2.1,h1.2.2.2.1⟩
 obtain ⟨F,hFd⟩:∃ F:(Hd×Tree d×Tree d)×(Value×Value)->Int×Int,F=fun x=>zeC t x.1.1 (zay t d x.1.2.1) (zay t d x.1.2.2):=⟨_,rfl⟩
 have HT:Hid (zay t (d+1) tr=zdv (0,-1) (xs.map F)):=by
  show _=_
  rw [zay,hl,hFd]
  show zdv (0,-1) ((xs.map Prod.fst).map _)=_
  rw [List.map_map];rfl
 have HBD:Hid (∀ k,AtMost (zdv (0,-1) ((xs.take k).map F)) 10000000000000):=by
  intro k
  have hp:=zdD d
  have:=zeM (zm4 (d+1)) (by have:=zdD (d+1);omega) F (fun x=>1+zaQ d x.1.2.1+zaQ d x.1.2.2) (xs.take k) (0,-1) 0
   (fun x hx=>by
    have hx':=List.mem_of_mem_take hx
    have h:=hok x.1 (by rw [hl];exact List.mem_map.2 ⟨x,hx',rfl⟩)
    rw [zd7,hFd]
    exact zdO t x.1.1 _ _ _ _ _ hp (zbC t d _ h.2.2.2.2.2.1) (zbC t d _ h.2.2.2.2.2.2) h.1 h.2.1 h.2.2.2.1 h.2.2.2.2.1) ⟨by simp,by simp,by simp,by simp⟩ (by omega)
  rw [Int.zero_add] at this
  refine zcR this ?_ hd1
  have h1:=zhB (fun x:(Hd×Tree d×Tree d)×(Value×Value)=>1+zaQ d x.1.2.1+zaQ d x.1.2.2) xs k
  have h2:(xs.map fun x:(Hd×Tree d×Tree d)×(Value×Value)=>1+zaQ d x.1.2.1+zaQ d x.1.2.2).sum=zaQ (d+1) tr:=by
   rw [e2,e3,List.map_map];rfl
  omega
 have HFB:Hid (∀ (k:Nat) (hk:k<xs.length),AtMost (F xs[k]) 10000000000000):=by
  intro k hk
  obtain ⟨h1,h2,h3,h4,h5,h6,h7,h8,h9⟩:=HOK.out k hk
  have hm:xs[k].1∈tr.list:=by rw [hl];exact List.mem_map.2 ⟨xs[k],List.getElem_mem hk,rfl⟩
  have h2':=zjW (fun x:Hd×Tree d×Tree d=>1+zaQ d x.2.1+zaQ d x.2.2) tr.list _ hm
  have:=zdO t xs[k].1.1 _ _ _ _ _ (zdD d) (zbC t d _ h1) (zbC t d _ h2) h6 h7 h9 h3
  rw [<- zd7] at this
  rw [hFd]
  exact zcR this (by omega) hd1
 have HFE:Hid (∀ (k:Nat) (hk:k<xs.length),F xs[k]=zeC t xs[k].1.1 (zay t d xs[k].1.2.1) (zay t d xs[k].1.2.2)):=by intro k hk;rw [hFd]
 have HC:Hid (∀ (i:Nat) (hi:i<xs.length),w.cell? ⟨g,i*7,none⟩=some (.string (t.extract xs[i].1.1.p.1 xs[i].1.1.p.2))/\w.cell? ⟨g,i*7+1,none⟩=some (.int .i64 xs[i].1.1.key) /\
    w.cell? ⟨g,i*7+2,none⟩=some (.int .i64 xs[i].1.1.n)/\w.cell? ⟨g,i*7+3,none⟩=some (.int .i64 xs[i].1.1.m)/\w.cell? ⟨g,i*7+4,none⟩=some xs[i].2.1 /\
    w.cell? ⟨g,i*7+5,none⟩=some xs[i].2.2/\w.cell? ⟨g,i*7+6,none⟩=some (.int .i64 xs[i].1.1.p.1)):=hcells
 have HS:=zHd hsubs
 have HA:=zHd ha
 clear hl hok hsz hcells hsubs ha htr htr0 hXd hFd e2 e3
 go_enter Tryz.func26,Tryz.ntmps26
 go_wp2_with fail
 go_loopw [4,5,6] (fun x y i wr=>∃ k:Nat,k<=xs.length/\i=.int .i64 k/\x=.int .i64 (zdv (0,-1) ((xs.take k).map F)).1/\y=.int .i64 (zdv (0,-1) ((xs.take k).map F)).2/\Below w.heap.size w wr) (fun _ _ i _=>xs.length - (intOf i).toNat)
 case atStart=>exact ⟨0,Nat.zero_le _,rfl,rfl,rfl,Below.refl _ _⟩
 case round=>
  obtain ⟨k,hk,rfl,rfl,rfl,hbel⟩:=hrel
  by_cases hlt:k<xs.length
  .have ha:=HA.out (by omega)
   obtain ⟨c0,c1,c2,c3,c4,c5,c6⟩:=HC.out k hlt
   have hg:g<w.heap.size:=World.block_lt_of_cell? w _ c0
   obtain ⟨ta,tb⟩:=HS.out k hlt
   obtain ⟨o1,o2,o3,o4,o5,o6,o7,o8,o9⟩:=HOK.out k hlt
   obtain ⟨aa,na,ca,hva⟩:=ta.one
   obtain ⟨ab,nb,cb,hvb⟩:=tb.one
   rw [hva] at c4 ta
   rw [hvb] at c5 tb
   have keep:∀ (j:Nat) (u:Value),w.cell? ⟨g,j,none⟩=some u->wr.cell? ⟨g,j,none⟩=some u:=fun j u hj=>(hbel.cell (p:=⟨g,j,none⟩) hg).trans hj
   obtain ⟨h,hh⟩:∃ h,h=xs[k].1.1:=⟨_,rfl⟩
   rw [<- hh] at c0 c1 c2 c3 c6 o3 o6 o7 o8 o9
   obtain ⟨s,hs⟩:∃ s,s=t.extract h.p.1 h.p.2:=⟨_,rfl⟩
   rw [<- hs] at c0
   have d0:=keep _ _ c0
   have d1:=keep _ _ c1
   have d2:=keep _ _ c2
   have d3:=keep _ _ c3
   have d4:=keep _ _ c4
   have d5:=keep _ _ c5
   have d6:=keep _ _ c6
   have HH:Hid (h=xs[k].1.1/\s=t.extract h.p.1 h.p.2):=And.intro hh hs
   have HO:=@ih h (.slice aa na ca) (.slice ab nb cb) xs[k].1.2.1 xs[k].1.2.2 X wr
   have HO2:Hid (Calls Tryz.prog 56 #[.agg #[.string s,.int .i64 h.key,.int .i64 h.n,.int .i64 h.m,.slice aa na ca,.slice ab nb cb,.int .i64 h.p.1]] wr fun e w'=>
     e=.returned (.tuple #[.int .i64 (F xs[k]).1,.int .i64 (F xs[k]).2])/\Below wr.heap.size wr w'):=by
    have:=HO (TreeAt.keep (fun j hj=>hbel.block j (HX.out j hj)) d _ _ ta) (TreeAt.keep (fun j hj=>hbel.block j (HX.out j hj)) d _ _ tb) (fun j hj=>by have:=HX.out j hj;have:=hbel.size;omega) o1 o2 o4 o5 o6 o7 o8 o9 o3
    rw [HFE.out k hlt,<- hh,hs]
    exact this
   have b1:=HFB.out k hlt
   have b2:=HBD.out k
   obtain ⟨P,hP⟩:∃ P,P=zdv (0,-1) ((xs.take k).map F):=⟨_,rfl⟩
   obtain ⟨Q,hQ⟩:∃ Q,Q=F xs[k]:=⟨_,rfl⟩
   have HST:Hid (zdv (0,-1) ((xs.take (k+1)).map F)=(zat P.1 Q.1,zcy P.2 (zat P.1 Q.2))):=by
    show _=_
    rw [List.take_succ_eq_append_getElem hlt,List.map_append,List.map_singleton,zh1,hP,hQ]
   rw [<- hP] at b2
   rw [<- hP]
   rw [<- hQ] at b1 HO2
   obtain ⟨b11,b12,b13,b14⟩:=b1
   obtain ⟨b21,b22,b23,b24⟩:=b2
   have HB:=zHd hbel
   have hsz:=hbel.size
   clear HO keep c0 c1 c2 c3 c4 c5 c6 hh hs ta tb hva hvb hP hQ o1 o2 o3 o4 o5 o6 o7 o8 o9 hbel
   subst ha
   go_wp2_with fail
   refine (HO2.out).mono ?_
   rintro e w1 ⟨rfl,hb1⟩
   have HB1:Hid (Below w.heap.size w w1):=HB.out.trans (hb1.mono hsz)
   clear hb1
   go_wp2_with (first|(go_at_call 57;refine (zgb _ _ _ (by omega) (by omega)).mono ?_;rintro e w' ⟨rfl,rfl⟩)|(go_at_call 27;refine (zdK _ _ _).mono ?_;rintro e w' ⟨rfl,rfl⟩))
   go_roundw
   case rel=>exact ⟨k+1,by omega,by go_num,by rw [HST.out],by rw [HST.out],HB1.out⟩
   case measure=>simp [intOf];omega
  .have hE:xs.take k=xs:=List.take_of_length_le (by omega)
   rw [hE]
   clear hE
   go_wp2_with fail
   go_ret2
   exact ⟨zdA (by rw [HT.out]) (by rw [HT.out]),hbel⟩
theorem zmJ (t:ByteArray)(d:Nat):ziZ t d:=by
 induction d with
 | zero=>
  intro v tr X w htr _ _ _
  obtain ⟨a,cap,rfl⟩:=htr
  refine (zj0 a cap w).mono fun e w' h=>⟨h.1,?_⟩
  rw [h.2];exact Below.refl _ _
 | succ d ih=>
  intro v tr X w htr hok hsz hd
  exact zlK t d hd (zns t d (by omega) ih) v tr X w htr hok hsz
end Go.Proofs.YtmmmnghiegajmaaGreat
