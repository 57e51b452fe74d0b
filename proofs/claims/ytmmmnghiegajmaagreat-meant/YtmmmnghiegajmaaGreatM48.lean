import Derived.Test.YtmmmnghiegajmaaGreatM26
import Derived.Test.YtmmmnghiegajmaaGreatM37
import Derived.Test.YtmmmnghiegajmaaGreatM47
import Derived.Test.YtmmmnghiegajmaaGreatM27
set_option maxHeartbeats 2000000
namespace Go.Proofs.YtmmmnghiegajmaaGreat
open Go.RowKit Go.Proofs.Herald
theorem zmd (X:Nat->Prop)(O:Nat)(n:Int)(cv rv qv:Value)(cb rb qb:List (Value×List Value))(a:Option Addr)(nl cap:Nat)(xs:List Value)(w:World)(hn0:0<=n)(hn1:n<=900000000)(hnl:nl<=1000000)(hcb:cb.length<=10000000)
  (h:OwnAt w X O n cv rv qv cb rb qb) (hl:w.ownsRow 0 91 4 (.slice a nl cap) nl xs) (hlX:∀ b,(Value.slice a nl cap).ownBlock=some b->¬ X b):
  Calls Tryz.prog 20 #[.pointer (some ⟨O,0,none⟩),.slice a nl cap] w fun e w'=>e=.returned (.tuple #[]) /\
   ∃ cv' cb',cb'.length=cb.length+4/\OwnAt w' (zjs X w w' (.slice a nl cap) (.slice a nl cap)) O (n+1) cv' rv qv cb' rb qb/\Fr (fun k=>X k\/(Value.slice a nl cap).ownBlock=some k) w w':=by
 refine (zno O n cv rv qv cb a nl cap xs w hn0 hn1 hnl hcb h.blk h.cown hl).mono ?_
 rintro e w' ⟨rfl,v,v1,v2,v3,B1⟩
 obtain ⟨w0,hw0⟩:∃ W,W=w.setCell ⟨O,0,none⟩ (.int .i64 (n+1)):=⟨_,rfl⟩
 rw [<- hw0] at B1
 have hs0:w0.heap.size=w.heap.size:=by rw [hw0,zaq]
 have hs':=B1.fr.size
 have keep1:∀ {b:Nat} {cur:Array Value} {e:TypeId},w.heap[b]?=some (.cells cur e (0,0))->e≠28->e≠93->(Value.slice a nl cap).ownBlock≠some b->w'.heap[b]?=some (.cells cur e (0,0)):=fun {b cur e} hb h1 h2 h3=>by
  have hb0:w0.heap[b]?=some (.cells cur e (0,0)):=by rw [hw0,Below.heap_setCell _ _ _ _ (zac hb h.blk h1)];exact hb
  rw [B1.fr.block b (zae hb0) (fun hh=>?_)]
  .exact hb0
  .rcases hh with rfl|hh|hh
   .exact zac hb h.blk h1 rfl
   .obtain ⟨c,hc⟩:=zad h.cown hh;exact zac hb hc h2 rfl
   .exact h3 hh
 have inX:∀ {b:Nat},X b->∀ {o:Obj},w.heap[b]?=some o->zjs X w w' (.slice a nl cap) (.slice a nl cap) b:=fun {b} hb {o} ho=>⟨by have:=zae ho;omega,Or.inl hb⟩
 have oth:∀ {b:Nat} {cur:Array Value} {e:TypeId},w.heap[b]?=some (.cells cur e (0,0))->e≠91->(Value.slice a nl cap).ownBlock≠some b:=fun {b cur e} hb he hh=>by
  obtain ⟨c2,hc2⟩:=zad hl hh;exact zac hb hc2 he rfl
 refine ⟨rfl,v,cb++[(.slice a nl cap,[.int .i64 (-(n+1)),.int .i64 0,.int .i64 0,.int .i64 0]),(v1,[.int .i64 (-(n+1)),.int .i64 0,.int .i64 0,.int .i64 0]),(v2,[.int .i64 (-(n+1)),.int .i64 0,.int .i64 0,.int .i64 0]),(v3,[.int .i64 (-(n+1)),.int .i64 0,.int .i64 0,.int .i64 0])],?_,⟨B1.o,inX h.inO h.blk,B1.rown,?_,?_,?_,?_,?_,?_,?_,?_⟩,?_⟩
 .simp
 .exact zaj h.rown fun b hb=>by
   obtain ⟨c,hc⟩:=zad h.rown hb
   rw [keep1 hc (by decide) (by decide) (oth hc (by decide)),hc]
 .exact zaj h.qown fun b hb=>by
   obtain ⟨c,hc⟩:=zad h.qown hb
   rw [keep1 hc (by decide) (by decide) (oth hc (by decide)),hc]
 .intro b hb
  obtain ⟨c,hc⟩:=zad B1.rown hb
  refine ⟨zae hc,?_⟩
  rcases B1.rat b hb with h1|h1
  .exact Or.inl (h.cin b h1)
  .exact Or.inr (Or.inr (Or.inr (by omega)))
 .intro b hb
  obtain ⟨c,hc⟩:=zad h.rown hb
  exact inX (h.rin b hb) hc
 .intro b hb
  obtain ⟨c,hc⟩:=zad h.qown hb
  exact inX (h.qin b hb) hc
 .have new:∀ x nx,nx<=100000000->w'.ownsRow 0 91 4 x nx (zbv [.int .i64 (-(n+1)),.int .i64 0,.int .i64 0,.int .i64 0] nx)->(∀ b,x.ownBlock=some b->(Value.slice a nl cap).ownBlock=some b\/w0.heap.size<=b) ->
    BookOk w' (zjs X w w' (.slice a nl cap) (.slice a nl cap)) 91 4 (x,[.int .i64 (-(n+1)),.int .i64 0,.int .i64 0,.int .i64 0]):=fun x nx hnx hx hxb=>by
   refine ⟨⟨[-(n+1),0,0,0],rfl,rfl⟩,nx,hnx,hx,fun g hg=>?_⟩
   obtain ⟨c,hc⟩:=zad hx hg
   refine ⟨zae hc,?_⟩
   rcases hxb g hg with h1|h1
   .exact Or.inr (Or.inl h1)
   .exact Or.inr (Or.inr (Or.inr (by omega)))
  intro b hb
  rw [List.mem_append] at hb
  rcases hb with hb|hb
  .obtain ⟨h1,m,hm,h2,h3⟩:=h.cbk b hb
   refine ⟨h1,m,hm,zaj h2 fun g hg=>?_,fun g hg=>?_⟩
   .obtain ⟨c,hc⟩:=zad h2 hg
    rw [keep1 hc (by decide) (by decide) (fun e=>hlX g e (h3 g hg)),hc]
   .obtain ⟨c,hc⟩:=zad h2 hg
    exact inX (h3 g hg) hc
  .simp only [List.mem_cons,List.not_mem_nil,or_false] at hb
   rcases hb with rfl|rfl|rfl|rfl
   .exact new _ nl (by omega) B1.lown (fun b hb=>Or.inl hb)
   .obtain ⟨k1,_,k3⟩:=B1.kins (v1,nl+1) (by simp)
    exact new _ _ (by omega) k1 k3
   .obtain ⟨k1,_,k3⟩:=B1.kins (v2,nl+2) (by simp)
    exact new _ _ (by omega) k1 k3
   .obtain ⟨k1,_,k3⟩:=B1.kins (v3,nl+3) (by simp)
    exact new _ _ (by omega) k1 k3
 .intro b hb
  obtain ⟨h1,m,hm,h2,h3⟩:=h.rbk b hb
  refine ⟨h1,m,hm,zaj h2 fun g hg=>?_,fun g hg=>?_⟩
  .obtain ⟨c,hc⟩:=zad h2 hg
   rw [keep1 hc (by decide) (by decide) (oth hc (by decide)),hc]
  .obtain ⟨c,hc⟩:=zad h2 hg
   exact inX (h3 g hg) hc
 .intro b hb
  obtain ⟨h1,m,hm,h2,h3⟩:=h.qbk b hb
  refine ⟨h1,m,hm,zaj h2 fun g hg=>?_,fun g hg=>?_⟩
  .obtain ⟨c,hc⟩:=zad h2 hg
   rw [keep1 hc (by decide) (by decide) (oth hc (by decide)),hc]
  .obtain ⟨c,hc⟩:=zad h2 hg
   exact inX (h3 g hg) hc
 .have f0:Fr (fun k=>X k\/(Value.slice a nl cap).ownBlock=some k) w w0:=by
   rw [hw0]
   exact (Fr.refl _ w).setCell ⟨O,0,none⟩ (Or.inl (Or.inl h.inO)) _
  have f1:Fr (fun k=>X k\/(Value.slice a nl cap).ownBlock=some k) w0 w':=B1.fr.mono fun k _ hk=>by
   rcases hk with rfl|hk|hk
   .exact Or.inl h.inO
   .exact Or.inl (h.cin k hk)
   .exact Or.inr hk
  exact f0.trans f1
theorem zlW (a:Option Addr)(b off cap:Nat)(cs:List Ins)(w:World)(hc:CodeIn w a b off cs)(hn:cs.length<=1000):
  Calls Tryz.prog 19 #[.slice a cs.length cap] w fun e w'=>∃ S,w.heap.size<=S/\e=.returned (.slice (some ⟨S,0,none⟩) cs.length cs.length)/\w'.heap[S]?=some (.cells (zai cs).toArray 91 (0,0))/\Below w.heap.size w w':=by
 obtain ⟨i0,hi,hz0,hz1,hz2⟩:=info_parts Tryz.infoInstr
 have HC:=zHd hc
 clear hc
 go_enter Tryz.func19,Tryz.ntmps19
 go_wp2_with (at_make;refine wpList_make_full _ rfl _ _ 29 rfl w.heap.size 91 i0 _ 4 Tryz.underlying29 hi hz0 hz1 _ _ _ _ cs.length rfl rfl (by go_num) (by go_num) (by rw [hz2];omega) (by unfold maxLen;omega) (Nat.le_refl _) ?_)
 intro w1 hown1 hgrow1
 obtain ⟨Z,hZ⟩:∃ Z:List Value,Z=(madeCells #[.int .i64 0,.int .i64 0,.int .i64 0,.int .i64 0] (cs.length*4)).toList:=⟨_,rfl⟩
 rw [<- hZ] at hown1
 have HZL:Hid (Z.length=cs.length*4):=hown1.1
 have HG1:Hid (w1.heap[w.heap.size]?=some (.cells Z.toArray 91 (0,0))):=by
  show _=_
  rcases hown1.2 with ⟨h,_⟩|⟨g,c,cur,hv,hb,hg,h1,h2,h3,h4⟩
  .cases h
  .simp at hv
   obtain ⟨rfl,rfl⟩:=hv
   rw [hg]
   have:cur.toList=Z:=by rw [<- h4];exact (List.take_of_length_le (by simp;omega)).symm
   rw [<- this]
 have HB1:Hid (Below w.heap.size w w1):=(Below.refl _ _).grown hgrow1 (Nat.le_refl _) (fun k hk=>by cases hk)
 clear hown1 hgrow1 hZ
 have HSRC:Hid (0<cs.length->∃ ad,a=some ad/\∀ j v,(zai cs)[j]?=some v->w1.cell? (ad.add j)=some v):=fun hp=>by
  obtain ⟨rfl,hlt,hca⟩:=HC.out hp
  refine ⟨_,rfl,fun j v hj=>?_⟩
  have hjl:j<cs.length*4:=by have:=(List.getElem?_eq_some_iff.mp hj).1;rwa [zaF] at this
  have e:j=j / 4*4+j % 4:=by omega
  have hi4:j / 4<cs.length:=by omega
  have h2:=(hca.keep (HB1.out.block b hlt)) (j / 4) hi4 (j % 4) v (by rw [<- zbS cs (j / 4) hi4 (j % 4) (by omega),<- e];exact hj)
  rw [Addr.add_lit]
  rw [show off+j=off+j / 4*4+j % 4 from by omega]
  exact h2
 have HONE:Hid (∀ v∈zai cs,v.oneCell'=true):=zb8 cs
 go_wp2_with (refine zez rfl (.tmp 7) (.tmp 8) 29 29 rfl 91 Tryz.underlying29 4 (by rw [hi];exact congrArg some hz1) w.heap.size cs.length cs.length rfl a cs.length cap rfl Z 91 HG1.out (zai cs) (by omega) (zaF cs) HSRC.out (by rw [zaF,HZL.out];omega) HONE.out ?_)
 intro w2 hg2 hgrow2
 have HG2:Hid (w2.heap[w.heap.size]?=some (.cells (zai cs).toArray 91 (0,0))):=by
  show _=_
  rw [hg2,List.drop_of_length_le (by rw [zaF,HZL.out];omega),List.append_nil]
 have HB2:Hid (Below w.heap.size w w2):=HB1.out.grown hgrow2 HB1.out.size (fun k hk=>by cases hk;exact Nat.le_refl _)
 clear hg2 hgrow2 HSRC HONE HG1
 go_wp2_with fail
 go_ret
 exact ⟨_,Nat.le_refl _,rfl,HG2.out,HB2.out⟩
open Go.RowKit Go.Proofs.Herald
theorem zmC (t:ByteArray):(∃ tr,TextOk t tr/\t.size<=400/\∀ w:World,Calls Tryz.prog 6 #[.string t] w fun e w'=>e=.returned (.tuple #[.int .i64 (zcy (zay t 5 tr).1 (zay t 5 tr).2),.int .i64 0,.int .i64 0])/\Below w.heap.size w w') \/
  (∃ m f p:Int,f≠0/\(∀ w:World,Calls Tryz.prog 17 #[.string t] w fun e w'=>e=.returned (.tuple #[.slice none 0 0,.int .i64 f,.int .i64 p])/\Below w.heap.size w w') /\
   ∀ w:World,Calls Tryz.prog 6 #[.string t] w fun e w'=>e=.returned (.tuple #[.int .i64 m,.int .i64 f,.int .i64 p])/\Below w.heap.size w w'):=by
 rcases Nat.lt_or_ge 400 t.size with ht|ht
 .refine Or.inr ⟨0,1,0,by decide,fun w=>zgt t 1 0 (by decide) w fun w=>(zj5 t ht w).mono fun e w' h=>?_,fun w=>(zhq t ht w).mono fun e w' h=>⟨h.1,?_⟩⟩
  .obtain ⟨⟨a,n,cap,he⟩,hb⟩:=h
   exact ⟨⟨a,n,cap,0,he⟩,hb⟩
  .rw [h.2];exact Below.refl _ _
 .obtain ⟨r,h1,h2,h3⟩:=zoi t ht
  rcases h3 with ⟨tr,h4,rfl⟩|h4
  .exact Or.inl ⟨tr,h4,ht,fun w=>zie t ht _ h1 w⟩
  .refine Or.inr ⟨r.1,r.2.1,r.2.2,h4,fun w=>zgt t r.2.1 r.2.2 h4 w fun w=>(zqm t ht r h2 w).mono fun e w' h=>?_,fun w=>zie t ht r h1 w⟩
   obtain ⟨⟨a,n,cap,he⟩,hb⟩:=h
   exact ⟨⟨a,n,cap,r.1,he⟩,hb⟩
theorem zmn {w:World}{B:Nat}{a:Option Addr}{n cap:Nat}{cs:List Ins}(h:w.ownsRow B 91 4 (.slice a n cap) n (zai cs))(hn:n=cs.length):∃ b,CodeIn w a b 0 cs:=by
 rcases h.2 with ⟨h1,h2⟩|⟨g,c,cur,hv,hb,hg,h1,h2,h3,h4⟩
 .refine ⟨0,fun hp=>?_⟩
  omega
 .simp at hv
  obtain ⟨rfl,rfl⟩:=hv
  refine ⟨g,fun _=>⟨rfl,zae hg,fun i hi j u hj=>?_⟩⟩
  have hj4:j<4:=by have:=(List.getElem?_eq_some_iff.mp hj).1;simpa [za1] using this
  have h5:=h.cells (g:=g) rfl (i*4+j) u (by rw [zbS cs i hi j hj4];exact hj)
  rw [Addr.add_lit] at h5
  rw [show 0+i*4+j=0+(i*4+j) from by omega]
  exact h5
structure CompOut (X:Nat->Prop)(O:Nat)(n:Int)(rv qv:Value)(cb rb qb:List (Value×List Value))(C:List Ins)(w w':World)(S:Nat)(X':Nat->Prop)(cv':Value)(cb':List (Value×List Value)):Prop where
 s:w.heap.size<=S
 code:w'.heap[S]?=some (.cells (zai C).toArray 91 (0,0))
 nx:¬ X' S
 own:OwnAt w' X' O (n+1) cv' rv qv cb' rb qb
 len:cb'.length=cb.length+4
 lt:∀ k,X' k->k<w'.heap.size/\(X k\/w.heap.size<=k)
 fr:Fr X w w'
theorem zke (t:ByteArray)(ht:t.size<=400)(tr:Tree 5)(hT:TextOk t tr)(M:Int)(hL:∀ w:World,Calls Tryz.prog 6 #[.string t] w fun e w'=>e=.returned (.tuple #[.int .i64 M,.int .i64 0,.int .i64 0])/\Below w.heap.size w w')
  (X:Nat->Prop) (O:Nat) (n:Int) (cv rv qv:Value) (cb rb qb:List (Value×List Value)) (w:World) (hn0:0<=n) (hn1:n<=900000000) (hcb:cb.length<=10000000) (h:OwnAt w X O n cv rv qv cb rb qb) (hX:∀ k,X k->k<w.heap.size):
  Calls Tryz.prog 5 #[.string t,.pointer (some ⟨O,0,none⟩)] w fun e w'=>∃ S X' cv' cb',e=.returned (.tuple #[.slice (some ⟨S,0,none⟩) (zbj t tr).length (zbj t tr).length,.bool true])/\CompOut X O n rv qv cb rb qb (zbj t tr) w w' S X' cv' cb':=by
 have HL:=zHd hL
 have HO:Hid (OwnAt w X O n cv rv qv cb rb qb/\∀ k,X k->k<w.heap.size):=⟨h,hX⟩
 have HC:=zi4 t ht tr hT w
 have hcl:(zbj t tr).length<=1000:=Nat.le_trans (hT.len ht) (by omega)
 have hso:=hT.sound ht
 obtain ⟨C,hC⟩:∃ C,C=zbj t tr:=⟨_,rfl⟩
 rw [<- hC] at HC hcl hso ⊢
 have HC':Hid (Calls Tryz.prog 17 #[.string t] w fun e w'=>∃ sv,e=.returned (.tuple #[sv,.int .i64 0,.int .i64 0])/\w'.ownsRow w.heap.size 91 4 sv C.length (zai C)/\Below w.heap.size w w'):=HC
 have HSO:=zHd hso
 clear HC hL h hX hC hso hT
 go_enter Tryz.func5,Tryz.ntmps5
 go_wp2_with fail
 refine HC'.out.mono ?_
 rintro e w1 ⟨sv,rfl,ho1,hb1⟩
 obtain ⟨a,cap,rfl⟩:=zag ho1
 have H1:Hid (w1.ownsRow w.heap.size 91 4 (.slice a C.length cap) C.length (zai C)/\Below w.heap.size w w1):=⟨ho1,hb1⟩
 clear ho1 hb1 HC'
 go_wp2_with fail
 refine (HL.out _).mono ?_
 rintro e w2 ⟨rfl,hb2⟩
 have H2:Hid (w2.ownsRow w.heap.size 91 4 (.slice a C.length cap) C.length (zai C)/\Below w.heap.size w w2):=by
  refine ⟨zaJ H1.out.1 fun k hk=>?_,H1.out.2.trans (hb2.mono H1.out.2.size)⟩
  obtain ⟨c,hc⟩:=zad (zct H1.out.1) hk
  exact hb2.block k (zae hc)
 clear hb2 H1 HL
 obtain ⟨b2,hc2⟩:=zmn H2.out.1 rfl
 have HC2:=zHd hc2
 clear hc2
 go_wp2_with fail
 refine (zgZ a b2 0 cap C w2 HC2.out).mono ?_
 rw [HSO.out]
 rintro e w3 ⟨rfl,hb3⟩
 have H3:Hid (w3.ownsRow w.heap.size 91 4 (.slice a C.length cap) C.length (zai C)/\Below w.heap.size w w3/\CodeIn w3 a b2 0 C):=by
  refine ⟨zaJ H2.out.1 fun k hk=>?_,H2.out.2.trans (hb3.mono H2.out.2.size),HC2.out.keep hb3⟩
  obtain ⟨c,hc⟩:=zad (zct H2.out.1) hk
  exact hb3.block k (zae hc)
 clear hb3 H2 HC2
 go_wp2_with fail
 refine (zlW a b2 0 cap C w3 H3.out.2.2 hcl).mono ?_
 rintro e w4 ⟨S,hS,rfl,hg4,hb4⟩
 have H4:Hid (w4.ownsRow w.heap.size 91 4 (.slice a C.length cap) C.length (zai C)/\Below w.heap.size w w4/\w4.heap[S]?=some (.cells (zai C).toArray 91 (0,0))/\∀ b,(Value.slice a C.length cap).ownBlock=some b->w.heap.size<=b/\b<S):=by
  refine ⟨zaJ H3.out.1 fun k hk=>?_,H3.out.2.1.trans (hb4.mono H3.out.2.1.size),hg4,fun b hb=>?_⟩
  .obtain ⟨c,hc⟩:=zad (zct H3.out.1) hk
   exact hb4.block k (zae hc)
  .obtain ⟨h1,c,hc⟩:=zao H3.out.1 hb
   have:=zae hc
   exact ⟨h1,by omega⟩
 have hSs:w.heap.size<=S:=Nat.le_trans H3.out.2.1.size hS
 clear hg4 hb4 H3 hS
 go_wp2_with fail
 have HOW:OwnAt w4 X O n cv rv qv cb rb qb:=HO.out.1.keep fun j hj=>H4.out.2.1.block j (HO.out.2 j hj)
 refine (zmd X O n cv rv qv cb rb qb a C.length cap (zai C) w4 hn0 hn1 (by omega) hcb HOW (zct H4.out.1) (fun b hb hx=>by have:=(H4.out.2.2.2 b hb).1;have:=HO.out.2 b hx;omega)).mono ?_
 rintro e w5 ⟨rfl,cv',cb',hl5,ho5,hf5⟩
 have HE:Hid (CompOut X O n rv qv cb rb qb C w w5 S (zjs X w4 w5 (.slice a C.length cap) (.slice a C.length cap)) cv' cb'):=by
  have hS4:=zae H4.out.2.2.1
  have hw4:=H4.out.2.1.size
  refine ⟨hSs,?_,?_,ho5,hl5,?_,?_⟩
  .rw [hf5.block S hS4 (fun hh=>?_)]
   .exact H4.out.2.2.1
   .rcases hh with hh|hh
    .have:=HO.out.2 S hh;omega
    .have:=(H4.out.2.2.2 S hh).2;omega
  .rintro ⟨_,hh|hh|hh|hh⟩
   .have:=HO.out.2 S hh;omega
   .have:=(H4.out.2.2.2 S hh).2;omega
   .have:=(H4.out.2.2.2 S hh).2;omega
   .omega
  .rintro k ⟨h1,hh|hh|hh|hh⟩
   .exact ⟨h1,Or.inl hh⟩
   .exact ⟨h1,Or.inr (H4.out.2.2.2 k hh).1⟩
   .exact ⟨h1,Or.inr (H4.out.2.2.2 k hh).1⟩
   .exact ⟨h1,Or.inr (by omega)⟩
  .refine Fr.wide ((Fr.of_below H4.out.2.1).mono fun k hk hs=>?_) (hf5.mono fun k _ hs=>?_)
   .omega
   .rcases hs with hs|hs
    .exact Or.inl hs
    .exact Or.inr (H4.out.2.2.2 k hs).1
 clear ho5 hl5 hf5 HOW H4 HO
 go_wp2_with fail
 go_ret2
 exact ⟨S,_,cv',cb',rfl,HE.out⟩
theorem zkd (t:ByteArray)(m f p:Int)(hf:f≠0)(hC:∀ w:World,Calls Tryz.prog 17 #[.string t] w fun e w'=>e=.returned (.tuple #[.slice none 0 0,.int .i64 f,.int .i64 p])/\Below w.heap.size w w')
  (hL:∀ w:World,Calls Tryz.prog 6 #[.string t] w fun e w'=>e=.returned (.tuple #[.int .i64 m,.int .i64 f,.int .i64 p])/\Below w.heap.size w w') (O:Nat) (w:World):
  Calls Tryz.prog 5 #[.string t,.pointer (some ⟨O,0,none⟩)] w fun e w'=>e=.returned (.tuple #[.slice none 0 0,.bool true])/\Below w.heap.size w w':=by
 have HL:=zHd hL
 have HC:=zHd hC
 have b1:(f != 0)=true:=by simpa using hf
 clear hL hC hf
 go_enter Tryz.func5,Tryz.ntmps5
 go_wp2_with fail
 refine (HC.out _).mono ?_
 rintro e w1 ⟨rfl,hb1⟩
 go_wp2_with fail
 refine (HL.out _).mono ?_
 rintro e w2 ⟨rfl,hb2⟩
 have HB:Hid (Below w.heap.size w w2):=hb1.trans (hb2.mono hb1.size)
 clear hb1 hb2
 go_wp2_with fail
 go_ret2
 exact ⟨rfl,HB.out⟩
theorem zhH {w:World}{S:Nat}{C:List Ins}(h:w.heap[S]?=some (.cells (zai C).toArray 91 (0,0))):CodeIn w (some ⟨S,0,none⟩) S 0 C:=fun _=>
 ⟨rfl,zae h,zcI (rest:=[]) (by rw [List.append_nil];exact h)⟩
theorem zpX (w:World)(O:Nat)(h:w.heap[O]?=some (.cells #[.int .i64 0,.slice none 0 0,.slice none 0 0,.slice none 0 0] 28 (0,0))):OwnAt w (fun k=>k=O) O 0 (.slice none 0 0) (.slice none 0 0) (.slice none 0 0) [] [] []:=
 ⟨h,rfl,World.ownsRow_nil _ _ _ _,World.ownsRow_nil _ _ _ _,World.ownsRow_nil _ _ _ _,fun b hb=>(by cases hb),fun b hb=>(by cases hb),fun b hb=>(by cases hb),fun b hb=>absurd hb (by simp),fun b hb=>absurd hb (by simp),fun b hb=>absurd hb (by simp)⟩
end Go.Proofs.YtmmmnghiegajmaaGreat
