import Derived.Test.YtmmmnghiegajmaaGreatM07
import Derived.Test.YtmmmnghiegajmaaGreatM08
import Derived.Test.YtmmmnghiegajmaaGreatM04
import Derived.OwnWalk
set_option maxHeartbeats 4000000
namespace Go.Proofs.YtmmmnghiegajmaaGreat
open Go.RowKit Go.Proofs.Herald
structure BlockInv (t:ByteArray)(d:Nat)(ws:List (Nat×Nat))(tr:Tree (d+1))(w wr:World)(k:Nat)(v:Value)(xs:List ((Hd×Tree d×Tree d)×(Value×Value)))(rem:List (Hd×Tree d×Tree d))(X:Nat->Prop):Prop where
 le:k<=ws.length
 split:tr=xs.map Prod.fst++rem
 spelt:GL t (GT t d) (zcn d) (ws.drop k) rem
 own:wr.ownsRow 0 133 7 v xs.length (zbt t xs)
 new:∀ b,v.ownBlock=some b->w.heap.size<=b/\¬ X b
 low:∀ b,X b->w.heap.size<=b/\b<wr.heap.size
 subs:∀ x∈xs,TreeAt t wr X d x.2.1 x.1.2.1/\TreeAt t wr X d x.2.2 x.1.2.2
 one:∀ x∈xs,x.2.1.oneCell'=true/\x.2.2.oneCell'=true
 few:xs.length<=k
 bel:Below w.heap.size w wr
theorem za3 {t:ByteArray}{w:World}{b off k:Nat}{ws u:List (Nat×Nat)}(h:WordsAt t w b off ws)(hu:ws.drop k=u)(j:Nat)(p:Nat×Nat)(hj:u[j]?=some p):
  w.cell? ⟨b,off+(k+j)*2,none⟩=some (.string (t.extract p.1 p.2))/\w.cell? ⟨b,off+(k+j)*2+1,none⟩=some (.int .i64 p.1):=by
 subst hu
 rw [List.getElem?_drop] at hj
 obtain ⟨hlt,rfl⟩:=List.getElem?_eq_some_iff.1 hj
 exact h (k+j) hlt
theorem zef {t:ByteArray}{w:World}{b off k:Nat}{ws u:List (Nat×Nat)}{K:List UInt8}(h:WordsAt t w b off ws)(hu:ws.drop k=u)(hk:k<=ws.length)(hn:zdE t u K):
  k=ws.length\/(k<ws.length/\∃ s:ByteArray,w.cell? ⟨b,off+k*2,none⟩=some (.string s)/\(s.toList==K)=false):=by
 cases u with
 | nil=>left;have:=congrArg List.length hu;simp at this;omega
 | cons p r=>
  right
  have hl:k<ws.length:=by have:=congrArg List.length hu;simp at this;omega
  have:=(za3 h hu 0 p (by simp)).1
  simp only [Nat.add_zero] at this
  exact ⟨hl,_,this,zas (hn p rfl)⟩
theorem BlockInv.push {t:ByteArray}{d:Nat}{ws:List (Nat×Nat)}{tr:Tree (d+1)}{w wr W w1:World}{k k':Nat}{v:Value}{xs:List ((Hd×Tree d×Tree d)×(Value×Value))}{x:Hd×Tree d×Tree d}{rem:List (Hd×Tree d×Tree d)}{X Y:Nat->Prop}{g cap2:Nat}{va vb:Value}
  (HI:BlockInv t d ws tr w wr k v xs (x::rem) X) (hW:Below wr.heap.size wr W)
  (hown1:w1.ownsRow 0 133 7 (.slice (some ⟨g,0,none⟩) (xs.length+1) cap2) (xs.length+1) (zbt t xs++zbw t x.1 (va,vb)))
  (hgrow:W.grownBy w1 v.ownBlock) (hat:v.ownBlock=some g\/g=W.heap.size)
  (ta:TreeAt t W Y d va x.2.1) (tb:TreeAt t W Y d vb x.2.2) (hY:∀ b,Y b->wr.heap.size<=b/\b<W.heap.size) (o1:va.oneCell'=true) (o2:vb.oneCell'=true)
  (hk:k<k') (hk':k'<=ws.length) (hrest:GL t (GT t d) (zcn d) (ws.drop k') rem):
  BlockInv t d ws tr w w1 k' (.slice (some ⟨g,0,none⟩) (xs.length+1) cap2) (xs++[(x,(va,vb))]) rem (fun b=>X b\/Y b):=by
 have hs1:=hW.size
 have hs2:=hgrow.size
 have hs0:=HI.bel.size
 have hvl:∀ j,v.ownBlock=some j->j<wr.heap.size:=fun j hj=>by obtain ⟨c,hc⟩:=zad HI.own hj;exact zae hc
 refine ⟨hk',?_,hrest,?_,?_,?_,?_,?_,?_,?_⟩
 .rw [HI.split,List.map_append,List.append_assoc];rfl
 .rw [zhf];simpa using hown1
 .intro j hj
  simp [Value.ownBlock] at hj
  subst hj
  rcases hat with h|h
  .have h1:=HI.new g h
   have h2:=hvl g h
   exact ⟨h1.1,fun h3=>by rcases h3 with h3|h3;exact h1.2 h3;have:=hY g h3;omega⟩
  .exact ⟨by omega,fun h3=>by rcases h3 with h3|h3;have:=HI.low g h3;omega;have:=hY g h3;omega⟩
 .intro j hj
  rcases hj with hj|hj
  .have:=HI.low j hj;omega
  .have:=hY j hj;omega
 .intro y hy
  simp only [List.mem_append,List.mem_singleton] at hy
  rcases hy with hy|rfl
  .have keep:∀ j,X j->w1.heap[j]?=wr.heap[j]?:=fun j hj=>by
    have h1:=HI.low j hj
    rw [hgrow.block j (by omega) (fun e=>(HI.new j e.symm).2 hj),hW.block j (by omega)]
   have:=HI.subs y hy
   exact ⟨TreeAt.mono (fun j hj=>.inl hj) d _ _ (TreeAt.keep keep d _ _ this.1),TreeAt.mono (fun j hj=>.inl hj) d _ _ (TreeAt.keep keep d _ _ this.2)⟩
  .have keep:∀ j,Y j->w1.heap[j]?=W.heap[j]?:=fun j hj=>by
    have h1:=hY j hj
    exact hgrow.block j (by omega) (fun e=>by have:=hvl j e.symm;omega)
   exact ⟨TreeAt.mono (fun j hj=>.inr hj) d _ _ (TreeAt.keep keep d _ _ ta),TreeAt.mono (fun j hj=>.inr hj) d _ _ (TreeAt.keep keep d _ _ tb)⟩
 .intro y hy
  simp only [List.mem_append,List.mem_singleton] at hy
  rcases hy with hy|rfl
  .exact HI.one y hy
  .exact ⟨o1,o2⟩
 .simp;have:=HI.few;omega
 .exact (HI.bel.trans (hW.mono hs0)).grown hgrow (by omega) (fun j hj=>(HI.new j hj).1)
theorem zd0 {s:ByteArray}{a b c e:Int}{va vb:Value}(o1:va.oneCell'=true)(o2:vb.oneCell'=true):∀ u∈[Value.string s,.int .i64 a,.int .i64 b,.int .i64 c,va,vb,.int .i64 e],u.oneCell'=true:=by
 intro u hu
 simp at hu
 rcases hu with rfl|rfl|rfl|rfl|rfl|rfl|rfl <;> first|rfl|assumption
theorem TreeAt.bound {t:ByteArray}{w:World}{X:Nat->Prop}:∀ (d:Nat) (v:Value) (l:Tree d),TreeAt t w X d v l->TreeAt t w (fun k=>X k/\k<w.heap.size) d v l:=by
 intro d
 induction d with
 | zero=>intro v l hl;exact hl
 | succ d ih=>
  intro v l hl
  obtain ⟨xs,h1,h2,h3,h4,h5⟩:=hl
  exact ⟨xs,h1,h2,fun k hk=>⟨h3 k hk,by obtain ⟨c,hc⟩:=zad h2 hk;exact zae hc⟩,fun x hx=>⟨ih _ _ (h4 x hx).1,ih _ _ (h4 x hx).2⟩,h5⟩
theorem TreeAt.laid {t:ByteArray}{w2:World}{d:Nat}{v:Value}{l:Tree d}{B F j:Nat}{u:Value}(h:TreeAt t w2 (fun k=>B<=k) d v l)(hF:F<B):
  TreeAt t (w2.setCell ⟨F,j,none⟩ u) (fun k=>B<=k/\k<w2.heap.size) d v l:=
 TreeAt.keep (fun k hk=>Below.heap_setCell _ _ _ _ (by show k≠F;omega)) d v l (TreeAt.bound d v l h)
theorem TreeAt.alloc {t:ByteArray}{w:World}{d:Nat}{v:Value}{l:Tree d}{X:Nat->Prop}(o:Obj)(h:TreeAt t w X d v l)(hX:∀ k,X k->k<w.heap.size):TreeAt t (w.alloc o) X d v l:=
 TreeAt.keep (fun k hk=>Below.heap_alloc _ _ _ (hX k hk)) d v l h
def ziW (t:ByteArray)(d:Nat):Prop:=
 ∀ (ws:List (Nat×Nat)) (tr:Tree d) (a:Option Addr) (b off cap n:Nat) (w:World),n=ws.length->GT t d ws tr->ws.length<=400->ws.length<=cap->(0<ws.length->a=some ⟨b,off,none⟩/\b<w.heap.size/\WordsAt t w b off ws) ->
   Calls Tryz.prog 24 #[.slice a n cap] w fun e w'=>∃ aa na ca,e=.returned (.slice aa na ca)/\TreeAt t w' (fun k=>w.heap.size<=k) d (.slice aa na ca) tr/\Below w.heap.size w w'
set_option maxRecDepth 100000 in
theorem zlJ (t:ByteArray)(ht:t.size<=400)(d:Nat)
  (ih:ziW t d)
  (ws:List (Nat×Nat)) (tr:Tree (d+1)) (b off cap:Nat) (w:World) (hg:GT t (d+1) ws tr) (hlen:ws.length<=400) (hcap:ws.length<=cap) (hb:b<w.heap.size) (hws:WordsAt t w b off ws):
  Calls Tryz.prog 24 #[.slice (some ⟨b,off,none⟩) ws.length cap] w fun e w'=>∃ aa na ca,e=.returned (.slice aa na ca)/\TreeAt t w' (fun k=>w.heap.size<=k) (d+1) (.slice aa na ca) tr/\Below w.heap.size w w':=by
 go_enter Tryz.func24,Tryz.ntmps24
 go_wp2_with fail
 go_loopw [3,4] (fun v i wr=>∃ (k:Nat) (xs:List ((Hd×Tree d×Tree d)×(Value×Value))) (rem:List (Hd×Tree d×Tree d)) (X:Nat->Prop),i=.int .i64 k/\BlockInv t d ws tr w wr k v xs rem X)
  (fun _ i _=>ws.length - (intOf i).toNat)
 case atStart=>exact ⟨0,[],tr,fun _=>False,rfl,⟨Nat.zero_le _,rfl,hg,World.ownsRow_nil _ _ _ _,by simp [Value.ownBlock],by simp,by simp,by simp,by simp,Below.refl _ _⟩⟩
 case round=>
  obtain ⟨k,xs,rem,X,rfl,hinv⟩:=hrel
  by_cases hlt:k<ws.length
  .cases rem with
   | nil=>have:=hinv.spelt;rw [GL] at this;simp at this;omega
   | cons x rem=>
    have hsp:=hinv.spelt
    rw [GL] at hsp
    obtain ⟨wo,wb,wr2,f,hu,hh,hp,hrest,hblk⟩:=hsp
    have HI:=zHd hinv
    have hwr:WordsAt t wr b off ws:=hws.keep (hinv.bel.block b hb)
    have hsz:=hinv.bel.size
    have hown:=hinv.own
    have hfew:=hinv.few
    clear hinv
    rcases hh with ⟨p,q,rfl,rfl,hk,hx⟩|⟨p,q,rfl,rfl,hk,hx⟩|⟨p,rfl,rfl,hk,hx⟩|⟨p,q,r,rfl,rfl,hk,hx⟩|⟨p,q,r,z,rfl,rfl,hk,hx⟩|⟨p,q,rfl,rfl,hk,hx⟩
    .obtain ⟨rfl,hx1,hx2,hne⟩:wb=[]/\x.2.1=zcn d/\x.2.2=zcn d/\zdE t wr2 zbV:=by simpa using hblk
     simp only [List.nil_append,List.cons_append] at hu
     obtain ⟨c0,c0'⟩:=za3 hwr hu 0 p (by simp)
     simp only [Nat.add_zero] at c0 c0'
     obtain ⟨c1,_⟩:=za3 hwr hu 1 q (by simp)
     obtain ⟨sp,hsp⟩:∃ s,s=t.extract p.1 p.2:=⟨_,rfl⟩
     obtain ⟨sq,hsq⟩:∃ s,s=t.extract q.1 q.2:=⟨_,rfl⟩
     rw [<- hsp] at c0
     rw [<- hsq] at c1
     have hzp:sp.size<=400:=by rw [hsp];simp;omega
     have hzq:sq.size<=400:=by rw [hsq];simp;omega
     have y0:(sp.toList==[115,101,110,100])=true:=zaO (by rw [hsp];exact hk)
     have hll:=congrArg List.length hu
     simp at hll
     have hbr:b<wr.heap.size:=by omega
     have HX:Hid (∀ va vb:Value,zbw t x.1 (va,vb)=[.string sp,.int .i64 (zcx sq.data.toList),.int .i64 (0),.int .i64 (0),va,vb,.int .i64 p.1]):=fun va vb=>by rw [hx,hsp,hsq];rfl
     have hdr:ws.drop (k+2)=wr2:=by have:=congrArg (List.drop 2) hu;simpa [List.drop_drop] using this
     have hnx:k+2=ws.length\/(k+2<ws.length/\∃ s:ByteArray,wr.cell? ⟨b,off+(k+2)*2,none⟩=some (.string s)/\(s.toList==[123])=false):=zef hwr hdr (by omega) hne
     have HG:Hid (GL t (GT t d) (zcn d) (ws.drop (k+2)) rem):=by rw [hdr];exact hrest
     have HN:Hid (x.2.1=zcn d/\x.2.2=zcn d):=And.intro hx1 hx2
     clear hsp hsq hp hk hblk hx hws hwr hu hx1 hx2 hrest hdr hne hll
     rcases hnx with hnx|⟨hnx,sn,hcn,hsn⟩
     all_goals
      go_wp2_with fail
      go_region
      go_wp2_with (first|(go_at_call 54;refine (zem _ _).mono ?_;rintro e w' ⟨rfl,rfl⟩)|(go_at_call 52;refine (zdy _ _ (by unfold maxLen;omega)).mono ?_;rintro e w' ⟨rfl,rfl⟩)|(at_builtin;refine za7 _ rfl (.tmp 161) (.tmp 163) 56 rfl 133 _ 7 96 Tryz.underlying56 Tryz.infoStmt rfl (by decide) (by decide) u3 _ _ (wr.heap.size+1) [.string sp,.int .i64 (zcx sq.data.toList),.int .i64 (0),.int .i64 (0),.slice none 0 0,.slice none 0 0,.int .i64 p.1] (by rfl) (by exact (hown.alloc _).alloc _) (by exact zaw _ _ _) (by rfl) rfl (zd0 rfl rfl) (by omega) ?_))
      intro g cap2 w1 hown1 hgrow hat hlt1
      have HP:=HI.out.push (Y:=fun _=>False) (va:=.slice none 0 0) (vb:=.slice none 0 0) (k':=k+2) (by repeat (first|exact Below.refl _ _|refine Below.drew ?_|refine Below.alloc ?_ (by simp) _)) (by rw [HX.out];exact hown1) hgrow (by simpa using hat) (by rw [HN.out.1];exact TreeAt.nil _ _ _ _) (by rw [HN.out.2];exact TreeAt.nil _ _ _ _) (fun _ h=>h.elim) rfl rfl (by omega) (by omega) HG.out
      have HPH:=zHd HP
      clear HP hown1 hgrow hat
      go_wp2_with fail
      go_roundw
      case rel=>exact ⟨k+2,_,rem,_,by go_num,HPH.out⟩
      case measure=>simp [intOf];omega
    .obtain ⟨rfl,hx1,hx2,hne⟩:wb=[]/\x.2.1=zcn d/\x.2.2=zcn d/\zdE t wr2 zbV:=by simpa using hblk
     simp only [List.nil_append,List.cons_append] at hu
     obtain ⟨c0,c0'⟩:=za3 hwr hu 0 p (by simp)
     simp only [Nat.add_zero] at c0 c0'
     obtain ⟨c1,_⟩:=za3 hwr hu 1 q (by simp)
     obtain ⟨sp,hsp⟩:∃ s,s=t.extract p.1 p.2:=⟨_,rfl⟩
     obtain ⟨sq,hsq⟩:∃ s,s=t.extract q.1 q.2:=⟨_,rfl⟩
     rw [<- hsp] at c0
     rw [<- hsq] at c1
     have hzp:sp.size<=400:=by rw [hsp];simp;omega
     have hzq:sq.size<=400:=by rw [hsq];simp;omega
     have n0:(sp.toList==[115,101,110,100])=false:=zas (by rw [hsp];show ¬ zaf t p=_;rw [hk];decide)
     have y0:(sp.toList==[119,97,105,116])=true:=zaO (by rw [hsp];exact hk)
     have hll:=congrArg List.length hu
     simp at hll
     have hbr:b<wr.heap.size:=by omega
     have HX:Hid (∀ va vb:Value,zbw t x.1 (va,vb)=[.string sp,.int .i64 (0),.int .i64 (zbx sq.data.toList),.int .i64 (0),va,vb,.int .i64 p.1]):=fun va vb=>by rw [hx,hsp,hsq];rfl
     have hdr:ws.drop (k+2)=wr2:=by have:=congrArg (List.drop 2) hu;simpa [List.drop_drop] using this
     have hnx:k+2=ws.length\/(k+2<ws.length/\∃ s:ByteArray,wr.cell? ⟨b,off+(k+2)*2,none⟩=some (.string s)/\(s.toList==[123])=false):=zef hwr hdr (by omega) hne
     have HG:Hid (GL t (GT t d) (zcn d) (ws.drop (k+2)) rem):=by rw [hdr];exact hrest
     have HN:Hid (x.2.1=zcn d/\x.2.2=zcn d):=And.intro hx1 hx2
     clear hsp hsq hp hk hblk hx hws hwr hu hx1 hx2 hrest hdr hne hll
     rcases hnx with hnx|⟨hnx,sn,hcn,hsn⟩
     all_goals
      go_wp2_with fail
      go_region
      go_wp2_with (first|(go_at_call 54;refine (zem _ _).mono ?_;rintro e w' ⟨rfl,rfl⟩)|(go_at_call 52;refine (zdy _ _ (by unfold maxLen;omega)).mono ?_;rintro e w' ⟨rfl,rfl⟩)|(at_builtin;refine za7 _ rfl (.tmp 161) (.tmp 163) 56 rfl 133 _ 7 96 Tryz.underlying56 Tryz.infoStmt rfl (by decide) (by decide) u3 _ _ (wr.heap.size+1) [.string sp,.int .i64 (0),.int .i64 (zbx sq.data.toList),.int .i64 (0),.slice none 0 0,.slice none 0 0,.int .i64 p.1] (by rfl) (by exact (hown.alloc _).alloc _) (by exact zaw _ _ _) (by rfl) rfl (zd0 rfl rfl) (by omega) ?_))
      intro g cap2 w1 hown1 hgrow hat hlt1
      have HP:=HI.out.push (Y:=fun _=>False) (va:=.slice none 0 0) (vb:=.slice none 0 0) (k':=k+2) (by repeat (first|exact Below.refl _ _|refine Below.drew ?_|refine Below.alloc ?_ (by simp) _)) (by rw [HX.out];exact hown1) hgrow (by simpa using hat) (by rw [HN.out.1];exact TreeAt.nil _ _ _ _) (by rw [HN.out.2];exact TreeAt.nil _ _ _ _) (fun _ h=>h.elim) rfl rfl (by omega) (by omega) HG.out
      have HPH:=zHd HP
      clear HP hown1 hgrow hat
      go_wp2_with fail
      go_roundw
      case rel=>exact ⟨k+2,_,rem,_,by go_num,HPH.out⟩
      case measure=>simp [intOf];omega
    .obtain ⟨rfl,hx1,hx2,hne⟩:wb=[]/\x.2.1=zcn d/\x.2.2=zcn d/\zdE t wr2 zbV:=by simpa using hblk
     simp only [List.nil_append,List.cons_append] at hu
     obtain ⟨c0,c0'⟩:=za3 hwr hu 0 p (by simp)
     simp only [Nat.add_zero] at c0 c0'
     obtain ⟨sp,hsp⟩:∃ s,s=t.extract p.1 p.2:=⟨_,rfl⟩
     rw [<- hsp] at c0
     have hzp:sp.size<=400:=by rw [hsp];simp;omega
     have n0:(sp.toList==[115,101,110,100])=false:=zas (by rw [hsp];show ¬ zaf t p=_;rw [hk];decide)
     have n1:(sp.toList==[119,97,105,116])=false:=zas (by rw [hsp];show ¬ zaf t p=_;rw [hk];decide)
     have y0:(sp.toList==[115,116,111,112])=true:=zaO (by rw [hsp];exact hk)
     have hll:=congrArg List.length hu
     simp at hll
     have hbr:b<wr.heap.size:=by omega
     have HX:Hid (∀ va vb:Value,zbw t x.1 (va,vb)=[.string sp,.int .i64 (0),.int .i64 (0),.int .i64 (0),va,vb,.int .i64 p.1]):=fun va vb=>by rw [hx,hsp];rfl
     have hdr:ws.drop (k+1)=wr2:=by have:=congrArg (List.drop 1) hu;simpa [List.drop_drop] using this
     have hnx:k+1=ws.length\/(k+1<ws.length/\∃ s:ByteArray,wr.cell? ⟨b,off+(k+1)*2,none⟩=some (.string s)/\(s.toList==[123])=false):=zef hwr hdr (by omega) hne
     have HG:Hid (GL t (GT t d) (zcn d) (ws.drop (k+1)) rem):=by rw [hdr];exact hrest
     have HN:Hid (x.2.1=zcn d/\x.2.2=zcn d):=And.intro hx1 hx2
     clear hsp hp hk hblk hx hws hwr hu hx1 hx2 hrest hdr hne hll
     rcases hnx with hnx|⟨hnx,sn,hcn,hsn⟩
     all_goals
      go_wp2_with fail
      go_region
      go_wp2_with (first|(go_at_call 54;refine (zem _ _).mono ?_;rintro e w' ⟨rfl,rfl⟩)|(go_at_call 52;refine (zdy _ _ (by unfold maxLen;omega)).mono ?_;rintro e w' ⟨rfl,rfl⟩)|(at_builtin;refine za7 _ rfl (.tmp 161) (.tmp 163) 56 rfl 133 _ 7 96 Tryz.underlying56 Tryz.infoStmt rfl (by decide) (by decide) u3 _ _ (wr.heap.size+1) [.string sp,.int .i64 (0),.int .i64 (0),.int .i64 (0),.slice none 0 0,.slice none 0 0,.int .i64 p.1] (by rfl) (by exact (hown.alloc _).alloc _) (by exact zaw _ _ _) (by rfl) rfl (zd0 rfl rfl) (by omega) ?_))
      intro g cap2 w1 hown1 hgrow hat hlt1
      have HP:=HI.out.push (Y:=fun _=>False) (va:=.slice none 0 0) (vb:=.slice none 0 0) (k':=k+1) (by repeat (first|exact Below.refl _ _|refine Below.drew ?_|refine Below.alloc ?_ (by simp) _)) (by rw [HX.out];exact hown1) hgrow (by simpa using hat) (by rw [HN.out.1];exact TreeAt.nil _ _ _ _) (by rw [HN.out.2];exact TreeAt.nil _ _ _ _) (fun _ h=>h.elim) rfl rfl (by omega) (by omega) HG.out
      have HPH:=zHd HP
      clear HP hown1 hgrow hat
      go_wp2_with fail
      go_roundw
      case rel=>exact ⟨k+1,_,rem,_,by go_num,HPH.out⟩
      case measure=>simp [intOf];omega
    .rcases hblk with ⟨h0,_⟩|⟨o,wa,cl,hf,rfl,ho,hc,ha,hx2,hne⟩|⟨o,wa,cl,el,o2,wa2,cl2,hf,rfl,ho,hc,he,ho2,hc2,ha,ha2⟩
     .exact absurd h0 (by decide)
     .have hblk:True:=trivial
      obtain ⟨wt,rfl⟩:∃ wt,wt=wr2:=⟨_,rfl⟩
      simp only [List.nil_append,List.cons_append,List.append_assoc] at hu
      obtain ⟨c0,c0'⟩:=za3 hwr hu 0 p (by simp)
      simp only [Nat.add_zero] at c0 c0'
      obtain ⟨c1,_⟩:=za3 hwr hu 1 q (by simp)
      obtain ⟨c2,_⟩:=za3 hwr hu 2 r (by simp)
      obtain ⟨sp,hsp⟩:∃ s,s=t.extract p.1 p.2:=⟨_,rfl⟩
      obtain ⟨sq,hsq⟩:∃ s,s=t.extract q.1 q.2:=⟨_,rfl⟩
      obtain ⟨sr,hsr⟩:∃ s,s=t.extract r.1 r.2:=⟨_,rfl⟩
      rw [<- hsp] at c0
      rw [<- hsq] at c1
      rw [<- hsr] at c2
      have hzp:sp.size<=400:=by rw [hsp];simp;omega
      have hzq:sq.size<=400:=by rw [hsq];simp;omega
      have hzr:sr.size<=400:=by rw [hsr];simp;omega
      have n0:(sp.toList==[115,101,110,100])=false:=zas (by rw [hsp];show ¬ zaf t p=_;rw [hk];decide)
      have n1:(sp.toList==[119,97,105,116])=false:=zas (by rw [hsp];show ¬ zaf t p=_;rw [hk];decide)
      have n2:(sp.toList==[115,116,111,112])=false:=zas (by rw [hsp];show ¬ zaf t p=_;rw [hk];decide)
      have y0:(sp.toList==[97,115,107])=true:=zaO (by rw [hsp];exact hk)
      have hll:=congrArg List.length hu
      simp at hll
      have hbr:b<wr.heap.size:=by omega
      have HX:Hid (∀ va vb:Value,zbw t x.1 (va,vb)=[.string sp,.int .i64 (zcx sq.data.toList),.int .i64 (zbx sr.data.toList),.int .i64 (0),va,vb,.int .i64 p.1]):=fun va vb=>by rw [hx,hsp,hsq,hsr];rfl
      have hd1:ws.drop (k+3)=o::(wa++cl::wt):=by have:=congrArg (List.drop 3) hu;simpa [List.drop_drop] using this
      have hsh:zdV t (ws.drop (k+3)) 0=some (wa.length+1):=by rw [hd1];exact zcO ho hc (GT.passes d _ _ ha)
      obtain ⟨co,_⟩:=za3 hwr hd1 0 o (by simp)
      simp only [Nat.add_zero] at co
      obtain ⟨so,hso⟩:∃ s,s=t.extract o.1 o.2:=⟨_,rfl⟩
      rw [<- hso] at co
      have yo:(so.toList==[123])=true:=zaO (by rw [hso];exact ho)
      have hd2:ws.drop (k+3+1)=wa++cl::wt:=by have:=congrArg (List.drop 1) hd1;simpa [List.drop_drop] using this
      have hwa:WordsAt t wr b (off+(k+3+1)*2) wa:=hwr.sub (k+3+1) wa.length wa (by rw [hd2];simp)
      have hl1:k+3+(wa.length+1)+1<=ws.length:=by have:=congrArg List.length hd2;simp at this;omega
      have hd3:ws.drop (k+3+(wa.length+1)+1)=wt:=by have:=congrArg (List.drop (wa.length+1)) hd2;rw [List.drop_drop] at this;rw [show k+3+(wa.length+1)+1=k+3+1+(wa.length+1) from by omega,this];simp
      have HA:=zHd ha
      have HSH:=zHd hsh
      have HWA:=zHd hwa
      have HWR:=zHd hwr
      have hnx:k+3+(wa.length+1)+1=ws.length\/(k+3+(wa.length+1)+1<ws.length/\∃ s:ByteArray,wr.cell? ⟨b,off+(k+3+(wa.length+1)+1)*2,none⟩=some (.string s)/\(s.toList==[101,108,115,101])=false):=zef hwr hd3 (by omega) hne
      have HG:Hid (GL t (GT t d) (zcn d) (ws.drop (k+3+(wa.length+1)+1)) rem):=by rw [hd3];exact hrest
      have HN:=zHd hx2
      clear hsp hsq hsr hp hk hblk hx hws hwr hu hx2 hrest hd1 hd2 hd3 hne hll hsh hwa ha ho hc hso
      rcases hnx with hnx|⟨hnx,sn,hcn,hsn⟩
      all_goals
       go_wp2_with fail
       go_region
       go_wp2_with (first|(go_at_call 54;refine (zem _ _).mono ?_;rintro e w' ⟨rfl,rfl⟩)|(go_at_call 52;refine (zdy _ _ (by unfold maxLen;omega)).mono ?_;rintro e w' ⟨rfl,rfl⟩))
       refine (zes t b off cap ws _ _ (k+3) (wa.length+1) (by omega) hlen ?_ HSH.out).mono ?_
       .exact HWR.out.keep (Below.heap_alloc _ _ _ hbr)
       rintro e w' ⟨rfl,rfl⟩
       go_wp2_with fail
       refine (ih wa x.2.1 _ b (off+(k+3+1)*2) _ _ _ (by omega) HA.out (by omega) (by omega) ?_).mono ?_
       .intro _;exact ⟨rfl,by simp;omega,HWA.out.keep (Below.heap_alloc _ _ _ hbr)⟩
       rintro e w2 ⟨aa,na,ca,rfl,hta,hb2⟩
       have hwc:(wr.alloc (.cells #[.string sp,.int .i64 (zcx sq.data.toList),.int .i64 (zbx sr.data.toList),.int .i64 (0),.slice none 0 0,.slice none 0 0,.int .i64 p.1] 133)).drew.heap.size=wr.heap.size+1:=by show (wr.alloc _).heap.size=_;simp
       rw [hwc] at hta hb2
       have hF2:w2.heap[wr.heap.size]?=some (.cells #[.string sp,.int .i64 (zcx sq.data.toList),.int .i64 (zbx sr.data.toList),.int .i64 (0),.slice none 0 0,.slice none 0 0,.int .i64 p.1] 133 (0,0)):=(hb2.block _ (by omega)).trans (heap_alloc_new _ _)
       have hf0:w2.cell? ⟨wr.heap.size,0,none⟩=some (.string sp):=(zaa hF2).trans rfl
       have hf1:w2.cell? ⟨wr.heap.size,1,none⟩=some (.int .i64 (zcx sq.data.toList)):=(zaa hF2).trans rfl
       have hf2:w2.cell? ⟨wr.heap.size,2,none⟩=some (.int .i64 (zbx sr.data.toList)):=(zaa hF2).trans rfl
       have hf3:w2.cell? ⟨wr.heap.size,3,none⟩=some (.int .i64 (0)):=(zaa hF2).trans rfl
       have hf4:w2.cell? ⟨wr.heap.size,4,none⟩=some (.slice none 0 0):=(zaa hF2).trans rfl
       have hf5:w2.cell? ⟨wr.heap.size,5,none⟩=some (.slice none 0 0):=(zaa hF2).trans rfl
       have hf6:w2.cell? ⟨wr.heap.size,6,none⟩=some (.int .i64 p.1):=(zaa hF2).trans rfl
       have hz2:w2.frozen? ⟨wr.heap.size,4,none⟩=false:=zab hF2
       have hs2:wr.heap.size+1<=w2.heap.size:=by have:=hb2.size;rw [hwc] at this;exact this
       have hcn2:∀ (s:ByteArray) (j:Nat),wr.cell? ⟨b,j,none⟩=some (.string s)->w2.cell? ⟨b,j,none⟩=some (.string s):=fun s j hj=>(hb2.cell (p:=⟨b,j,none⟩) (by show b < _;omega)).trans ((World.cell?_of_block (Below.heap_alloc _ _ _ hbr)).trans hj)
       have hbw:Below wr.heap.size wr w2:=(((Below.refl _ _).alloc (Nat.le_refl _) _).drew).trans (hb2.mono (by omega))
       have HBW:=zHd hbw
       have HT:=zHd hta
       have hown2:(w2.setCell ⟨wr.heap.size,4,none⟩ (.slice aa na ca)).ownsRow 0 133 7 u3 xs.length (zbt t xs):=zaj hown (fun j hj=>by obtain ⟨cc,hcc⟩:=zad hown hj;have hjl:=zae hcc;rw [Below.heap_setCell _ _ _ _ (by show j≠wr.heap.size;omega)];exact hbw.block j hjl)
       have HF2:=zHd hF2
       clear hta hb2 hF2 hbw hwc
       try (have hcm:=hcn2 _ _ hcn)
       clear hcn2
       go_wp2_with (at_builtin;refine za7 _ rfl (.tmp 161) (.tmp 163) 56 rfl 133 _ 7 96 Tryz.underlying56 Tryz.infoStmt rfl (by decide) (by decide) u3 _ _ w2.heap.size [.string sp,.int .i64 (zcx sq.data.toList),.int .i64 (zbx sr.data.toList),.int .i64 (0),.slice aa na ca,.slice none 0 0,.int .i64 p.1] (by rfl) (by exact hown2.alloc _) (by exact zaY _ _ _ (zaq _ _ _)) (by rfl) rfl (zd0 rfl rfl) (by omega) ?_)
       intro g cap2 w3 hown3 hgrow hat hlt3
       have HP:=HI.out.push (Y:=fun j=>wr.heap.size+1<=j/\j<w2.heap.size) (va:=.slice aa na ca) (vb:=.slice none 0 0) (k':=k+3+(wa.length+1)+1) ((HBW.out.setCell (p:=⟨wr.heap.size,4,none⟩) (Nat.le_refl _) _).alloc (by rw [zaq];omega) _) (by rw [HX.out];exact hown3) hgrow (by simpa using hat) ((HT.out.laid (Nat.lt_succ_self _)).alloc _ (fun j hj=>by rw [zaq];exact hj.2)) (by rw [HN.out];exact TreeAt.nil _ _ _ _) (fun j hj=>by simp;omega) rfl rfl (by omega) (by omega) HG.out
       have HPH:=zHd HP
       clear HP hown3 hgrow hat hown2
       go_wp2_with fail
       go_roundw
       case rel=>exact ⟨k+3+(wa.length+1)+1,_,rem,_,by go_num,HPH.out⟩
       case measure=>simp [intOf];omega
     .have hblk:True:=trivial
      obtain ⟨wt,hwt⟩:∃ wt,wt=el::o2::(wa2++cl2::wr2):=⟨_,rfl⟩
      simp only [List.nil_append,List.cons_append,List.append_assoc] at hu
      rw [<- hwt] at hu
      obtain ⟨c0,c0'⟩:=za3 hwr hu 0 p (by simp)
      simp only [Nat.add_zero] at c0 c0'
      obtain ⟨c1,_⟩:=za3 hwr hu 1 q (by simp)
      obtain ⟨c2,_⟩:=za3 hwr hu 2 r (by simp)
      obtain ⟨sp,hsp⟩:∃ s,s=t.extract p.1 p.2:=⟨_,rfl⟩
      obtain ⟨sq,hsq⟩:∃ s,s=t.extract q.1 q.2:=⟨_,rfl⟩
      obtain ⟨sr,hsr⟩:∃ s,s=t.extract r.1 r.2:=⟨_,rfl⟩
      rw [<- hsp] at c0
      rw [<- hsq] at c1
      rw [<- hsr] at c2
      have hzp:sp.size<=400:=by rw [hsp];simp;omega
      have hzq:sq.size<=400:=by rw [hsq];simp;omega
      have hzr:sr.size<=400:=by rw [hsr];simp;omega
      have n0:(sp.toList==[115,101,110,100])=false:=zas (by rw [hsp];show ¬ zaf t p=_;rw [hk];decide)
      have n1:(sp.toList==[119,97,105,116])=false:=zas (by rw [hsp];show ¬ zaf t p=_;rw [hk];decide)
      have n2:(sp.toList==[115,116,111,112])=false:=zas (by rw [hsp];show ¬ zaf t p=_;rw [hk];decide)
      have y0:(sp.toList==[97,115,107])=true:=zaO (by rw [hsp];exact hk)
      have hll:=congrArg List.length hu
      simp at hll
      have hbr:b<wr.heap.size:=by omega
      have HX:Hid (∀ va vb:Value,zbw t x.1 (va,vb)=[.string sp,.int .i64 (zcx sq.data.toList),.int .i64 (zbx sr.data.toList),.int .i64 (0),va,vb,.int .i64 p.1]):=fun va vb=>by rw [hx,hsp,hsq,hsr];rfl
      have hd1:ws.drop (k+3)=o::(wa++cl::wt):=by have:=congrArg (List.drop 3) hu;simpa [List.drop_drop] using this
      have hsh:zdV t (ws.drop (k+3)) 0=some (wa.length+1):=by rw [hd1];exact zcO ho hc (GT.passes d _ _ ha)
      obtain ⟨co,_⟩:=za3 hwr hd1 0 o (by simp)
      simp only [Nat.add_zero] at co
      obtain ⟨so,hso⟩:∃ s,s=t.extract o.1 o.2:=⟨_,rfl⟩
      rw [<- hso] at co
      have yo:(so.toList==[123])=true:=zaO (by rw [hso];exact ho)
      have hd2:ws.drop (k+3+1)=wa++cl::wt:=by have:=congrArg (List.drop 1) hd1;simpa [List.drop_drop] using this
      have hwa:WordsAt t wr b (off+(k+3+1)*2) wa:=hwr.sub (k+3+1) wa.length wa (by rw [hd2];simp)
      have hl1:k+3+(wa.length+1)+1<=ws.length:=by have:=congrArg List.length hd2;simp at this;omega
      have hd3:ws.drop (k+3+(wa.length+1)+1)=wt:=by have:=congrArg (List.drop (wa.length+1)) hd2;rw [List.drop_drop] at this;rw [show k+3+(wa.length+1)+1=k+3+1+(wa.length+1) from by omega,this];simp
      have HA:=zHd ha
      have HSH:=zHd hsh
      have HWA:=zHd hwa
      have HWR:=zHd hwr
      rw [hwt] at hd3
      have hd3':=hd3
      clear hwt
      have hd4:ws.drop (k+3+(wa.length+1)+1+1)=o2::(wa2++cl2::wr2):=by have:=congrArg (List.drop 1) hd3;simpa [List.drop_drop] using this
      have hd5:ws.drop (k+3+(wa.length+1)+1+1+1)=wa2++cl2::wr2:=by have:=congrArg (List.drop 1) hd4;simpa [List.drop_drop] using this
      have hl2:k+3+(wa.length+1)+1+1+1+wa2.length+1<=ws.length:=by have:=congrArg List.length hd5;simp at this;omega
      have hd6:ws.drop (k+3+(wa.length+1)+1+1+(wa2.length+1)+1)=wr2:=by have:=congrArg (List.drop (wa2.length+1)) hd5;rw [List.drop_drop] at this;rw [show k+3+(wa.length+1)+1+1+(wa2.length+1)+1=k+3+(wa.length+1)+1+1+1+(wa2.length+1) from by omega,this];simp
      obtain ⟨ce,_⟩:=za3 hwr hd3' 0 el (by simp)
      simp only [Nat.add_zero] at ce
      obtain ⟨se,hse⟩:∃ s,s=t.extract el.1 el.2:=⟨_,rfl⟩
      rw [<- hse] at ce
      have ye:(se.toList==[101,108,115,101])=true:=zaO (by rw [hse];exact he)
      have HSH2:Hid (zdV t (ws.drop (k+3+(wa.length+1)+1+1)) 0=some (wa2.length+1)):=by rw [hd4];exact zcO ho2 hc2 (GT.passes d _ _ ha2)
      have HWA2:Hid (WordsAt t wr b (off+(k+3+(wa.length+1)+1+1+1)*2) wa2):=hwr.sub (k+3+(wa.length+1)+1+1+1) wa2.length wa2 (by rw [hd5];simp)
      have HA2:=zHd ha2
      have HG:Hid (GL t (GT t d) (zcn d) (ws.drop (k+3+(wa.length+1)+1+1+(wa2.length+1)+1)) rem):=by rw [hd6];exact hrest
      clear hsp hsq hsr hp hk hblk hx hws hwr hu hrest hd1 hd2 hd3 hd3' hd4 hd5 hd6 hll hsh hwa ha ha2 ho hc ho2 hc2 he hso hse
      go_wp2_with fail
      go_region
      go_wp2_with (first|(go_at_call 54;refine (zem _ _).mono ?_;rintro e w' ⟨rfl,rfl⟩)|(go_at_call 52;refine (zdy _ _ (by unfold maxLen;omega)).mono ?_;rintro e w' ⟨rfl,rfl⟩))
      refine (zes t b off cap ws _ _ (k+3) (wa.length+1) (by omega) hlen ?_ HSH.out).mono ?_
      .exact HWR.out.keep (Below.heap_alloc _ _ _ hbr)
      rintro e w' ⟨rfl,rfl⟩
      go_wp2_with fail
      refine (ih wa x.2.1 _ b (off+(k+3+1)*2) _ _ _ (by omega) HA.out (by omega) (by omega) ?_).mono ?_
      .intro _;exact ⟨rfl,by simp;omega,HWA.out.keep (Below.heap_alloc _ _ _ hbr)⟩
      rintro e w2 ⟨aa,na,ca,rfl,hta,hb2⟩
      have hwc:(wr.alloc (.cells #[.string sp,.int .i64 (zcx sq.data.toList),.int .i64 (zbx sr.data.toList),.int .i64 (0),.slice none 0 0,.slice none 0 0,.int .i64 p.1] 133)).drew.heap.size=wr.heap.size+1:=by show (wr.alloc _).heap.size=_;simp
      rw [hwc] at hta hb2
      have hF2:w2.heap[wr.heap.size]?=some (.cells #[.string sp,.int .i64 (zcx sq.data.toList),.int .i64 (zbx sr.data.toList),.int .i64 (0),.slice none 0 0,.slice none 0 0,.int .i64 p.1] 133 (0,0)):=(hb2.block _ (by omega)).trans (heap_alloc_new _ _)
      have hf0:w2.cell? ⟨wr.heap.size,0,none⟩=some (.string sp):=(zaa hF2).trans rfl
      have hf1:w2.cell? ⟨wr.heap.size,1,none⟩=some (.int .i64 (zcx sq.data.toList)):=(zaa hF2).trans rfl
      have hf2:w2.cell? ⟨wr.heap.size,2,none⟩=some (.int .i64 (zbx sr.data.toList)):=(zaa hF2).trans rfl
      have hf3:w2.cell? ⟨wr.heap.size,3,none⟩=some (.int .i64 (0)):=(zaa hF2).trans rfl
      have hf4:w2.cell? ⟨wr.heap.size,4,none⟩=some (.slice none 0 0):=(zaa hF2).trans rfl
      have hf5:w2.cell? ⟨wr.heap.size,5,none⟩=some (.slice none 0 0):=(zaa hF2).trans rfl
      have hf6:w2.cell? ⟨wr.heap.size,6,none⟩=some (.int .i64 p.1):=(zaa hF2).trans rfl
      have hz2:w2.frozen? ⟨wr.heap.size,4,none⟩=false:=zab hF2
      have hs2:wr.heap.size+1<=w2.heap.size:=by have:=hb2.size;rw [hwc] at this;exact this
      have hcn2:∀ (s:ByteArray) (j:Nat),wr.cell? ⟨b,j,none⟩=some (.string s)->w2.cell? ⟨b,j,none⟩=some (.string s):=fun s j hj=>(hb2.cell (p:=⟨b,j,none⟩) (by show b < _;omega)).trans ((World.cell?_of_block (Below.heap_alloc _ _ _ hbr)).trans hj)
      have hbw:Below wr.heap.size wr w2:=(((Below.refl _ _).alloc (Nat.le_refl _) _).drew).trans (hb2.mono (by omega))
      have HBW:=zHd hbw
      have HT:=zHd hta
      have hown2:(w2.setCell ⟨wr.heap.size,4,none⟩ (.slice aa na ca)).ownsRow 0 133 7 u3 xs.length (zbt t xs):=zaj hown (fun j hj=>by obtain ⟨cc,hcc⟩:=zad hown hj;have hjl:=zae hcc;rw [Below.heap_setCell _ _ _ _ (by show j≠wr.heap.size;omega)];exact hbw.block j hjl)
      have HF2:=zHd hF2
      clear hta hb2 hF2 hbw hwc
      have hce2:=hcn2 _ _ ce
      have hb2':w2.heap[b]?=wr.heap[b]?:=HBW.out.block b hbr
      have hne:b≠wr.heap.size:=by omega
      clear hcn2
      go_wp2_with fail
      refine (zes t b off cap ws _ _ (k+3+(wa.length+1)+1+1) (wa2.length+1) (by omega) hlen ?_ HSH2.out).mono ?_
      .exact HWR.out.keep ((Below.heap_setCell _ _ _ _ hne).trans hb2')
      rintro e w' ⟨rfl,rfl⟩
      go_wp2_with fail
      refine (ih wa2 x.2.2 _ b (off+(k+3+(wa.length+1)+1+1+1)*2) _ _ _ (by omega) HA2.out (by omega) (by omega) ?_).mono ?_
      .intro _;exact ⟨rfl,by rw [zaq];omega,HWA2.out.keep ((Below.heap_setCell _ _ _ _ hne).trans hb2')⟩
      rintro e w4 ⟨ab,nb,cb,rfl,htb,hb4⟩
      rw [zaq] at htb hb4
      have hs4:w2.heap.size<=w4.heap.size:=by have:=hb4.size;rw [zaq] at this;exact this
      have hF4:w4.heap[wr.heap.size]?=some (.cells #[.string sp,.int .i64 (zcx sq.data.toList),.int .i64 (zbx sr.data.toList),.int .i64 (0),.slice aa na ca,.slice none 0 0,.int .i64 p.1] 133 (0,0)):=by rw [hb4.block _ (by omega),zah _ HF2.out];rfl
      have he0:w4.cell? ⟨wr.heap.size,0,none⟩=some (.string sp):=(zaa hF4).trans rfl
      have he1:w4.cell? ⟨wr.heap.size,1,none⟩=some (.int .i64 (zcx sq.data.toList)):=(zaa hF4).trans rfl
      have he2:w4.cell? ⟨wr.heap.size,2,none⟩=some (.int .i64 (zbx sr.data.toList)):=(zaa hF4).trans rfl
      have he3:w4.cell? ⟨wr.heap.size,3,none⟩=some (.int .i64 (0)):=(zaa hF4).trans rfl
      have he4:w4.cell? ⟨wr.heap.size,4,none⟩=some (.slice aa na ca):=(zaa hF4).trans rfl
      have he5:w4.cell? ⟨wr.heap.size,5,none⟩=some (.slice none 0 0):=(zaa hF4).trans rfl
      have he6:w4.cell? ⟨wr.heap.size,6,none⟩=some (.int .i64 p.1):=(zaa hF4).trans rfl
      have hz4:w4.frozen? ⟨wr.heap.size,5,none⟩=false:=zab hF4
      have hcn4:∀ j,j<w2.heap.size->j≠wr.heap.size->(w4.setCell ⟨wr.heap.size,5,none⟩ (.slice ab nb cb)).heap[j]?=w2.heap[j]?:=fun j hj hne=>by rw [Below.heap_setCell _ _ _ _ (by exact hne),hb4.block j hj,Below.heap_setCell _ _ _ _ (by exact hne)]
      have HTA:Hid (TreeAt t (w4.setCell ⟨wr.heap.size,5,none⟩ (.slice ab nb cb)) (fun k=>wr.heap.size+1<=k/\k<w4.heap.size) d (.slice aa na ca) x.2.1):=TreeAt.mono (fun j hj=>⟨hj.1,by omega⟩) d _ _ (TreeAt.keep (fun j hj=>hcn4 j hj.2 (by omega)) d _ _ (TreeAt.bound d _ _ HT.out))
      have HTB:Hid (TreeAt t (w4.setCell ⟨wr.heap.size,5,none⟩ (.slice ab nb cb)) (fun k=>wr.heap.size+1<=k/\k<w4.heap.size) d (.slice ab nb cb) x.2.2):=TreeAt.mono (fun j hj=>⟨by omega,hj.2⟩) d _ _ (htb.laid (by omega))
      have HBW4:Hid (Below wr.heap.size wr w4):=(HBW.out.setCell (p:=⟨wr.heap.size,4,none⟩) (Nat.le_refl _) _).trans (hb4.mono (by omega))
      have hown4:(w4.setCell ⟨wr.heap.size,5,none⟩ (.slice ab nb cb)).ownsRow 0 133 7 u3 xs.length (zbt t xs):=zaj hown (fun j hj=>by obtain ⟨cc,hcc⟩:=zad hown hj;have hjl:=zae hcc;rw [hcn4 j (by omega) (by omega)];exact HBW.out.block j hjl)
      clear htb hb4 hF4 hcn4 hb2' hown2 hf0 hf1 hf2 hf3 hf4 hf5 hf6
      go_wp2_with (at_builtin;refine za7 _ rfl (.tmp 161) (.tmp 163) 56 rfl 133 _ 7 96 Tryz.underlying56 Tryz.infoStmt rfl (by decide) (by decide) u3 _ _ w4.heap.size [.string sp,.int .i64 (zcx sq.data.toList),.int .i64 (zbx sr.data.toList),.int .i64 (0),.slice aa na ca,.slice ab nb cb,.int .i64 p.1] (by rfl) (by exact hown4.alloc _) (by exact zaY _ _ _ (zaq _ _ _)) (by rfl) rfl (zd0 rfl rfl) (by omega) ?_)
      intro g cap2 w5 hown5 hgrow hat hlt5
      have HP:=HI.out.push (Y:=fun j=>wr.heap.size+1<=j/\j<w4.heap.size) (va:=.slice aa na ca) (vb:=.slice ab nb cb) (k':=k+3+(wa.length+1)+1+1+(wa2.length+1)+1) ((HBW4.out.setCell (p:=⟨wr.heap.size,5,none⟩) (Nat.le_refl _) _).alloc (by rw [zaq];omega) _) (by rw [HX.out];exact hown5) hgrow (by simpa using hat) (HTA.out.alloc _ (fun j hj=>by rw [zaq];exact hj.2)) (HTB.out.alloc _ (fun j hj=>by rw [zaq];exact hj.2)) (fun j hj=>by simp;omega) rfl rfl (by omega) (by omega) HG.out
      have HPH:=zHd HP
      clear HP hown5 hgrow hat hown4
      go_wp2_with fail
      go_roundw
      case rel=>exact ⟨k+3+(wa.length+1)+1+1+(wa2.length+1)+1,_,rem,_,by go_num,HPH.out⟩
      case measure=>simp [intOf];omega
    .rcases hblk with ⟨h0,_⟩|⟨o,wa,cl,hf,rfl,ho,hc,ha,hx2,hne⟩|⟨o,wa,cl,el,o2,wa2,cl2,hf,rfl,ho,hc,he,ho2,hc2,ha,ha2⟩
     .exact absurd h0 (by decide)
     .have hblk:True:=trivial
      obtain ⟨wt,rfl⟩:∃ wt,wt=wr2:=⟨_,rfl⟩
      simp only [List.nil_append,List.cons_append,List.append_assoc] at hu
      obtain ⟨c0,c0'⟩:=za3 hwr hu 0 p (by simp)
      simp only [Nat.add_zero] at c0 c0'
      obtain ⟨c1,_⟩:=za3 hwr hu 1 q (by simp)
      obtain ⟨c2,_⟩:=za3 hwr hu 2 r (by simp)
      obtain ⟨c3,_⟩:=za3 hwr hu 3 z (by simp)
      obtain ⟨sp,hsp⟩:∃ s,s=t.extract p.1 p.2:=⟨_,rfl⟩
      obtain ⟨sq,hsq⟩:∃ s,s=t.extract q.1 q.2:=⟨_,rfl⟩
      obtain ⟨sr,hsr⟩:∃ s,s=t.extract r.1 r.2:=⟨_,rfl⟩
      obtain ⟨sz,hsz⟩:∃ s,s=t.extract z.1 z.2:=⟨_,rfl⟩
      rw [<- hsp] at c0
      rw [<- hsq] at c1
      rw [<- hsr] at c2
      rw [<- hsz] at c3
      have hzp:sp.size<=400:=by rw [hsp];simp;omega
      have hzq:sq.size<=400:=by rw [hsq];simp;omega
      have hzr:sr.size<=400:=by rw [hsr];simp;omega
      have hzz:sz.size<=400:=by rw [hsz];simp;omega
      have n0:(sp.toList==[115,101,110,100])=false:=zas (by rw [hsp];show ¬ zaf t p=_;rw [hk];decide)
      have n1:(sp.toList==[119,97,105,116])=false:=zas (by rw [hsp];show ¬ zaf t p=_;rw [hk];decide)
      have n2:(sp.toList==[115,116,111,112])=false:=zas (by rw [hsp];show ¬ zaf t p=_;rw [hk];decide)
      have n3:(sp.toList==[97,115,107])=false:=zas (by rw [hsp];show ¬ zaf t p=_;rw [hk];decide)
      have y0:(sp.toList==[114,101,116,114,121])=true:=zaO (by rw [hsp];exact hk)
      have hll:=congrArg List.length hu
      simp at hll
      have hbr:b<wr.heap.size:=by omega
      have HX:Hid (∀ va vb:Value,zbw t x.1 (va,vb)=[.string sp,.int .i64 (zcx sr.data.toList),.int .i64 (zbx sz.data.toList),.int .i64 (zbx sq.data.toList),va,vb,.int .i64 p.1]):=fun va vb=>by rw [hx,hsp,hsq,hsr,hsz];rfl
      have hd1:ws.drop (k+4)=o::(wa++cl::wt):=by have:=congrArg (List.drop 4) hu;simpa [List.drop_drop] using this
      have hsh:zdV t (ws.drop (k+4)) 0=some (wa.length+1):=by rw [hd1];exact zcO ho hc (GT.passes d _ _ ha)
      obtain ⟨co,_⟩:=za3 hwr hd1 0 o (by simp)
      simp only [Nat.add_zero] at co
      obtain ⟨so,hso⟩:∃ s,s=t.extract o.1 o.2:=⟨_,rfl⟩
      rw [<- hso] at co
      have yo:(so.toList==[123])=true:=zaO (by rw [hso];exact ho)
      have hd2:ws.drop (k+4+1)=wa++cl::wt:=by have:=congrArg (List.drop 1) hd1;simpa [List.drop_drop] using this
      have hwa:WordsAt t wr b (off+(k+4+1)*2) wa:=hwr.sub (k+4+1) wa.length wa (by rw [hd2];simp)
      have hl1:k+4+(wa.length+1)+1<=ws.length:=by have:=congrArg List.length hd2;simp at this;omega
      have hd3:ws.drop (k+4+(wa.length+1)+1)=wt:=by have:=congrArg (List.drop (wa.length+1)) hd2;rw [List.drop_drop] at this;rw [show k+4+(wa.length+1)+1=k+4+1+(wa.length+1) from by omega,this];simp
      have HA:=zHd ha
      have HSH:=zHd hsh
      have HWA:=zHd hwa
      have HWR:=zHd hwr
      have hnx:k+4+(wa.length+1)+1=ws.length\/(k+4+(wa.length+1)+1<ws.length/\∃ s:ByteArray,wr.cell? ⟨b,off+(k+4+(wa.length+1)+1)*2,none⟩=some (.string s)/\(s.toList==[101,108,115,101])=false):=zef hwr hd3 (by omega) hne
      have HG:Hid (GL t (GT t d) (zcn d) (ws.drop (k+4+(wa.length+1)+1)) rem):=by rw [hd3];exact hrest
      have HN:=zHd hx2
      clear hsp hsq hsr hsz hp hk hblk hx hws hwr hu hx2 hrest hd1 hd2 hd3 hne hll hsh hwa ha ho hc hso
      rcases hnx with hnx|⟨hnx,sn,hcn,hsn⟩
      all_goals
       go_wp2_with fail
       go_region
       go_wp2_with (first|(go_at_call 54;refine (zem _ _).mono ?_;rintro e w' ⟨rfl,rfl⟩)|(go_at_call 52;refine (zdy _ _ (by unfold maxLen;omega)).mono ?_;rintro e w' ⟨rfl,rfl⟩))
       refine (zes t b off cap ws _ _ (k+4) (wa.length+1) (by omega) hlen ?_ HSH.out).mono ?_
       .exact HWR.out.keep (Below.heap_alloc _ _ _ hbr)
       rintro e w' ⟨rfl,rfl⟩
       go_wp2_with fail
       refine (ih wa x.2.1 _ b (off+(k+4+1)*2) _ _ _ (by omega) HA.out (by omega) (by omega) ?_).mono ?_
       .intro _;exact ⟨rfl,by simp;omega,HWA.out.keep (Below.heap_alloc _ _ _ hbr)⟩
       rintro e w2 ⟨aa,na,ca,rfl,hta,hb2⟩
       have hwc:(wr.alloc (.cells #[.string sp,.int .i64 (zcx sr.data.toList),.int .i64 (zbx sz.data.toList),.int .i64 (zbx sq.data.toList),.slice none 0 0,.slice none 0 0,.int .i64 p.1] 133)).drew.heap.size=wr.heap.size+1:=by show (wr.alloc _).heap.size=_;simp
       rw [hwc] at hta hb2
       have hF2:w2.heap[wr.heap.size]?=some (.cells #[.string sp,.int .i64 (zcx sr.data.toList),.int .i64 (zbx sz.data.toList),.int .i64 (zbx sq.data.toList),.slice none 0 0,.slice none 0 0,.int .i64 p.1] 133 (0,0)):=(hb2.block _ (by omega)).trans (heap_alloc_new _ _)
       have hf0:w2.cell? ⟨wr.heap.size,0,none⟩=some (.string sp):=(zaa hF2).trans rfl
       have hf1:w2.cell? ⟨wr.heap.size,1,none⟩=some (.int .i64 (zcx sr.data.toList)):=(zaa hF2).trans rfl
       have hf2:w2.cell? ⟨wr.heap.size,2,none⟩=some (.int .i64 (zbx sz.data.toList)):=(zaa hF2).trans rfl
       have hf3:w2.cell? ⟨wr.heap.size,3,none⟩=some (.int .i64 (zbx sq.data.toList)):=(zaa hF2).trans rfl
       have hf4:w2.cell? ⟨wr.heap.size,4,none⟩=some (.slice none 0 0):=(zaa hF2).trans rfl
       have hf5:w2.cell? ⟨wr.heap.size,5,none⟩=some (.slice none 0 0):=(zaa hF2).trans rfl
       have hf6:w2.cell? ⟨wr.heap.size,6,none⟩=some (.int .i64 p.1):=(zaa hF2).trans rfl
       have hz2:w2.frozen? ⟨wr.heap.size,4,none⟩=false:=zab hF2
       have hs2:wr.heap.size+1<=w2.heap.size:=by have:=hb2.size;rw [hwc] at this;exact this
       have hcn2:∀ (s:ByteArray) (j:Nat),wr.cell? ⟨b,j,none⟩=some (.string s)->w2.cell? ⟨b,j,none⟩=some (.string s):=fun s j hj=>(hb2.cell (p:=⟨b,j,none⟩) (by show b < _;omega)).trans ((World.cell?_of_block (Below.heap_alloc _ _ _ hbr)).trans hj)
       have hbw:Below wr.heap.size wr w2:=(((Below.refl _ _).alloc (Nat.le_refl _) _).drew).trans (hb2.mono (by omega))
       have HBW:=zHd hbw
       have HT:=zHd hta
       have hown2:(w2.setCell ⟨wr.heap.size,4,none⟩ (.slice aa na ca)).ownsRow 0 133 7 u3 xs.length (zbt t xs):=zaj hown (fun j hj=>by obtain ⟨cc,hcc⟩:=zad hown hj;have hjl:=zae hcc;rw [Below.heap_setCell _ _ _ _ (by show j≠wr.heap.size;omega)];exact hbw.block j hjl)
       have HF2:=zHd hF2
       clear hta hb2 hF2 hbw hwc
       try (have hcm:=hcn2 _ _ hcn)
       clear hcn2
       go_wp2_with (at_builtin;refine za7 _ rfl (.tmp 161) (.tmp 163) 56 rfl 133 _ 7 96 Tryz.underlying56 Tryz.infoStmt rfl (by decide) (by decide) u3 _ _ w2.heap.size [.string sp,.int .i64 (zcx sr.data.toList),.int .i64 (zbx sz.data.toList),.int .i64 (zbx sq.data.toList),.slice aa na ca,.slice none 0 0,.int .i64 p.1] (by rfl) (by exact hown2.alloc _) (by exact zaY _ _ _ (zaq _ _ _)) (by rfl) rfl (zd0 rfl rfl) (by omega) ?_)
       intro g cap2 w3 hown3 hgrow hat hlt3
       have HP:=HI.out.push (Y:=fun j=>wr.heap.size+1<=j/\j<w2.heap.size) (va:=.slice aa na ca) (vb:=.slice none 0 0) (k':=k+4+(wa.length+1)+1) ((HBW.out.setCell (p:=⟨wr.heap.size,4,none⟩) (Nat.le_refl _) _).alloc (by rw [zaq];omega) _) (by rw [HX.out];exact hown3) hgrow (by simpa using hat) ((HT.out.laid (Nat.lt_succ_self _)).alloc _ (fun j hj=>by rw [zaq];exact hj.2)) (by rw [HN.out];exact TreeAt.nil _ _ _ _) (fun j hj=>by simp;omega) rfl rfl (by omega) (by omega) HG.out
       have HPH:=zHd HP
       clear HP hown3 hgrow hat hown2
       go_wp2_with fail
       go_roundw
       case rel=>exact ⟨k+4+(wa.length+1)+1,_,rem,_,by go_num,HPH.out⟩
       case measure=>simp [intOf];omega
     .have hblk:True:=trivial
      obtain ⟨wt,hwt⟩:∃ wt,wt=el::o2::(wa2++cl2::wr2):=⟨_,rfl⟩
      simp only [List.nil_append,List.cons_append,List.append_assoc] at hu
      rw [<- hwt] at hu
      obtain ⟨c0,c0'⟩:=za3 hwr hu 0 p (by simp)
      simp only [Nat.add_zero] at c0 c0'
      obtain ⟨c1,_⟩:=za3 hwr hu 1 q (by simp)
      obtain ⟨c2,_⟩:=za3 hwr hu 2 r (by simp)
      obtain ⟨c3,_⟩:=za3 hwr hu 3 z (by simp)
      obtain ⟨sp,hsp⟩:∃ s,s=t.extract p.1 p.2:=⟨_,rfl⟩
      obtain ⟨sq,hsq⟩:∃ s,s=t.extract q.1 q.2:=⟨_,rfl⟩
      obtain ⟨sr,hsr⟩:∃ s,s=t.extract r.1 r.2:=⟨_,rfl⟩
      obtain ⟨sz,hsz⟩:∃ s,s=t.extract z.1 z.2:=⟨_,rfl⟩
      rw [<- hsp] at c0
      rw [<- hsq] at c1
      rw [<- hsr] at c2
      rw [<- hsz] at c3
      have hzp:sp.size<=400:=by rw [hsp];simp;omega
      have hzq:sq.size<=400:=by rw [hsq];simp;omega
      have hzr:sr.size<=400:=by rw [hsr];simp;omega
      have hzz:sz.size<=400:=by rw [hsz];simp;omega
      have n0:(sp.toList==[115,101,110,100])=false:=zas (by rw [hsp];show ¬ zaf t p=_;rw [hk];decide)
      have n1:(sp.toList==[119,97,105,116])=false:=zas (by rw [hsp];show ¬ zaf t p=_;rw [hk];decide)
      have n2:(sp.toList==[115,116,111,112])=false:=zas (by rw [hsp];show ¬ zaf t p=_;rw [hk];decide)
      have n3:(sp.toList==[97,115,107])=false:=zas (by rw [hsp];show ¬ zaf t p=_;rw [hk];decide)
      have y0:(sp.toList==[114,101,116,114,121])=true:=zaO (by rw [hsp];exact hk)
      have hll:=congrArg List.length hu
      simp at hll
      have hbr:b<wr.heap.size:=by omega
      have HX:Hid (∀ va vb:Value,zbw t x.1 (va,vb)=[.string sp,.int .i64 (zcx sr.data.toList),.int .i64 (zbx sz.data.toList),.int .i64 (zbx sq.data.toList),va,vb,.int .i64 p.1]):=fun va vb=>by rw [hx,hsp,hsq,hsr,hsz];rfl
      have hd1:ws.drop (k+4)=o::(wa++cl::wt):=by have:=congrArg (List.drop 4) hu;simpa [List.drop_drop] using this
      have hsh:zdV t (ws.drop (k+4)) 0=some (wa.length+1):=by rw [hd1];exact zcO ho hc (GT.passes d _ _ ha)
      obtain ⟨co,_⟩:=za3 hwr hd1 0 o (by simp)
      simp only [Nat.add_zero] at co
      obtain ⟨so,hso⟩:∃ s,s=t.extract o.1 o.2:=⟨_,rfl⟩
      rw [<- hso] at co
      have yo:(so.toList==[123])=true:=zaO (by rw [hso];exact ho)
      have hd2:ws.drop (k+4+1)=wa++cl::wt:=by have:=congrArg (List.drop 1) hd1;simpa [List.drop_drop] using this
      have hwa:WordsAt t wr b (off+(k+4+1)*2) wa:=hwr.sub (k+4+1) wa.length wa (by rw [hd2];simp)
      have hl1:k+4+(wa.length+1)+1<=ws.length:=by have:=congrArg List.length hd2;simp at this;omega
      have hd3:ws.drop (k+4+(wa.length+1)+1)=wt:=by have:=congrArg (List.drop (wa.length+1)) hd2;rw [List.drop_drop] at this;rw [show k+4+(wa.length+1)+1=k+4+1+(wa.length+1) from by omega,this];simp
      have HA:=zHd ha
      have HSH:=zHd hsh
      have HWA:=zHd hwa
      have HWR:=zHd hwr
      rw [hwt] at hd3
      have hd3':=hd3
      clear hwt
      have hd4:ws.drop (k+4+(wa.length+1)+1+1)=o2::(wa2++cl2::wr2):=by have:=congrArg (List.drop 1) hd3;simpa [List.drop_drop] using this
      have hd5:ws.drop (k+4+(wa.length+1)+1+1+1)=wa2++cl2::wr2:=by have:=congrArg (List.drop 1) hd4;simpa [List.drop_drop] using this
      have hl2:k+4+(wa.length+1)+1+1+1+wa2.length+1<=ws.length:=by have:=congrArg List.length hd5;simp at this;omega
      have hd6:ws.drop (k+4+(wa.length+1)+1+1+(wa2.length+1)+1)=wr2:=by have:=congrArg (List.drop (wa2.length+1)) hd5;rw [List.drop_drop] at this;rw [show k+4+(wa.length+1)+1+1+(wa2.length+1)+1=k+4+(wa.length+1)+1+1+1+(wa2.length+1) from by omega,this];simp
      obtain ⟨ce,_⟩:=za3 hwr hd3' 0 el (by simp)
      simp only [Nat.add_zero] at ce
      obtain ⟨se,hse⟩:∃ s,s=t.extract el.1 el.2:=⟨_,rfl⟩
      rw [<- hse] at ce
      have ye:(se.toList==[101,108,115,101])=true:=zaO (by rw [hse];exact he)
      have HSH2:Hid (zdV t (ws.drop (k+4+(wa.length+1)+1+1)) 0=some (wa2.length+1)):=by rw [hd4];exact zcO ho2 hc2 (GT.passes d _ _ ha2)
      have HWA2:Hid (WordsAt t wr b (off+(k+4+(wa.length+1)+1+1+1)*2) wa2):=hwr.sub (k+4+(wa.length+1)+1+1+1) wa2.length wa2 (by rw [hd5];simp)
      have HA2:=zHd ha2
      have HG:Hid (GL t (GT t d) (zcn d) (ws.drop (k+4+(wa.length+1)+1+1+(wa2.length+1)+1)) rem):=by rw [hd6];exact hrest
      clear hsp hsq hsr hsz hp hk hblk hx hws hwr hu hrest hd1 hd2 hd3 hd3' hd4 hd5 hd6 hll hsh hwa ha ha2 ho hc ho2 hc2 he hso hse
      go_wp2_with fail
      go_region
      go_wp2_with (first|(go_at_call 54;refine (zem _ _).mono ?_;rintro e w' ⟨rfl,rfl⟩)|(go_at_call 52;refine (zdy _ _ (by unfold maxLen;omega)).mono ?_;rintro e w' ⟨rfl,rfl⟩))
      refine (zes t b off cap ws _ _ (k+4) (wa.length+1) (by omega) hlen ?_ HSH.out).mono ?_
      .exact HWR.out.keep (Below.heap_alloc _ _ _ hbr)
      rintro e w' ⟨rfl,rfl⟩
      go_wp2_with fail
      refine (ih wa x.2.1 _ b (off+(k+4+1)*2) _ _ _ (by omega) HA.out (by omega) (by omega) ?_).mono ?_
      .intro _;exact ⟨rfl,by simp;omega,HWA.out.keep (Below.heap_alloc _ _ _ hbr)⟩
      rintro e w2 ⟨aa,na,ca,rfl,hta,hb2⟩
      have hwc:(wr.alloc (.cells #[.string sp,.int .i64 (zcx sr.data.toList),.int .i64 (zbx sz.data.toList),.int .i64 (zbx sq.data.toList),.slice none 0 0,.slice none 0 0,.int .i64 p.1] 133)).drew.heap.size=wr.heap.size+1:=by show (wr.alloc _).heap.size=_;simp
      rw [hwc] at hta hb2
      have hF2:w2.heap[wr.heap.size]?=some (.cells #[.string sp,.int .i64 (zcx sr.data.toList),.int .i64 (zbx sz.data.toList),.int .i64 (zbx sq.data.toList),.slice none 0 0,.slice none 0 0,.int .i64 p.1] 133 (0,0)):=(hb2.block _ (by omega)).trans (heap_alloc_new _ _)
      have hf0:w2.cell? ⟨wr.heap.size,0,none⟩=some (.string sp):=(zaa hF2).trans rfl
      have hf1:w2.cell? ⟨wr.heap.size,1,none⟩=some (.int .i64 (zcx sr.data.toList)):=(zaa hF2).trans rfl
      have hf2:w2.cell? ⟨wr.heap.size,2,none⟩=some (.int .i64 (zbx sz.data.toList)):=(zaa hF2).trans rfl
      have hf3:w2.cell? ⟨wr.heap.size,3,none⟩=some (.int .i64 (zbx sq.data.toList)):=(zaa hF2).trans rfl
      have hf4:w2.cell? ⟨wr.heap.size,4,none⟩=some (.slice none 0 0):=(zaa hF2).trans rfl
      have hf5:w2.cell? ⟨wr.heap.size,5,none⟩=some (.slice none 0 0):=(zaa hF2).trans rfl
      have hf6:w2.cell? ⟨wr.heap.size,6,none⟩=some (.int .i64 p.1):=(zaa hF2).trans rfl
      have hz2:w2.frozen? ⟨wr.heap.size,4,none⟩=false:=zab hF2
      have hs2:wr.heap.size+1<=w2.heap.size:=by have:=hb2.size;rw [hwc] at this;exact this
      have hcn2:∀ (s:ByteArray) (j:Nat),wr.cell? ⟨b,j,none⟩=some (.string s)->w2.cell? ⟨b,j,none⟩=some (.string s):=fun s j hj=>(hb2.cell (p:=⟨b,j,none⟩) (by show b < _;omega)).trans ((World.cell?_of_block (Below.heap_alloc _ _ _ hbr)).trans hj)
      have hbw:Below wr.heap.size wr w2:=(((Below.refl _ _).alloc (Nat.le_refl _) _).drew).trans (hb2.mono (by omega))
      have HBW:=zHd hbw
      have HT:=zHd hta
      have hown2:(w2.setCell ⟨wr.heap.size,4,none⟩ (.slice aa na ca)).ownsRow 0 133 7 u3 xs.length (zbt t xs):=zaj hown (fun j hj=>by obtain ⟨cc,hcc⟩:=zad hown hj;have hjl:=zae hcc;rw [Below.heap_setCell _ _ _ _ (by show j≠wr.heap.size;omega)];exact hbw.block j hjl)
      have HF2:=zHd hF2
      clear hta hb2 hF2 hbw hwc
      have hce2:=hcn2 _ _ ce
      have hb2':w2.heap[b]?=wr.heap[b]?:=HBW.out.block b hbr
      have hne:b≠wr.heap.size:=by omega
      clear hcn2
      go_wp2_with fail
      refine (zes t b off cap ws _ _ (k+4+(wa.length+1)+1+1) (wa2.length+1) (by omega) hlen ?_ HSH2.out).mono ?_
      .exact HWR.out.keep ((Below.heap_setCell _ _ _ _ hne).trans hb2')
      rintro e w' ⟨rfl,rfl⟩
      go_wp2_with fail
      refine (ih wa2 x.2.2 _ b (off+(k+4+(wa.length+1)+1+1+1)*2) _ _ _ (by omega) HA2.out (by omega) (by omega) ?_).mono ?_
      .intro _;exact ⟨rfl,by rw [zaq];omega,HWA2.out.keep ((Below.heap_setCell _ _ _ _ hne).trans hb2')⟩
      rintro e w4 ⟨ab,nb,cb,rfl,htb,hb4⟩
      rw [zaq] at htb hb4
      have hs4:w2.heap.size<=w4.heap.size:=by have:=hb4.size;rw [zaq] at this;exact this
      have hF4:w4.heap[wr.heap.size]?=some (.cells #[.string sp,.int .i64 (zcx sr.data.toList),.int .i64 (zbx sz.data.toList),.int .i64 (zbx sq.data.toList),.slice aa na ca,.slice none 0 0,.int .i64 p.1] 133 (0,0)):=by rw [hb4.block _ (by omega),zah _ HF2.out];rfl
      have he0:w4.cell? ⟨wr.heap.size,0,none⟩=some (.string sp):=(zaa hF4).trans rfl
      have he1:w4.cell? ⟨wr.heap.size,1,none⟩=some (.int .i64 (zcx sr.data.toList)):=(zaa hF4).trans rfl
      have he2:w4.cell? ⟨wr.heap.size,2,none⟩=some (.int .i64 (zbx sz.data.toList)):=(zaa hF4).trans rfl
      have he3:w4.cell? ⟨wr.heap.size,3,none⟩=some (.int .i64 (zbx sq.data.toList)):=(zaa hF4).trans rfl
      have he4:w4.cell? ⟨wr.heap.size,4,none⟩=some (.slice aa na ca):=(zaa hF4).trans rfl
      have he5:w4.cell? ⟨wr.heap.size,5,none⟩=some (.slice none 0 0):=(zaa hF4).trans rfl
      have he6:w4.cell? ⟨wr.heap.size,6,none⟩=some (.int .i64 p.1):=(zaa hF4).trans rfl
      have hz4:w4.frozen? ⟨wr.heap.size,5,none⟩=false:=zab hF4
      have hcn4:∀ j,j<w2.heap.size->j≠wr.heap.size->(w4.setCell ⟨wr.heap.size,5,none⟩ (.slice ab nb cb)).heap[j]?=w2.heap[j]?:=fun j hj hne=>by rw [Below.heap_setCell _ _ _ _ (by exact hne),hb4.block j hj,Below.heap_setCell _ _ _ _ (by exact hne)]
      have HTA:Hid (TreeAt t (w4.setCell ⟨wr.heap.size,5,none⟩ (.slice ab nb cb)) (fun k=>wr.heap.size+1<=k/\k<w4.heap.size) d (.slice aa na ca) x.2.1):=TreeAt.mono (fun j hj=>⟨hj.1,by omega⟩) d _ _ (TreeAt.keep (fun j hj=>hcn4 j hj.2 (by omega)) d _ _ (TreeAt.bound d _ _ HT.out))
      have HTB:Hid (TreeAt t (w4.setCell ⟨wr.heap.size,5,none⟩ (.slice ab nb cb)) (fun k=>wr.heap.size+1<=k/\k<w4.heap.size) d (.slice ab nb cb) x.2.2):=TreeAt.mono (fun j hj=>⟨by omega,hj.2⟩) d _ _ (htb.laid (by omega))
      have HBW4:Hid (Below wr.heap.size wr w4):=(HBW.out.setCell (p:=⟨wr.heap.size,4,none⟩) (Nat.le_refl _) _).trans (hb4.mono (by omega))
      have hown4:(w4.setCell ⟨wr.heap.size,5,none⟩ (.slice ab nb cb)).ownsRow 0 133 7 u3 xs.length (zbt t xs):=zaj hown (fun j hj=>by obtain ⟨cc,hcc⟩:=zad hown hj;have hjl:=zae hcc;rw [hcn4 j (by omega) (by omega)];exact HBW.out.block j hjl)
      clear htb hb4 hF4 hcn4 hb2' hown2 hf0 hf1 hf2 hf3 hf4 hf5 hf6
      go_wp2_with (at_builtin;refine za7 _ rfl (.tmp 161) (.tmp 163) 56 rfl 133 _ 7 96 Tryz.underlying56 Tryz.infoStmt rfl (by decide) (by decide) u3 _ _ w4.heap.size [.string sp,.int .i64 (zcx sr.data.toList),.int .i64 (zbx sz.data.toList),.int .i64 (zbx sq.data.toList),.slice aa na ca,.slice ab nb cb,.int .i64 p.1] (by rfl) (by exact hown4.alloc _) (by exact zaY _ _ _ (zaq _ _ _)) (by rfl) rfl (zd0 rfl rfl) (by omega) ?_)
      intro g cap2 w5 hown5 hgrow hat hlt5
      have HP:=HI.out.push (Y:=fun j=>wr.heap.size+1<=j/\j<w4.heap.size) (va:=.slice aa na ca) (vb:=.slice ab nb cb) (k':=k+4+(wa.length+1)+1+1+(wa2.length+1)+1) ((HBW4.out.setCell (p:=⟨wr.heap.size,5,none⟩) (Nat.le_refl _) _).alloc (by rw [zaq];omega) _) (by rw [HX.out];exact hown5) hgrow (by simpa using hat) (HTA.out.alloc _ (fun j hj=>by rw [zaq];exact hj.2)) (HTB.out.alloc _ (fun j hj=>by rw [zaq];exact hj.2)) (fun j hj=>by simp;omega) rfl rfl (by omega) (by omega) HG.out
      have HPH:=zHd HP
      clear HP hown5 hgrow hat hown4
      go_wp2_with fail
      go_roundw
      case rel=>exact ⟨k+4+(wa.length+1)+1+1+(wa2.length+1)+1,_,rem,_,by go_num,HPH.out⟩
      case measure=>simp [intOf];omega
    .obtain ⟨o,wa,cl,rfl,ho,hc,ha,hx2,hne⟩:∃ o wa c,wb=o::(wa++[c])/\zaf t o=zbV/\zaf t c=zbG/\GT t d wa x.2.1/\x.2.2=zcn d/\zdE t wr2 zdq:=by simpa using hblk
     obtain ⟨wt,rfl⟩:∃ wt,wt=wr2:=⟨_,rfl⟩
     simp only [List.nil_append,List.cons_append,List.append_assoc] at hu
     obtain ⟨c0,c0'⟩:=za3 hwr hu 0 p (by simp)
     simp only [Nat.add_zero] at c0 c0'
     obtain ⟨c1,_⟩:=za3 hwr hu 1 q (by simp)
     obtain ⟨sp,hsp⟩:∃ s,s=t.extract p.1 p.2:=⟨_,rfl⟩
     obtain ⟨sq,hsq⟩:∃ s,s=t.extract q.1 q.2:=⟨_,rfl⟩
     rw [<- hsp] at c0
     rw [<- hsq] at c1
     have hzp:sp.size<=400:=by rw [hsp];simp;omega
     have hzq:sq.size<=400:=by rw [hsq];simp;omega
     have n0:(sp.toList==[115,101,110,100])=false:=zas (by rw [hsp];show ¬ zaf t p=_;rw [hk];decide)
     have n1:(sp.toList==[119,97,105,116])=false:=zas (by rw [hsp];show ¬ zaf t p=_;rw [hk];decide)
     have n2:(sp.toList==[115,116,111,112])=false:=zas (by rw [hsp];show ¬ zaf t p=_;rw [hk];decide)
     have n3:(sp.toList==[97,115,107])=false:=zas (by rw [hsp];show ¬ zaf t p=_;rw [hk];decide)
     have n4:(sp.toList==[114,101,116,114,121])=false:=zas (by rw [hsp];show ¬ zaf t p=_;rw [hk];decide)
     have y0:(sp.toList==[114,101,112,101,97,116])=true:=zaO (by rw [hsp];exact hk)
     have hll:=congrArg List.length hu
     simp at hll
     have hbr:b<wr.heap.size:=by omega
     have HX:Hid (∀ va vb:Value,zbw t x.1 (va,vb)=[.string sp,.int .i64 (0),.int .i64 (zbx sq.data.toList),.int .i64 (0),va,vb,.int .i64 p.1]):=fun va vb=>by rw [hx,hsp,hsq];rfl
     have hd1:ws.drop (k+2)=o::(wa++cl::wt):=by have:=congrArg (List.drop 2) hu;simpa [List.drop_drop] using this
     have hsh:zdV t (ws.drop (k+2)) 0=some (wa.length+1):=by rw [hd1];exact zcO ho hc (GT.passes d _ _ ha)
     obtain ⟨co,_⟩:=za3 hwr hd1 0 o (by simp)
     simp only [Nat.add_zero] at co
     obtain ⟨so,hso⟩:∃ s,s=t.extract o.1 o.2:=⟨_,rfl⟩
     rw [<- hso] at co
     have yo:(so.toList==[123])=true:=zaO (by rw [hso];exact ho)
     have hd2:ws.drop (k+2+1)=wa++cl::wt:=by have:=congrArg (List.drop 1) hd1;simpa [List.drop_drop] using this
     have hwa:WordsAt t wr b (off+(k+2+1)*2) wa:=hwr.sub (k+2+1) wa.length wa (by rw [hd2];simp)
     have hl1:k+2+(wa.length+1)+1<=ws.length:=by have:=congrArg List.length hd2;simp at this;omega
     have hd3:ws.drop (k+2+(wa.length+1)+1)=wt:=by have:=congrArg (List.drop (wa.length+1)) hd2;rw [List.drop_drop] at this;rw [show k+2+(wa.length+1)+1=k+2+1+(wa.length+1) from by omega,this];simp
     have HA:=zHd ha
     have HSH:=zHd hsh
     have HWA:=zHd hwa
     have HWR:=zHd hwr
     have hnx:k+2+(wa.length+1)+1=ws.length\/(k+2+(wa.length+1)+1<ws.length/\∃ s:ByteArray,wr.cell? ⟨b,off+(k+2+(wa.length+1)+1)*2,none⟩=some (.string s)/\(s.toList==[101,108,115,101])=false):=zef hwr hd3 (by omega) hne
     have HG:Hid (GL t (GT t d) (zcn d) (ws.drop (k+2+(wa.length+1)+1)) rem):=by rw [hd3];exact hrest
     have HN:=zHd hx2
     clear hsp hsq hp hk hblk hx hws hwr hu hx2 hrest hd1 hd2 hd3 hne hll hsh hwa ha ho hc hso
     rcases hnx with hnx|⟨hnx,sn,hcn,hsn⟩
     all_goals
      go_wp2_with fail
      go_region
      go_wp2_with (first|(go_at_call 54;refine (zem _ _).mono ?_;rintro e w' ⟨rfl,rfl⟩)|(go_at_call 52;refine (zdy _ _ (by unfold maxLen;omega)).mono ?_;rintro e w' ⟨rfl,rfl⟩))
      refine (zes t b off cap ws _ _ (k+2) (wa.length+1) (by omega) hlen ?_ HSH.out).mono ?_
      .exact HWR.out.keep (Below.heap_alloc _ _ _ hbr)
      rintro e w' ⟨rfl,rfl⟩
      go_wp2_with fail
      refine (ih wa x.2.1 _ b (off+(k+2+1)*2) _ _ _ (by omega) HA.out (by omega) (by omega) ?_).mono ?_
      .intro _;exact ⟨rfl,by simp;omega,HWA.out.keep (Below.heap_alloc _ _ _ hbr)⟩
      rintro e w2 ⟨aa,na,ca,rfl,hta,hb2⟩
      have hwc:(wr.alloc (.cells #[.string sp,.int .i64 (0),.int .i64 (zbx sq.data.toList),.int .i64 (0),.slice none 0 0,.slice none 0 0,.int .i64 p.1] 133)).drew.heap.size=wr.heap.size+1:=by show (wr.alloc _).heap.size=_;simp
      rw [hwc] at hta hb2
      have hF2:w2.heap[wr.heap.size]?=some (.cells #[.string sp,.int .i64 (0),.int .i64 (zbx sq.data.toList),.int .i64 (0),.slice none 0 0,.slice none 0 0,.int .i64 p.1] 133 (0,0)):=(hb2.block _ (by omega)).trans (heap_alloc_new _ _)
      have hf0:w2.cell? ⟨wr.heap.size,0,none⟩=some (.string sp):=(zaa hF2).trans rfl
      have hf1:w2.cell? ⟨wr.heap.size,1,none⟩=some (.int .i64 (0)):=(zaa hF2).trans rfl
      have hf2:w2.cell? ⟨wr.heap.size,2,none⟩=some (.int .i64 (zbx sq.data.toList)):=(zaa hF2).trans rfl
      have hf3:w2.cell? ⟨wr.heap.size,3,none⟩=some (.int .i64 (0)):=(zaa hF2).trans rfl
      have hf4:w2.cell? ⟨wr.heap.size,4,none⟩=some (.slice none 0 0):=(zaa hF2).trans rfl
      have hf5:w2.cell? ⟨wr.heap.size,5,none⟩=some (.slice none 0 0):=(zaa hF2).trans rfl
      have hf6:w2.cell? ⟨wr.heap.size,6,none⟩=some (.int .i64 p.1):=(zaa hF2).trans rfl
      have hz2:w2.frozen? ⟨wr.heap.size,4,none⟩=false:=zab hF2
      have hs2:wr.heap.size+1<=w2.heap.size:=by have:=hb2.size;rw [hwc] at this;exact this
      have hcn2:∀ (s:ByteArray) (j:Nat),wr.cell? ⟨b,j,none⟩=some (.string s)->w2.cell? ⟨b,j,none⟩=some (.string s):=fun s j hj=>(hb2.cell (p:=⟨b,j,none⟩) (by show b < _;omega)).trans ((World.cell?_of_block (Below.heap_alloc _ _ _ hbr)).trans hj)
      have hbw:Below wr.heap.size wr w2:=(((Below.refl _ _).alloc (Nat.le_refl _) _).drew).trans (hb2.mono (by omega))
      have HBW:=zHd hbw
      have HT:=zHd hta
      have hown2:(w2.setCell ⟨wr.heap.size,4,none⟩ (.slice aa na ca)).ownsRow 0 133 7 u3 xs.length (zbt t xs):=zaj hown (fun j hj=>by obtain ⟨cc,hcc⟩:=zad hown hj;have hjl:=zae hcc;rw [Below.heap_setCell _ _ _ _ (by show j≠wr.heap.size;omega)];exact hbw.block j hjl)
      have HF2:=zHd hF2
      clear hta hb2 hF2 hbw hwc
      try (have hcm:=hcn2 _ _ hcn)
      clear hcn2
      go_wp2_with (at_builtin;refine za7 _ rfl (.tmp 161) (.tmp 163) 56 rfl 133 _ 7 96 Tryz.underlying56 Tryz.infoStmt rfl (by decide) (by decide) u3 _ _ w2.heap.size [.string sp,.int .i64 (0),.int .i64 (zbx sq.data.toList),.int .i64 (0),.slice aa na ca,.slice none 0 0,.int .i64 p.1] (by rfl) (by exact hown2.alloc _) (by exact zaY _ _ _ (zaq _ _ _)) (by rfl) rfl (zd0 rfl rfl) (by omega) ?_)
      intro g cap2 w3 hown3 hgrow hat hlt3
      have HP:=HI.out.push (Y:=fun j=>wr.heap.size+1<=j/\j<w2.heap.size) (va:=.slice aa na ca) (vb:=.slice none 0 0) (k':=k+2+(wa.length+1)+1) ((HBW.out.setCell (p:=⟨wr.heap.size,4,none⟩) (Nat.le_refl _) _).alloc (by rw [zaq];omega) _) (by rw [HX.out];exact hown3) hgrow (by simpa using hat) ((HT.out.laid (Nat.lt_succ_self _)).alloc _ (fun j hj=>by rw [zaq];exact hj.2)) (by rw [HN.out];exact TreeAt.nil _ _ _ _) (fun j hj=>by simp;omega) rfl rfl (by omega) (by omega) HG.out
      have HPH:=zHd HP
      clear HP hown3 hgrow hat hown2
      go_wp2_with fail
      go_roundw
      case rel=>exact ⟨k+2+(wa.length+1)+1,_,rem,_,by go_num,HPH.out⟩
      case measure=>simp [intOf];omega
  .obtain rfl:k=ws.length:=by have:=hinv.le;omega
   have hrem:rem=[]:=by
    have:=hinv.spelt
    cases rem with
    | nil=>rfl
    | cons x r=>
     rw [GL,List.drop_length] at this
     obtain ⟨wo,wb,wr2,f,hu,hh,_⟩:=this
     rcases hh with ⟨p,q,rfl,_⟩|⟨p,q,rfl,_⟩|⟨p,rfl,_⟩|⟨p,q,r,rfl,_⟩|⟨p,q,r,z,rfl,_⟩|⟨p,q,rfl,_⟩ <;> simp at hu
   subst hrem
   obtain ⟨aa,na,ca,hv⟩:∃ aa na ca,u3=.slice aa na ca:=by
    rcases hinv.own.2 with ⟨h1,_⟩|⟨g,c,cur,h1,_⟩
    .exact ⟨_,_,_,h1⟩
    .exact ⟨_,_,_,h1⟩
   have HI:=zHd hinv
   have HV:=zHd hv
   clear hinv hv
   go_wp2_with fail
   go_ret
   refine ⟨aa,na,ca,by rw [<- HV.out];rfl,?_,HI.out.bel⟩
   rw [<- HV.out]
   refine ⟨xs,HI.out.split.trans (List.append_nil _),HI.out.own,fun j hj=>(HI.out.new j hj).1,fun y hy=>?_,HI.out.one⟩
   have h1:=HI.out.subs y hy
   exact ⟨TreeAt.mono (fun j hj=>(HI.out.low j hj).1) d _ _ h1.1,TreeAt.mono (fun j hj=>(HI.out.low j hj).1) d _ _ h1.2⟩
open Go.RowKit Go.Proofs.Herald
set_option maxRecDepth 100000 in
theorem zlI (a:Option Addr)(cap:Nat)(w:World):
  Calls Tryz.prog 24 #[.slice a 0 cap] w fun e w'=>e=.returned (.slice none 0 0)/\w'=w:=by
 go_enter Tryz.func24,Tryz.ntmps24
 go_wp2_with fail
 go_loop [3,4] (fun v i=>v=.slice none 0 0/\i=.int .i64 0) (fun _ _=>0)
 case atStart=>exact ⟨rfl,rfl⟩
 case round=>
  obtain ⟨rfl,rfl⟩:=hrel
  go_wp2_with fail
  go_ret
  exact ⟨rfl,rfl⟩
theorem GT.empty {t:ByteArray}:∀ (d:Nat) (tr:Tree d),GT t d [] tr->tr=zcn d:=by
 intro d tr h
 cases d with
 | zero=>rfl
 | succ d=>
  cases tr with
  | nil=>rfl
  | cons x r=>
   change GL t (GT t d) (zcn d) [] (x::r) at h
   rw [GL] at h
   obtain ⟨wo,wb,wr2,f,hu,hh,_⟩:=h
   rcases hh with ⟨p,q,rfl,_⟩|⟨p,q,rfl,_⟩|⟨p,rfl,_⟩|⟨p,q,r,rfl,_⟩|⟨p,q,r,z,rfl,_⟩|⟨p,q,rfl,_⟩ <;> simp at hu
theorem ziX (t:ByteArray)(ht:t.size<=400)(d:Nat):ziW t d:=by
 have hempty:∀ (d:Nat) (tr:Tree d) (a:Option Addr) (cap:Nat) (w:World),GT t d [] tr ->
   Calls Tryz.prog 24 #[.slice a 0 cap] w fun e w'=>∃ aa na ca,e=.returned (.slice aa na ca)/\TreeAt t w' (fun k=>w.heap.size<=k) d (.slice aa na ca) tr/\Below w.heap.size w w':=by
  intro d tr a cap w hg
  rw [GT.empty d tr hg]
  refine (zlI a cap w).mono fun e w' h=>⟨none,0,0,h.1,TreeAt.nil _ _ _ _,?_⟩
  rw [h.2];exact Below.refl _ _
 induction d with
 | zero=>
  intro ws tr a b off cap n w hn hg _ _ _
  have hws:ws=[]:=hg
  subst hws
  subst hn
  exact hempty 0 tr a cap w hg
 | succ d ih=>
  intro ws tr a b off cap n w hn hg hlen hcap hws
  subst hn
  cases hc:ws with
  | nil=>rw [hc] at hg;exact hempty (d+1) tr a cap w hg
  | cons p r=>
   rw [<- hc]
   obtain ⟨rfl,hb,hwa⟩:=hws (by rw [hc];simp)
   exact zlJ t ht d ih ws tr b off cap w hg hlen hcap hb hwa
open Go.RowKit Go.Proofs.Herald
theorem zm9 (a:Option Addr)(cap:Nat)(w:World):
  Calls Tryz.prog 23 #[.slice a 0 cap] w fun e w'=>e=.returned (.int .i64 (-1))/\w'=w:=by
 go_enter Tryz.func23,Tryz.ntmps23
 go_wp2
 go_loop [3,4] (fun n i=>n=.int .i64 0/\i=.int .i64 0) (fun _ _=>0)
 case atStart=>exact ⟨rfl,rfl⟩
 case round=>
  obtain ⟨rfl,rfl⟩:=hrel
  go_wp2
  go_ret
  exact ⟨rfl,rfl⟩
theorem zk9 (t:ByteArray)(a:Option Addr)(b off cap n:Nat)(ws:List (Nat×Nat))(w:World)(hn:n=ws.length)(hlen:ws.length<=400)(hw:0<ws.length->a=some ⟨b,off,none⟩/\WordsAt t w b off ws):
  Calls Tryz.prog 23 #[.slice a n cap] w fun e w'=>e=.returned (.int .i64 (zdp t ws 0))/\w'=w:=by
 subst hn
 cases hc:ws with
 | nil=>exact zm9 a cap w
 | cons p r=>
  rw [<- hc]
  obtain ⟨rfl,h⟩:=hw (by rw [hc];simp)
  exact zor t b off cap ws w hlen h
theorem zhq (t:ByteArray)(ht:400<t.size)(w:World):
  Calls Tryz.prog 6 #[.string t] w fun e w'=>e=.returned (.tuple #[.int .i64 0,.int .i64 1,.int .i64 0])/\w'=w:=by
 go_enter Tryz.func6,Tryz.ntmps6
 go_wp2_with fail
 go_ret3
 exact ⟨rfl,rfl⟩
theorem zie (t:ByteArray)(ht:t.size<=400)(r:Int×Int×Int)(hr:zmM t r)(w:World):
  Calls Tryz.prog 6 #[.string t] w fun e w'=>e=.returned (.tuple #[.int .i64 r.1,.int .i64 r.2.1,.int .i64 r.2.2])/\Below w.heap.size w w':=by
 have hwl:(za2 t.data.toList).length<=400:=by
  have h2:=zbr t.data.toList
  have h3:t.data.toList.length=t.size:=by simp
  omega
 rcases hr with ⟨f,p,hf,hne,rfl⟩|⟨p,hf,hd,hp,rfl⟩|⟨tr,hf,hd,hgt,hgood,hsz,hr⟩
 .have HF:Hid (∀ W:World,Calls Tryz.prog 21 #[.string t] W fun e w'=>e=.returned (.tuple #[.int .i64 f,.int .i64 p])/\Below W.heap.size W w'):=fun W=>by
   have:=zgm t W ht
   rw [hf] at this
   exact this
  have e0:(f==0)=false:=by simpa using hne
  have e1:(f != 0)=true:=by simpa using hne
  clear hf hne hwl
  go_enter Tryz.func6,Tryz.ntmps6
  go_wp2_with fail
  refine (HF.out _).mono ?_
  rintro e w1 ⟨rfl,hb1⟩
  go_wp2_with fail
  go_ret3
  exact ⟨rfl,hb1⟩
 .have HF:Hid (∀ W:World,Calls Tryz.prog 21 #[.string t] W fun e w'=>e=.returned (.tuple #[.int .i64 0,.int .i64 0])/\Below W.heap.size W w'):=fun W=>by
   have:=zgm t W ht
   rw [hf] at this
   exact this
  have HD:=zHd hd
  clear hf hd
  go_enter Tryz.func6,Tryz.ntmps6
  go_wp2_with fail
  refine (HF.out _).mono ?_
  rintro e w1 ⟨rfl,hb1⟩
  go_wp2_with fail
  refine (zgG t _ ht).mono ?_
  rintro e w2 ⟨a,cap,L,rfl,hcap,hws,hb2⟩
  generalize za2 t.data.toList=ws at *
  have HDE:Hid (Calls Tryz.prog 23 #[.slice a ws.length cap] w2 fun e w'=>e=.returned (.int .i64 p)/\w'=w2):=by
   have:=zk9 t a L 0 cap ws.length ws w2 rfl hwl (fun h=>⟨(hws h).1,(hws h).2.2.2⟩)
   rw [HD.out] at this
   exact this
  have HB:Hid (Below w.heap.size w w2):=hb1.trans (hb2.mono hb1.size)
  clear hws hb1 hb2 hwl hcap HD
  go_wp2_with (go_at_call 23;refine HDE.out.mono ?_;rintro e w' ⟨rfl,rfl⟩)
  go_ret3
  exact ⟨rfl,HB.out⟩
 .have HF:Hid (∀ W:World,Calls Tryz.prog 21 #[.string t] W fun e w'=>e=.returned (.tuple #[.int .i64 0,.int .i64 0])/\Below W.heap.size W w'):=fun W=>by
   have:=zgm t W ht
   rw [hf] at this
   exact this
  have HD:=zHd hd
  have HG:=zHd hgt
  have HOK:Hid (OkT t 5 tr/\GoodT t 5 tr):=⟨GoodT.ok 5 tr hgood,hgood⟩
  clear hf hd hgt hgood
  go_enter Tryz.func6,Tryz.ntmps6
  go_wp2_with fail
  refine (HF.out _).mono ?_
  rintro e w1 ⟨rfl,hb1⟩
  go_wp2_with fail
  refine (zgG t _ ht).mono ?_
  rintro e w2 ⟨a,cap,L,rfl,hcap,hws,hb2⟩
  generalize za2 t.data.toList=ws at *
  have HDE:Hid (Calls Tryz.prog 23 #[.slice a ws.length cap] w2 fun e w'=>e=.returned (.int .i64 (-1))/\w'=w2):=by
   have:=zk9 t a L 0 cap ws.length ws w2 rfl hwl (fun h=>⟨(hws h).1,(hws h).2.2.2⟩)
   rw [HD.out] at this
   exact this
  have HBL:Hid (Calls Tryz.prog 24 #[.slice a ws.length cap] w2 fun e w'=>∃ aa na ca,e=.returned (.slice aa na ca)/\TreeAt t w' (fun k=>w2.heap.size<=k) 5 (.slice aa na ca) tr/\Below w2.heap.size w2 w'):=
   ziX t ht 5 ws tr a L 0 cap ws.length w2 rfl HG.out hwl hcap (fun h=>⟨(hws h).1,(hws h).2.2.1,(hws h).2.2.2⟩)
  have HB:Hid (Below w.heap.size w w2):=hb1.trans (hb2.mono hb1.size)
  clear hws hb1 hb2 hwl hcap HD
  go_wp2_with (go_at_call 23;refine HDE.out.mono ?_;rintro e w' ⟨rfl,rfl⟩)
  refine HBL.out.mono ?_
  rintro e w3 ⟨aa,na,ca,rfl,htr,hb3⟩
  have HH:Hid (Calls Tryz.prog 25 #[.slice aa na ca,.int .i64 1] w3 fun e w'=>e=.returned (.int .i64 (zce t 5 tr 1))/\w'=w3):=znm t 5 _ tr 1 _ w3 htr HOK.out.1 hsz (by omega) (by omega)
  have HL:Hid (Calls Tryz.prog 26 #[.slice aa na ca] w3 fun e w'=>e=.returned (.tuple #[.int .i64 (zay t 5 tr).1,.int .i64 (zay t 5 tr).2])/\Below w3.heap.size w3 w'):=zmJ t 5 _ tr _ w3 htr HOK.out.1 hsz (by omega)
  have HB3:Hid (Below w.heap.size w w3):=HB.out.trans (hb3.mono HB.out.size)
  clear htr hb3 HDE HBL HB
  generalize (zay t 5 tr).1=A at *
  generalize (zay t 5 tr).2=C at *
  generalize zce t 5 tr 1=P at *
  rcases hr with ⟨p,rfl,hp,rfl⟩|⟨rfl,hl,rfl⟩|⟨rfl,hl,rfl⟩
  .go_wp2_with (go_at_call 25;refine HH.out.mono ?_;rintro e w' ⟨rfl,rfl⟩)
   go_ret3
   exact ⟨rfl,HB3.out⟩
  .go_wp2_with (go_at_call 25;refine HH.out.mono ?_;rintro e w' ⟨rfl,rfl⟩)
   refine HL.out.mono ?_
   rintro e w4 ⟨rfl,hb4⟩
   have HB4:Hid (Below w.heap.size w w4):=HB3.out.trans (hb4.mono HB3.out.size)
   clear hb4
   go_wp2_with (go_at_call 27;refine (zdK _ _ _).mono ?_;rintro e w' ⟨rfl,rfl⟩)
   go_ret3
   exact ⟨rfl,HB4.out⟩
  .go_wp2_with (go_at_call 25;refine HH.out.mono ?_;rintro e w' ⟨rfl,rfl⟩)
   refine HL.out.mono ?_
   rintro e w4 ⟨rfl,hb4⟩
   have HB4:Hid (Below w.heap.size w w4):=HB3.out.trans (hb4.mono HB3.out.size)
   clear hb4
   go_wp2_with (go_at_call 27;refine (zdK _ _ _).mono ?_;rintro e w' ⟨rfl,rfl⟩)
   go_ret3
   exact ⟨rfl,HB4.out⟩
end Go.Proofs.YtmmmnghiegajmaaGreat
