/- Proved: adzeref's address. Conditions: the Scan lies in memory as 'Scn' says. -/
import Derived.Test.YtbiobhghnldckaaGreatDoorS18
import Derived.Test.YtbiobhghnldckaaGreatDoorS11
namespace Go.Proofs.YtbiobhghnldckaaGreatDoor
set_option linter.unusedVariables false
set_option maxRecDepth 100000
set_option maxHeartbeats 6400000
section
open Go.RowKit
attribute [local go_sem ↓] Go.wp_at_zero Go.wp_at_succ
theorem dF (w:World) (b:Nat) (v0 v1 v2 v3:Value):ae (fun x=>b≤x) w ((((w.setCell ⟨b,0,none⟩ v0).setCell ⟨b,1,none⟩ v1).setCell ⟨b,2,none⟩ v2).setCell ⟨b,3,none⟩ v3):=
 ae.setCell (p:=⟨b,3,none⟩) (ae.setCell (p:=⟨b,2,none⟩) (ae.setCell (p:=⟨b,1,none⟩) (ae.setCell (p:=⟨b,0,none⟩) (ae.refl _ w) (fun _=>Nat.le_refl _) _) (fun _=>Nat.le_refl _) _) (fun _=>Nat.le_refl _) _) (fun _=>Nat.le_refl _) _
def Jp (k:Int) (v:Value):Prop:=∃n ia il ic gr,v=.agg #[.int .u8 k,.int .i64 n,.slice ia il ic,.int .i64 gr]
theorem fJ (g:SG) (w:World) (s:SS) (h:Scn g w s):
 Calls Tryz.prog 82 #[.pointer (some ⟨g.x,0,none⟩)] w fun e w'=>∃v,e=.returned v∧Jp (Rf.address g.L g.pl s).1 v∧Scn g w' (Rf.address g.L g.pl s).2∧ae (·=g.x) w w':=by
 have hle:=h.le;have dy:=h.small;obtain⟨lx,ll,lp⟩:=h.lts;obtain⟨w0,nW⟩:∃w0,w0=w.alloc (.cells #[.int .u8 0,.int .i64 0,.slice none 0 0,.int .i64 0] 85):=⟨_,rfl⟩;have o0:ae (·=g.x) w w0:=by rw[nW];exact(ae.refl _ w).alloc _
 have ze:ai w0 w.heap.size [.int .u8 0,.int .i64 0,.slice none 0 0,.int .i64 0]:=by rw[nW];exact ai.new w _ _
 have h0:Scn g w0 s:=h.keeps (by rw[nW];exact(ae.refl (fun _=>False) w).alloc _) id (fun _=>id) id;have dr:w.heap.size<w0.heap.size:=by rw[nW];simp
 unfold Rf.address;by_cases hd:Adz.isDigit (Rf.now g.L s)=true
 ·rw[if_pos hd]
  have du:=bR g w0 s h0;rw[hd] at du;have dx:=fun n=>jP g (w0.drewN n) s (h0.drewN n);generalize (Rf.number g.L g.pl s).1=nn at*
  generalize (Rf.number g.L g.pl s).2=s1 at*
  have HN:Hid _:=dx;clear dx hd;rw[nW] at du;go_enter Tryz.func82,Tryz.ntmps82;go_wp2_with fail;refine du.mono ?_;rintro e w1 ⟨rfl,n1,rfl⟩;rw[←nW];clear nW;go_wp2_with fail;refine(HN.out _).mono ?_;rintro e w2 ⟨rfl,h2,o2⟩;have jB:=ze.keeps (((ae.refl (·=g.x) w0).drewN n1).trans o2 (fun _ e=>e) (fun _ _ e=>e)) (by omega);have v0:=jB 0 _ rfl;have v1:=jB 1 _ rfl;have v2:=jB 2 _ rfl;have v3:=jB 3 _ rfl;clear jB ze;go_wp2;refine bodyPost_ret (v:=.agg #[.int .u8 110,.int .i64 nn,.slice none 0 0,.int .i64 0]) (by simp[results,Tryz.results82,go_sem,v0,v1,v2,v3]) rfl ⟨_,rfl,⟨_,_,_,_,_,rfl⟩,Scn.high h2 w.heap.size lx ll lp (dF _ _ _ _ _ _),?_⟩;exact((o0.drewN n1).trans o2 (fun _ e=>e) (fun _ _ e=>e):ae (·=g.x) w w2).trans (dF _ _ _ _ _ _) (fun _ e=>e) (fun b hb e=>absurd e (by omega))
 ·rw[if_neg hd]
  have qu:Adz.isDigit (Rf.now g.L s)=false:=by simpa using hd
  have du:=bR g w0 s h0;rw[qu,nW] at du;have mq:=fun n=>aQ g (w0.drewN n) s (h0.drewN n) 36 (by decide);unfold Rf.take at mq;clear hd qu;by_cases oR:Rf.now g.L s=36
  ·simp only[if_pos oR] at mq ⊢
   have HT:Hid _:=mq;clear mq oR;go_enter Tryz.func82,Tryz.ntmps82;go_wp2_with fail;refine du.mono ?_;rintro e w1 ⟨rfl,n1,rfl⟩;rw[←nW];clear nW;go_wp2_with fail;refine(HT.out _).mono ?_;rintro e w2 ⟨rfl,h2,o2⟩;have jB:=ze.keeps (((ae.refl (·=g.x) w0).drewN n1).trans o2 (fun _ e=>e) (fun _ _ e=>e)) (by omega);have v0:=jB 0 _ rfl;have v1:=jB 1 _ rfl;have v2:=jB 2 _ rfl;have v3:=jB 3 _ rfl;clear jB ze;go_wp2;refine bodyPost_ret (v:=.agg #[.int .u8 36,.int .i64 0,.slice none 0 0,.int .i64 0]) (by simp[results,Tryz.results82,go_sem,v0,v1,v2,v3]) rfl ⟨_,rfl,⟨_,_,_,_,_,rfl⟩,Scn.high h2 w.heap.size lx ll lp (dF _ _ _ _ _ _),?_⟩;exact((o0.drewN n1).trans o2 (fun _ e=>e) (fun _ _ e=>e):ae (·=g.x) w w2).trans (dF _ _ _ _ _ _) (fun _ e=>e) (fun b hb e=>absurd e (by omega))
  ·simp only[if_neg oR] at mq ⊢
   have HT:Hid _:=mq;have nU:=fun W (hW:Scn g W s)=>aQ g W s hW 47 (by decide);unfold Rf.take at nU;clear mq oR;by_cases bK:Rf.now g.L s=47
   ·simp only[if_pos bK] at nU ⊢
    have M8:Hid _:=nU;have jD:=fun W (hW:Scn g W {s with i:=s.i+1})=>jg g W _ hW;generalize Rf.pat g.L g.pl {s with i:=s.i+1}=TP at*
    have HP:Hid _:=jD;clear nU bK jD;go_enter Tryz.func82,Tryz.ntmps82;go_wp2_with fail;refine du.mono ?_;rintro e w1 ⟨rfl,n1,rfl⟩;rw[←nW];clear nW;go_wp2_with fail;refine(HT.out _).mono ?_;rintro e w2 ⟨rfl,h2,o2⟩;go_wp2_with fail;refine(M8.out _ h2).mono ?_;rintro e w3 ⟨rfl,h3,o3⟩;go_wp2_with fail;refine(HP.out _ h3).mono ?_;rintro e w4 ⟨ia,il,ic,rfl,h4,o4⟩;have oz:ae (·=g.x) w0 w4:=((ae.refl (·=g.x) w0).drewN n1).trans (aW o2 (aW o3 o4)) (fun _ e=>e) (fun _ _ e=>e);have jB:=ze.keeps oz (by omega);have v0:=jB 0 _ rfl;have v1:=jB 1 _ rfl;have v2:=jB 2 _ rfl;have v3:=jB 3 _ rfl;have Pe:=oz.size;have zu:w.heap.size<w4.heap.size:=by omega
    clear jB ze;go_wp2;refine bodyPost_ret (v:=.agg #[.int .u8 47,.int .i64 0,.slice ia il ic,.int .i64 (TP.groups:Int)]) (by simp[results,Tryz.results82,go_sem,v0,v1,v2,v3,zu]) rfl ?_;refine⟨_,rfl,⟨_,_,_,_,_,rfl⟩,Scn.high h4 w.heap.size lx ll lp ((dF _ _ _ _ _ _).alloc _),?_⟩;exact(aW o0 oz).trans ((dF _ _ _ _ _ _).alloc _) (fun _ e=>e) (fun b hb e=>absurd e (by omega))
   ·simp only[if_neg bK] at nU ⊢
    have M8:Hid _:=nU;clear nU bK;go_enter Tryz.func82,Tryz.ntmps82;go_wp2_with fail;refine du.mono ?_;rintro e w1 ⟨rfl,n1,rfl⟩;rw[←nW];clear nW;go_wp2_with fail;refine(HT.out _).mono ?_;rintro e w2 ⟨rfl,h2,o2⟩;go_wp2_with fail;refine(M8.out _ h2).mono ?_;rintro e w3 ⟨rfl,h3,o3⟩;have oz:ae (·=g.x) w0 w3:=((ae.refl (·=g.x) w0).drewN n1).trans (aW o2 o3) (fun _ e=>e) (fun _ _ e=>e);have jB:=ze.keeps oz (by omega);have v0:=jB 0 _ rfl;have v1:=jB 1 _ rfl;have v2:=jB 2 _ rfl;have v3:=jB 3 _ rfl;clear jB ze;go_wp2;refine bodyPost_ret (v:=.agg #[.int .u8 0,.int .i64 0,.slice none 0 0,.int .i64 0]) (by simp[results,Tryz.results82,go_sem,v0,v1,v2,v3]) rfl ⟨_,rfl,⟨_,_,_,_,_,rfl⟩,Scn.high h3 w.heap.size lx ll lp (dF _ _ _ _ _ _),?_⟩;exact(aW o0 oz).trans (dF _ _ _ _ _ _) (fun _ e=>e) (fun b hb e=>absurd e (by omega))
theorem wt:bytesOf ⟨#[47,92,38]⟩=Adz.replSpecial:=by decide
theorem wB:bytesOf ⟨#[47,92]⟩=Adz.sideSpecial:=by decide
structure LsS (g:SG) (w wr:World) (s:SS) (v:Value) (l:List Int):Prop where
 scn:Scn g wr s
 row:wr.ownsRow w.heap.size 3 1 v l.length (l.map (.int .i64))
 o:ae (·=g.x) w wr
theorem LsS.moved {g:SG}{w wr w':World}{s s':SS}{v:Value}{l:List Int} (h:LsS g w wr s v l) (lx:g.x<w.heap.size) (hs:Scn g w' s') (o:ae (·=g.x) wr w'):LsS g w w' s' v l:=
 ⟨hs,ag h.row o (fun b hb e=>by have:=(h.row.lt b hb).1;omega),aW h.o o⟩
theorem LsS.more {g:SG}{w wr w4:World}{s:SS}{v v':Value}{l:List Int} (h:LsS g w wr s v l) (lx:g.x<w.heap.size) (ll:g.L≠ []→g.lb<w.heap.size) (lp:g.pb<w.heap.size) (c:Int) (oA:ae (fun b=>v.ownBlock=some b) wr w4) (cz:w4.ownsRow w.heap.size 3 1 v' (l.length+1) (l.map (.int .i64)++ [.int .i64 c])):LsS g w w4 s v' (l++ [c]):=by
 have hb:∀b,v.ownBlock=some b→w.heap.size≤b:=fun b e=>(h.row.lt b e).1;refine⟨h.scn.keeps oA (fun e=>by have:=hb _ e;omega) (fun e1 e=>by have:=hb _ e;have:=ll e1;omega) (fun e=>by have:=hb _ e;omega),by rw[List.length_append,List.map_append];exact cz,h.o.trans oA (fun _ e=>e) (fun b dt e=>by have:=hb _ e;omega)⟩
theorem vn (g:SG) (w:World) (s:SS) (h:Scn g w s) (gr:Nat) (zk:gr≤1000):
 Calls Tryz.prog 111 #[.pointer (some ⟨g.x,0,none⟩),.int .i64 (gr:Int)] w fun e w'=>∃a n c,e=.returned (.slice a n c)∧Scn g w' (Rf.replacement g.L g.pl gr (g.L.length+1) s)∧ae (·=g.x) w w':=by
 have eN:=h.le;have dy:=h.small;obtain⟨T,hT⟩:∃T,Rf.replacement g.L g.pl gr (g.L.length+1) s=T:=⟨_,rfl⟩;rw[hT];obtain⟨lx,ll,lp⟩:=h.lts;have HT:Hid _:=hT;obtain⟨i0,dZ,nj,nk,ns⟩:=info_parts eY;clear hT;go_enter Tryz.func111,Tryz.ntmps111;go_wp2_with fail
 go_loopg [5] (g.L.length+1) (fun k v wr=>∃(sj:SS) (l:List Int) (m:Nat) (a5:Option Addr) (c5:Nat),v=.slice a5 l.length c5∧Hid (LsS g w wr sj (.slice a5 l.length c5) l)∧Hid ((sj.e=0→g.L.length<m+sj.i∧g.L.length+1≤sj.i+k∧l.length≤sj.i)∧Rf.replacement g.L g.pl gr m sj=T))
 case atStart=>exact ⟨s,[],g.L.length+1,none,0,rfl,⟨h,World.ownsRow_nil _ _ _ _,ae.refl _ _⟩,⟨fun e=>⟨by omega,by omega,Nat.zero_le _⟩,HT.out⟩⟩
 case round=>
  obtain⟨sj,l,m,yi,yk,rfl,HP,HI⟩:=hrel;have P:=HP.out;obtain⟨lD,au⟩:=HI.out;have cU:=P.scn;obtain⟨la,pc,k1,k2⟩:=cU.cells;have ce:=(k1 3 _ rfl).1;have c2:=(k1 2 _ rfl).1;clear k1 k2 HP HI HT;by_cases he:sj.e=0
  ·obtain⟨wO,vN,qZ⟩:=lD he
   have gU:=cU.le;obtain⟨m,rfl⟩:∃m',m=m'+1:=⟨m - 1,by omega⟩;unfold Rf.replacement at au;rw[if_pos he] at au;have b0:(sj.e==0)=true:=by simpa using he
   have HQ:Hid (1≤gk∧g.L.length<m+1+sj.i∧g.L.length+1≤sj.i+gk∧l.length≤sj.i∧sj.i≤500):=⟨by omega,wO,vN,qZ,by omega⟩;have cy:=Rf.rstep_adv g.L g.pl gr sj;have dR:=aQ g wr sj cU 47 (by decide);unfold Rf.take at dR;clear lD wO vN qZ he cU;by_cases bK:Rf.now g.L sj=47
   ·rw[if_pos bK] at au dR
    subst au;clear bK cy;go_wp2_with fail;refine dR.mono ?_;rintro e w1 ⟨rfl,h1,o1⟩;have P1:=P.moved lx h1 o1;have o9:=P1.o;clear P P1;go_wp2;go_ret
    first | exact⟨_,_,_,rfl,h1,o9⟩ | exact⟨⟨_,_,_,rfl⟩,h1,o9⟩
   ·rw[if_neg bK] at au dR
    clear bK;unfold Rf.rstep at au cy;simp only at au cy;have eP:=fun w1 (h1:Scn g w1 sj)=>ef g w1 sj h1;generalize (Rf.next g.L g.pl sj).1=r at*
    generalize (Rf.next g.L g.pl sj).2=sN at*
    by_cases dQ:r=10
    ·subst dQ
     simp only[if_true,show ¬((10:Int)=38) by decide,show ¬((10:Int)=92) by decide,if_false,false_and] at au cy;have bG:Hid _:=au;have fY:Hid _:=cy;have vM:Hid _:=eP;clear au cy eP;go_wp2_with fail;refine dR.mono ?_;rintro e w1 ⟨rfl,h1,o1⟩;have P1:=P.moved lx h1 o1;go_wp2_with fail;refine(vM.out _ h1).mono ?_;rintro e w2 ⟨rfl,h2,o2⟩;have P2:=P1.moved lx h2 o2;go_wp2_with fail;refine(aB g _ _ h2 3 sj.i gU).mono ?_;rintro e w3 ⟨rfl,h3,o3⟩;have P3:=P2.moved lx h3 o3;have du:=bR g w3 _ h3;generalize Adz.isDigit (Rf.now g.L (Rf.no g.pl sN 3 sj.i))=dd at*
     go_wp2_with fail;refine du.mono ?_;rintro e wd ⟨rfl,nd,rfl⟩;have P:LsS g w (w3.drewN nd) _ _ l:=P3.moved lx (h3.drewN nd) ((ae.refl _ _).drewN nd);clear P1 P2 P3 h1 o1 h2 o2 h3 o3 du;go_upto_region 11 with (fail)
     generalize w3.drewN nd=wv at*
     have aO:(wv.alloc (.cells #[.int .i64 (10)] 3)).heap.size=wv.heap.size+1:=by simp
     have oa:ae (fun _=>False) wv (wv.alloc (.cells #[.int .i64 (10)] 3)):=(ae.refl _ wv).alloc _;have cq:=ag P.row oa (fun _ _=>id);have kH:=P.o.size;have tC:l.length≤501:=by have:=HQ.out;omega
     go_wp2_with (at_builtin;refine wpList_append_lies _ (by rfl) _ _ _ (by rfl) w.heap.size 3 i0 _ 1 8 Tryz.underlying35 dZ nj nk ns rfl (by omega) (.slice yi l.length yk) l.length (l.map (.int .i64)) (by rfl) cq ⟨wv.heap.size,0,none⟩ 1 1 [.int .i64 (10)] (by rfl) (by rfl) (World.news_of_block (cs:= #[.int .i64 (10)]) (t:=3) (fr:=(0,0)) (heap_alloc_new _ _)) (by simp[Value.oneCell']) (by omega) (by unfold maxLen;omega) (by omega) (by rw[aO];omega) (wv.heap.size+1) aO ?_;intro g2 aT w4 ay ao bH dM);have Pn:=P.more lx ll lp (10) (oa.trans (ae.of_grown ao) (fun _ e=>e.elim) (fun _ _ e=>e)) ay;go_roundg (gk - 1)
     case measure=>have:=HQ.out.1;omega
     case rel=>exact ⟨Rf.no g.pl sN 3 sj.i,l++ [10],m,_,_,by rw[List.length_append];rfl,by rw[List.length_append];exact Pn,⟨fun e=>by
      have h9:sj.i<(Rf.no g.pl sN 3 sj.i:SS).i:=(fY.out e).2;have h8:=HQ.out;rw[List.length_append];exact⟨by omega,by omega,by show l.length+1≤_;omega⟩,bG.out⟩⟩
    ·have CI:(r==10)=false:=by simpa using dQ
     simp only[if_neg dQ] at au cy;have vM:Hid _:=eP;clear eP;by_cases CL:r=38
     ·subst CL
      simp only[if_true] at au cy;have bG:Hid _:=au;have fY:Hid _:=cy;clear au cy dQ CI;go_wp2_with fail;refine dR.mono ?_;rintro e w1 ⟨rfl,h1,o1⟩;have P1:=P.moved lx h1 o1;go_wp2_with fail;refine(vM.out _ h1).mono ?_;rintro e w2 ⟨rfl,h2,o2⟩;have P2:=P1.moved lx h2 o2;have du:=bR g w2 _ h2;generalize Adz.isDigit (Rf.now g.L sN)=dd at*
      go_wp2_with fail;refine du.mono ?_;rintro e wd ⟨rfl,nd,rfl⟩;have P:LsS g w (w2.drewN nd) _ _ l:=P2.moved lx (h2.drewN nd) ((ae.refl _ _).drewN nd);clear P1 P2 h1 o1 h2 o2 du;go_upto_region 13 with (fail)
      generalize w2.drewN nd=wv at*
      have aO:(wv.alloc (.cells #[.int .i64 (-1)] 3)).heap.size=wv.heap.size+1:=by simp
      have oa:ae (fun _=>False) wv (wv.alloc (.cells #[.int .i64 (-1)] 3)):=(ae.refl _ wv).alloc _;have cq:=ag P.row oa (fun _ _=>id);have kH:=P.o.size;have tC:l.length≤501:=by have:=HQ.out;omega
      go_wp2_with (at_builtin;refine wpList_append_lies _ (by rfl) _ _ _ (by rfl) w.heap.size 3 i0 _ 1 8 Tryz.underlying35 dZ nj nk ns rfl (by omega) (.slice yi l.length yk) l.length (l.map (.int .i64)) (by rfl) cq ⟨wv.heap.size,0,none⟩ 1 1 [.int .i64 (-1)] (by rfl) (by rfl) (World.news_of_block (cs:= #[.int .i64 (-1)]) (t:=3) (fr:=(0,0)) (heap_alloc_new _ _)) (by simp[Value.oneCell']) (by omega) (by unfold maxLen;omega) (by omega) (by rw[aO];omega) (wv.heap.size+1) aO ?_;intro g2 aT w4 ay ao bH dM);have Pn:=P.more lx ll lp (-1) (oa.trans (ae.of_grown ao) (fun _ e=>e.elim) (fun _ _ e=>e)) ay;go_roundg (gk - 1)
      case measure=>have:=HQ.out.1;omega
      case rel=>exact ⟨sN,l++ [-1],m,_,_,by rw[List.length_append];rfl,by rw[List.length_append];exact Pn,⟨fun e=>by
       have h9:sj.i<(sN:SS).i:=(fY.out e).2;have h8:=HQ.out;rw[List.length_append];exact⟨by omega,by omega,by show l.length+1≤_;omega⟩,bG.out⟩⟩
     ·have Mb:(r==38)=false:=by simpa using CL
      simp only[if_neg CL] at au cy;by_cases kZ:r=92
      ·subst kZ
       simp only[true_and,if_true] at au cy;clear dQ CL CI Mb;by_cases hd:Adz.isDigit (Rf.now g.L sN)=true∧Rf.now g.L sN≠48
       ·-- a group
        rw[if_pos hd] at au cy;have DH:=hd.1;have Hk:=Adz.digit_range DH;have wU:=Hk.1;have DZ:=Hk.2;have Tq:(Rf.now g.L sN==48)=false:=by simpa using hd.2
        have Tr:(Rf.now g.L sN !=48)=true:=by unfold bne;rw[Tq];rfl
        have dK:=fun W (hW:Scn g W sN)=>az g W _ hW;have Hc:=fun W (hW:Scn g W sN)=>ef g W _ hW;have KO:¬Rf.now g.L sN<0:=by omega
        simp only[Rf.next,if_neg KO] at Hc;have HD:Hid _:=DH;clear hd Hk KO DH;generalize CY:Rf.now g.L sN=rn at*
        have Qq:Hid _:=CY;have CF:Hid _:=dK;have IE:Hid _:=Hc;clear CY dK Hc;by_cases DK:(gr:Int)<rn - 48
        ·rw[if_pos DK] at au cy
         have bG:Hid _:=au;have fY:Hid _:=cy;clear au cy;go_wp2_with fail;refine dR.mono ?_;rintro e w1 ⟨rfl,h1,o1⟩;have P1:=P.moved lx h1 o1;go_wp2_with fail;refine(vM.out _ h1).mono ?_;rintro e w2 ⟨rfl,h2,o2⟩;have P2:=P1.moved lx h2 o2;have du:=bR g w2 _ h2;rw[Qq.out,HD.out] at du;go_wp2_with fail;refine du.mono ?_;rintro e wd ⟨rfl,nd,rfl⟩;have P:LsS g w (w2.drewN nd) _ _ l:=P2.moved lx (h2.drewN nd) ((ae.refl _ _).drewN nd);clear P1 P2 h1 o1 h2 o2 du;go_wp2_with fail;refine(CF.out _ P.scn).mono ?_;rintro e wx ⟨rfl,nx,rfl⟩;have P4:LsS g w (w2.drewN (nd+nx)) sN (.slice yi l.length yk) l:=by rw[←World.drewN_drewN];exact P.moved lx (P.scn.drewN nx) ((ae.refl _ _).drewN nx)
         go_wp2_with fail;refine(IE.out _ P4.scn).mono ?_;rintro e w5 ⟨rfl,h5,o5⟩;have P5:=P4.moved lx h5 o5;clear P P4;go_wp2_with fail;refine(aB g _ _ h5 8 sj.i gU).mono ?_;rintro e w6 ⟨rfl,h6,o6⟩;have P:=P5.moved lx h6 o6;clear P5 h5 o5 h6 o6;go_upto_region 18 with (fail)
         have aO:(w6.alloc (.cells #[.int .i64 (-1 - (rn - 48))] 3)).heap.size=w6.heap.size+1:=by simp
         have oa:ae (fun _=>False) w6 (w6.alloc (.cells #[.int .i64 (-1 - (rn - 48))] 3)):=(ae.refl _ w6).alloc _;have cq:=ag P.row oa (fun _ _=>id);have kH:=P.o.size;have tC:l.length≤501:=by have:=HQ.out;omega
         go_wp2_with (at_builtin;refine wpList_append_lies _ (by rfl) _ _ _ (by rfl) w.heap.size 3 i0 _ 1 8 Tryz.underlying35 dZ nj nk ns rfl (by omega) (.slice yi l.length yk) l.length (l.map (.int .i64)) (by rfl) cq ⟨w6.heap.size,0,none⟩ 1 1 [.int .i64 (-1 - (rn - 48))] (by rfl) (by rfl) (World.news_of_block (cs:= #[.int .i64 (-1 - (rn - 48))]) (t:=3) (fr:=(0,0)) (heap_alloc_new _ _)) (by simp[Value.oneCell']) (by omega) (by unfold maxLen;omega) (by omega) (by rw[aO];omega) (w6.heap.size+1) aO ?_;intro g2 aT w4 ay ao bH dM);have Pn:=P.more lx ll lp (-1 - (rn - 48)) (oa.trans (ae.of_grown ao) (fun _ e=>e.elim) (fun _ _ e=>e)) ay;go_roundg (gk - 1)
         case measure=>have:=HQ.out.1;omega
         case rel=>exact ⟨Rf.no g.pl {sN with i:=sN.i+1} 8 sj.i,l++ [-1 - (rn - 48)],m,_,_,by rw[List.length_append];rfl,by rw[List.length_append];exact Pn,⟨fun e=>by
          have h9:sj.i<(Rf.no g.pl {sN with i:=sN.i+1} 8 sj.i:SS).i:=(fY.out e).2;have h8:=HQ.out;rw[List.length_append];exact⟨by omega,by omega,by show l.length+1≤_;omega⟩,bG.out⟩⟩
        ·rw[if_neg DK] at au cy
         have bG:Hid _:=au;have fY:Hid _:=cy;clear au cy;go_wp2_with fail;refine dR.mono ?_;rintro e w1 ⟨rfl,h1,o1⟩;have P1:=P.moved lx h1 o1;go_wp2_with fail;refine(vM.out _ h1).mono ?_;rintro e w2 ⟨rfl,h2,o2⟩;have P2:=P1.moved lx h2 o2;have du:=bR g w2 _ h2;rw[Qq.out,HD.out] at du;go_wp2_with fail;refine du.mono ?_;rintro e wd ⟨rfl,nd,rfl⟩;have P:LsS g w (w2.drewN nd) _ _ l:=P2.moved lx (h2.drewN nd) ((ae.refl _ _).drewN nd);clear P1 P2 h1 o1 h2 o2 du;go_wp2_with fail;refine(CF.out _ P.scn).mono ?_;rintro e wx ⟨rfl,nx,rfl⟩;have P4:LsS g w (w2.drewN (nd+nx)) sN (.slice yi l.length yk) l:=by rw[←World.drewN_drewN];exact P.moved lx (P.scn.drewN nx) ((ae.refl _ _).drewN nx)
         go_wp2_with fail;refine(IE.out _ P4.scn).mono ?_;rintro e w5 ⟨rfl,h5,o5⟩;have P5:=P4.moved lx h5 o5;clear P P4;have P:=P5;clear P5 h5 o5;go_upto_region 18 with (fail)
         have aO:(w5.alloc (.cells #[.int .i64 (-1 - (rn - 48))] 3)).heap.size=w5.heap.size+1:=by simp
         have oa:ae (fun _=>False) w5 (w5.alloc (.cells #[.int .i64 (-1 - (rn - 48))] 3)):=(ae.refl _ w5).alloc _;have cq:=ag P.row oa (fun _ _=>id);have kH:=P.o.size;have tC:l.length≤501:=by have:=HQ.out;omega
         go_wp2_with (at_builtin;refine wpList_append_lies _ (by rfl) _ _ _ (by rfl) w.heap.size 3 i0 _ 1 8 Tryz.underlying35 dZ nj nk ns rfl (by omega) (.slice yi l.length yk) l.length (l.map (.int .i64)) (by rfl) cq ⟨w5.heap.size,0,none⟩ 1 1 [.int .i64 (-1 - (rn - 48))] (by rfl) (by rfl) (World.news_of_block (cs:= #[.int .i64 (-1 - (rn - 48))]) (t:=3) (fr:=(0,0)) (heap_alloc_new _ _)) (by simp[Value.oneCell']) (by omega) (by unfold maxLen;omega) (by omega) (by rw[aO];omega) (w5.heap.size+1) aO ?_;intro g2 aT w4 ay ao bH dM);have Pn:=P.more lx ll lp (-1 - (rn - 48)) (oa.trans (ae.of_grown ao) (fun _ e=>e.elim) (fun _ _ e=>e)) ay;go_roundg (gk - 1)
         case measure=>have:=HQ.out.1;omega
         case rel=>exact ⟨{sN with i:=sN.i+1},l++ [-1 - (rn - 48)],m,_,_,by rw[List.length_append];rfl,by rw[List.length_append];exact Pn,⟨fun e=>by
          have h9:sj.i<({sN with i:=sN.i+1}:SS).i:=(fY.out e).2;have h8:=HQ.out;rw[List.length_append];exact⟨by omega,by omega,by show l.length+1≤_;omega⟩,bG.out⟩⟩
       ·rw[if_neg hd] at au cy
        have bG:Hid _:=au;have fY:Hid _:=cy;have kz:=fun W (hW:Scn g W sN)=>fK g W sN hW ⟨#[47,92,38]⟩ (by decide);simp only[wt] at kz;generalize (Rf.escaped g.L g.pl Adz.replSpecial sN).1=re at*
        generalize (Rf.escaped g.L g.pl Adz.replSpecial sN).2=se at*
        have LZ:Hid _:=kz
        have iQ:(Adz.isDigit (Rf.now g.L sN)=true∧Rf.now g.L sN=48)∨Adz.isDigit (Rf.now g.L sN)=false:=by
         cases hx:Adz.isDigit (Rf.now g.L sN) with
         | false=>exact Or.inr rfl
         | true=>exact Or.inl ⟨rfl,Decidable.byContradiction fun e=>hd ⟨hx,e⟩⟩
        clear au cy kz hd
        rcases iQ with ⟨DH,QL⟩ | DH
        ·have dK:=fun W (hW:Scn g W sN)=>az g W _ hW
         rw[QL] at dK;have CF:Hid _:=dK;clear dK QL;go_wp2_with fail;refine dR.mono ?_;rintro e w1 ⟨rfl,h1,o1⟩;have P1:=P.moved lx h1 o1;go_wp2_with fail;refine(vM.out _ h1).mono ?_;rintro e w2 ⟨rfl,h2,o2⟩;have P2:=P1.moved lx h2 o2;have du:=bR g w2 _ h2;rw[DH] at du;clear DH;go_wp2_with fail;refine du.mono ?_;rintro e wd ⟨rfl,nd,rfl⟩;have P:LsS g w (w2.drewN nd) _ _ l:=P2.moved lx (h2.drewN nd) ((ae.refl _ _).drewN nd);clear P1 P2 h1 o1 h2 o2 du;go_wp2_with fail;refine(CF.out _ P.scn).mono ?_;rintro e wx ⟨rfl,nx,rfl⟩;have P4:LsS g w (w2.drewN (nd+nx)) sN (.slice yi l.length yk) l:=by rw[←World.drewN_drewN];exact P.moved lx (P.scn.drewN nx) ((ae.refl _ _).drewN nx)
         go_wp2_with fail;refine(LZ.out _ P4.scn).mono ?_;rintro e w5 ⟨rfl,h5,o5⟩;have P5:=P4.moved lx h5 o5;clear P P4;have P:=P5;clear P5 h5 o5;go_upto_region 21 with (fail)
         have aO:(w5.alloc (.cells #[.int .i64 (re)] 3)).heap.size=w5.heap.size+1:=by simp
         have oa:ae (fun _=>False) w5 (w5.alloc (.cells #[.int .i64 (re)] 3)):=(ae.refl _ w5).alloc _;have cq:=ag P.row oa (fun _ _=>id);have kH:=P.o.size;have tC:l.length≤501:=by have:=HQ.out;omega
         go_wp2_with (at_builtin;refine wpList_append_lies _ (by rfl) _ _ _ (by rfl) w.heap.size 3 i0 _ 1 8 Tryz.underlying35 dZ nj nk ns rfl (by omega) (.slice yi l.length yk) l.length (l.map (.int .i64)) (by rfl) cq ⟨w5.heap.size,0,none⟩ 1 1 [.int .i64 (re)] (by rfl) (by rfl) (World.news_of_block (cs:= #[.int .i64 (re)]) (t:=3) (fr:=(0,0)) (heap_alloc_new _ _)) (by simp[Value.oneCell']) (by omega) (by unfold maxLen;omega) (by omega) (by rw[aO];omega) (w5.heap.size+1) aO ?_;intro g2 aT w4 ay ao bH dM);have Pn:=P.more lx ll lp (re) (oa.trans (ae.of_grown ao) (fun _ e=>e.elim) (fun _ _ e=>e)) ay;go_roundg (gk - 1)
         case measure=>have:=HQ.out.1;omega
         case rel=>exact ⟨se,l++ [re],m,_,_,by rw[List.length_append];rfl,by rw[List.length_append];exact Pn,⟨fun e=>by
          have h9:sj.i<(se:SS).i:=(fY.out e).2;have h8:=HQ.out;rw[List.length_append];exact⟨by omega,by omega,by show l.length+1≤_;omega⟩,bG.out⟩⟩
        ·go_wp2_with fail
         refine dR.mono ?_;rintro e w1 ⟨rfl,h1,o1⟩;have P1:=P.moved lx h1 o1;go_wp2_with fail;refine(vM.out _ h1).mono ?_;rintro e w2 ⟨rfl,h2,o2⟩;have P2:=P1.moved lx h2 o2;have du:=bR g w2 _ h2;rw[DH] at du;clear DH;go_wp2_with fail;refine du.mono ?_;rintro e wd ⟨rfl,nd,rfl⟩;have P:LsS g w (w2.drewN nd) _ _ l:=P2.moved lx (h2.drewN nd) ((ae.refl _ _).drewN nd);clear P1 P2 h1 o1 h2 o2 du;go_wp2_with fail;refine(LZ.out _ P.scn).mono ?_;rintro e w5 ⟨rfl,h5,o5⟩;have P5:=P.moved lx h5 o5;clear P;have P:=P5;clear P5 h5 o5;go_upto_region 21 with (fail)
         have aO:(w5.alloc (.cells #[.int .i64 (re)] 3)).heap.size=w5.heap.size+1:=by simp
         have oa:ae (fun _=>False) w5 (w5.alloc (.cells #[.int .i64 (re)] 3)):=(ae.refl _ w5).alloc _;have cq:=ag P.row oa (fun _ _=>id);have kH:=P.o.size;have tC:l.length≤501:=by have:=HQ.out;omega
         go_wp2_with (at_builtin;refine wpList_append_lies _ (by rfl) _ _ _ (by rfl) w.heap.size 3 i0 _ 1 8 Tryz.underlying35 dZ nj nk ns rfl (by omega) (.slice yi l.length yk) l.length (l.map (.int .i64)) (by rfl) cq ⟨w5.heap.size,0,none⟩ 1 1 [.int .i64 (re)] (by rfl) (by rfl) (World.news_of_block (cs:= #[.int .i64 (re)]) (t:=3) (fr:=(0,0)) (heap_alloc_new _ _)) (by simp[Value.oneCell']) (by omega) (by unfold maxLen;omega) (by omega) (by rw[aO];omega) (w5.heap.size+1) aO ?_;intro g2 aT w4 ay ao bH dM);have Pn:=P.more lx ll lp (re) (oa.trans (ae.of_grown ao) (fun _ e=>e.elim) (fun _ _ e=>e)) ay;go_roundg (gk - 1)
         case measure=>have:=HQ.out.1;omega
         case rel=>exact ⟨se,l++ [re],m,_,_,by rw[List.length_append];rfl,by rw[List.length_append];exact Pn,⟨fun e=>by
          have h9:sj.i<(se:SS).i:=(fY.out e).2;have h8:=HQ.out;rw[List.length_append];exact⟨by omega,by omega,by show l.length+1≤_;omega⟩,bG.out⟩⟩
      ·have E9:(r==92)=false:=by simpa using kZ
       simp only[kZ,false_and,if_false] at au cy;have bG:Hid _:=au;have fY:Hid _:=cy;clear au cy dQ CL kZ;go_wp2_with fail;refine dR.mono ?_;rintro e w1 ⟨rfl,h1,o1⟩;have P1:=P.moved lx h1 o1;go_wp2_with fail;refine(vM.out _ h1).mono ?_;rintro e w2 ⟨rfl,h2,o2⟩;have P2:=P1.moved lx h2 o2;have du:=bR g w2 _ h2;generalize Adz.isDigit (Rf.now g.L sN)=dd at*
       go_wp2_with fail;refine du.mono ?_;rintro e wd ⟨rfl,nd,rfl⟩;have P:LsS g w (w2.drewN nd) _ _ l:=P2.moved lx (h2.drewN nd) ((ae.refl _ _).drewN nd);clear P1 P2 h1 o1 h2 o2 du;go_upto_region 11 with (fail)
       generalize w2.drewN nd=wv at*
       have aO:(wv.alloc (.cells #[.int .i64 (r)] 3)).heap.size=wv.heap.size+1:=by simp
       have oa:ae (fun _=>False) wv (wv.alloc (.cells #[.int .i64 (r)] 3)):=(ae.refl _ wv).alloc _;have cq:=ag P.row oa (fun _ _=>id);have kH:=P.o.size;have tC:l.length≤501:=by have:=HQ.out;omega
       go_wp2_with (at_builtin;refine wpList_append_lies _ (by rfl) _ _ _ (by rfl) w.heap.size 3 i0 _ 1 8 Tryz.underlying35 dZ nj nk ns rfl (by omega) (.slice yi l.length yk) l.length (l.map (.int .i64)) (by rfl) cq ⟨wv.heap.size,0,none⟩ 1 1 [.int .i64 (r)] (by rfl) (by rfl) (World.news_of_block (cs:= #[.int .i64 (r)]) (t:=3) (fr:=(0,0)) (heap_alloc_new _ _)) (by simp[Value.oneCell']) (by omega) (by unfold maxLen;omega) (by omega) (by rw[aO];omega) (wv.heap.size+1) aO ?_;intro g2 aT w4 ay ao bH dM);have Pn:=P.more lx ll lp (r) (oa.trans (ae.of_grown ao) (fun _ e=>e.elim) (fun _ _ e=>e)) ay;go_roundg (gk - 1)
       case measure=>have:=HQ.out.1;omega
       case rel=>exact ⟨sN,l++ [r],m,_,_,by rw[List.length_append];rfl,by rw[List.length_append];exact Pn,⟨fun e=>by
        have h9:sj.i<(sN:SS).i:=(fY.out e).2;have h8:=HQ.out;rw[List.length_append];exact⟨by omega,by omega,by show l.length+1≤_;omega⟩,bG.out⟩⟩
  ·have hT:=au
   rw[Rf.replacement_er he] at hT;subst hT;have b0:(sj.e==0)=false:=by simpa using he
   have o9:=P.o;have h9:=P.scn;clear au lD he P;go_wp2;go_ret
   first | exact⟨_,_,_,rfl,h9,o9⟩ | exact⟨⟨_,_,_,rfl⟩,h9,o9⟩
theorem kQ (g:SG) (w:World) (s:SS) (h:Scn g w s):
 Calls Tryz.prog 113 #[.pointer (some ⟨g.x,0,none⟩)] w fun e w'=>∃a c,e=.returned (.slice a (Rf.runes g.L g.pl (g.L.length+1) [] s).1.length c)∧w'.ownsRow w.heap.size 3 1 (.slice a (Rf.runes g.L g.pl (g.L.length+1) [] s).1.length c) (Rf.runes g.L g.pl (g.L.length+1) [] s).1.length ((Rf.runes g.L g.pl (g.L.length+1) [] s).1.map (.int .i64))∧(Rf.runes g.L g.pl (g.L.length+1) [] s).1.length≤501∧Scn g w' (Rf.runes g.L g.pl (g.L.length+1) [] s).2∧ae (·=g.x) w w':=by
 have eN:=h.le;have dy:=h.small;obtain⟨T,hT⟩:∃T,Rf.runes g.L g.pl (g.L.length+1) [] s=T:=⟨_,rfl⟩;rw[hT];obtain⟨lx,ll,lp⟩:=h.lts;have HT:Hid _:=hT;obtain⟨i0,dZ,nj,nk,ns⟩:=info_parts eY;clear hT;go_enter Tryz.func113,Tryz.ntmps113;go_wp2_with fail
 go_loopg [3] (g.L.length+1) (fun k v wr=>∃(sj:SS) (l:List Int) (m:Nat) (a5:Option Addr) (c5:Nat),v=.slice a5 l.length c5∧Hid (LsS g w wr sj (.slice a5 l.length c5) l)∧Hid ((sj.e=0→g.L.length<m+sj.i∧g.L.length+1≤sj.i+k∧l.length≤sj.i)∧Rf.runes g.L g.pl m l sj=T∧l.length≤501))
 case atStart=>exact ⟨s,[],g.L.length+1,none,0,rfl,⟨h,World.ownsRow_nil _ _ _ _,ae.refl _ _⟩,⟨fun e=>⟨by omega,by omega,Nat.zero_le _⟩,HT.out,Nat.zero_le _⟩⟩
 case round=>
  obtain⟨sj,l,m,yi,yk,rfl,HP,HI⟩:=hrel;have P:=HP.out;obtain⟨lD,au,qy⟩:=HI.out;have cU:=P.scn;obtain⟨la,pc,k1,k2⟩:=cU.cells;have ce:=(k1 3 _ rfl).1;have c2:=(k1 2 _ rfl).1;clear k1 k2 HP HI HT;by_cases he:sj.e=0
  ·obtain⟨wO,vN,qZ⟩:=lD he
   have gU:=cU.le;obtain⟨m,rfl⟩:∃m',m=m'+1:=⟨m - 1,by omega⟩;unfold Rf.runes at au;rw[if_pos he] at au;have b0:(sj.e==0)=true:=by simpa using he
   have HQ:Hid (1≤gk∧g.L.length<m+1+sj.i∧g.L.length+1≤sj.i+gk∧l.length≤sj.i∧sj.i≤500):=⟨by omega,wO,vN,qZ,by omega⟩;have cy:=Rf.ustep_adv g.L g.pl sj;have dR:=aQ g wr sj cU 47 (by decide);unfold Rf.take at dR;clear lD wO vN qZ he cU;by_cases bK:Rf.now g.L sj=47
   ·rw[if_pos bK] at au dR
    subst au;clear bK cy;go_wp2_with fail;refine dR.mono ?_;rintro e w1 ⟨rfl,h1,o1⟩;have P1:=P.moved lx h1 o1;have o9:=P1.o;have r9:=P1.row;clear P P1;go_wp2;go_ret
    first | exact⟨_,_,rfl,r9,qy,h1,o9⟩ | exact⟨_,_,rfl,r9,h1,o9⟩
   ·rw[if_neg bK] at au dR
    clear bK qy;unfold Rf.ustep at au cy;simp only at au cy;have eP:=fun w1 (h1:Scn g w1 sj)=>ef g w1 sj h1;generalize (Rf.next g.L g.pl sj).1=r at*
    generalize (Rf.next g.L g.pl sj).2=sN at*
    have vM:Hid _:=eP;clear eP;by_cases dQ:r=10
    ·subst dQ
     simp only[if_true,show ¬((10:Int)=92) by decide,if_false] at au cy;have bG:Hid _:=au;have fY:Hid _:=cy;clear au cy;go_wp2_with fail;refine dR.mono ?_;rintro e w1 ⟨rfl,h1,o1⟩;have P1:=P.moved lx h1 o1;go_wp2_with fail;refine(vM.out _ h1).mono ?_;rintro e w2 ⟨rfl,h2,o2⟩;have P2:=P1.moved lx h2 o2;go_wp2_with fail;refine(aB g _ _ h2 3 sj.i gU).mono ?_;rintro e w3 ⟨rfl,h3,o3⟩;have P3:=P2.moved lx h3 o3;have P:=P3;clear P1 P2 P3 h1 o1 h2 o2 h3 o3;go_upto_region 12 with (fail)
     have aO:(w3.alloc (.cells #[.int .i64 (10)] 3)).heap.size=w3.heap.size+1:=by simp
     have oa:ae (fun _=>False) w3 (w3.alloc (.cells #[.int .i64 (10)] 3)):=(ae.refl _ w3).alloc _;have cq:=ag P.row oa (fun _ _=>id);have kH:=P.o.size;have tC:l.length≤501:=by have:=HQ.out;omega
     go_wp2_with (at_builtin;refine wpList_append_lies _ (by rfl) _ _ _ (by rfl) w.heap.size 3 i0 _ 1 8 Tryz.underlying35 dZ nj nk ns rfl (by omega) (.slice yi l.length yk) l.length (l.map (.int .i64)) (by rfl) cq ⟨w3.heap.size,0,none⟩ 1 1 [.int .i64 (10)] (by rfl) (by rfl) (World.news_of_block (cs:= #[.int .i64 (10)]) (t:=3) (fr:=(0,0)) (heap_alloc_new _ _)) (by simp[Value.oneCell']) (by omega) (by unfold maxLen;omega) (by omega) (by rw[aO];omega) (w3.heap.size+1) aO ?_;intro g2 aT w4 ay ao bH dM);have Pn:=P.more lx ll lp (10) (oa.trans (ae.of_grown ao) (fun _ e=>e.elim) (fun _ _ e=>e)) ay;go_roundg (gk - 1)
     case measure=>have:=HQ.out.1;omega
     case rel=>exact ⟨Rf.no g.pl sN 3 sj.i,l++ [10],m,_,_,by rw[List.length_append];rfl,by rw[List.length_append];exact Pn,⟨fun e=>by
      have h9:sj.i<(Rf.no g.pl sN 3 sj.i:SS).i:=(fY.out e).2;have h8:=HQ.out;rw[List.length_append];exact⟨by omega,by omega,by show l.length+1≤_;omega⟩,bG.out,by have:=HQ.out;rw[List.length_append];show l.length+1≤501;omega⟩⟩
    ·have CI:(r==10)=false:=by simpa using dQ
     simp only[if_neg dQ] at au cy;by_cases kZ:r=92
     ·subst kZ
      simp only[if_true] at au cy;have bG:Hid _:=au;have fY:Hid _:=cy;have kz:=fun W (hW:Scn g W sN)=>fK g W sN hW ⟨#[47,92]⟩ (by decide);simp only[wB] at kz;generalize (Rf.escaped g.L g.pl Adz.sideSpecial sN).1=re at*
      generalize (Rf.escaped g.L g.pl Adz.sideSpecial sN).2=se at*
      have LZ:Hid _:=kz;clear au cy kz dQ CI;go_wp2_with fail;refine dR.mono ?_;rintro e w1 ⟨rfl,h1,o1⟩;have P1:=P.moved lx h1 o1;go_wp2_with fail;refine(vM.out _ h1).mono ?_;rintro e w2 ⟨rfl,h2,o2⟩;have P2:=P1.moved lx h2 o2;go_wp2_with fail;refine(LZ.out _ h2).mono ?_;rintro e w5 ⟨rfl,h5,o5⟩;have P:=P2.moved lx h5 o5;clear P1 P2 h1 o1 h2 o2 h5 o5;go_upto_region 12 with (fail)
      have aO:(w5.alloc (.cells #[.int .i64 (re)] 3)).heap.size=w5.heap.size+1:=by simp
      have oa:ae (fun _=>False) w5 (w5.alloc (.cells #[.int .i64 (re)] 3)):=(ae.refl _ w5).alloc _;have cq:=ag P.row oa (fun _ _=>id);have kH:=P.o.size;have tC:l.length≤501:=by have:=HQ.out;omega
      go_wp2_with (at_builtin;refine wpList_append_lies _ (by rfl) _ _ _ (by rfl) w.heap.size 3 i0 _ 1 8 Tryz.underlying35 dZ nj nk ns rfl (by omega) (.slice yi l.length yk) l.length (l.map (.int .i64)) (by rfl) cq ⟨w5.heap.size,0,none⟩ 1 1 [.int .i64 (re)] (by rfl) (by rfl) (World.news_of_block (cs:= #[.int .i64 (re)]) (t:=3) (fr:=(0,0)) (heap_alloc_new _ _)) (by simp[Value.oneCell']) (by omega) (by unfold maxLen;omega) (by omega) (by rw[aO];omega) (w5.heap.size+1) aO ?_;intro g2 aT w4 ay ao bH dM);have Pn:=P.more lx ll lp (re) (oa.trans (ae.of_grown ao) (fun _ e=>e.elim) (fun _ _ e=>e)) ay;go_roundg (gk - 1)
      case measure=>have:=HQ.out.1;omega
      case rel=>exact ⟨se,l++ [re],m,_,_,by rw[List.length_append];rfl,by rw[List.length_append];exact Pn,⟨fun e=>by
       have h9:sj.i<(se:SS).i:=(fY.out e).2;have h8:=HQ.out;rw[List.length_append];exact⟨by omega,by omega,by show l.length+1≤_;omega⟩,bG.out,by have:=HQ.out;rw[List.length_append];show l.length+1≤501;omega⟩⟩
     ·have E9:(r==92)=false:=by simpa using kZ
      simp only[if_neg kZ] at au cy;have bG:Hid _:=au;have fY:Hid _:=cy;clear au cy dQ kZ;go_wp2_with fail;refine dR.mono ?_;rintro e w1 ⟨rfl,h1,o1⟩;have P1:=P.moved lx h1 o1;go_wp2_with fail;refine(vM.out _ h1).mono ?_;rintro e w2 ⟨rfl,h2,o2⟩;have P2:=P1.moved lx h2 o2;have P:=P2;clear P1 P2 h1 o1 h2 o2;go_upto_region 12 with (fail)
      have aO:(w2.alloc (.cells #[.int .i64 (r)] 3)).heap.size=w2.heap.size+1:=by simp
      have oa:ae (fun _=>False) w2 (w2.alloc (.cells #[.int .i64 (r)] 3)):=(ae.refl _ w2).alloc _;have cq:=ag P.row oa (fun _ _=>id);have kH:=P.o.size;have tC:l.length≤501:=by have:=HQ.out;omega
      go_wp2_with (at_builtin;refine wpList_append_lies _ (by rfl) _ _ _ (by rfl) w.heap.size 3 i0 _ 1 8 Tryz.underlying35 dZ nj nk ns rfl (by omega) (.slice yi l.length yk) l.length (l.map (.int .i64)) (by rfl) cq ⟨w2.heap.size,0,none⟩ 1 1 [.int .i64 (r)] (by rfl) (by rfl) (World.news_of_block (cs:= #[.int .i64 (r)]) (t:=3) (fr:=(0,0)) (heap_alloc_new _ _)) (by simp[Value.oneCell']) (by omega) (by unfold maxLen;omega) (by omega) (by rw[aO];omega) (w2.heap.size+1) aO ?_;intro g2 aT w4 ay ao bH dM);have Pn:=P.more lx ll lp (r) (oa.trans (ae.of_grown ao) (fun _ e=>e.elim) (fun _ _ e=>e)) ay;go_roundg (gk - 1)
      case measure=>have:=HQ.out.1;omega
      case rel=>exact ⟨sN,l++ [r],m,_,_,by rw[List.length_append];rfl,by rw[List.length_append];exact Pn,⟨fun e=>by
       have h9:sj.i<(sN:SS).i:=(fY.out e).2;have h8:=HQ.out;rw[List.length_append];exact⟨by omega,by omega,by show l.length+1≤_;omega⟩,bG.out,by have:=HQ.out;rw[List.length_append];show l.length+1≤501;omega⟩⟩
  ·have hT:=au
   rw[Rf.runes_er he] at hT;subst hT;have b0:(sj.e==0)=false:=by simpa using he
   have o9:=P.o;have h9:=P.scn;have r9:=P.row;clear au lD he P;go_wp2;go_ret
   first | exact⟨_,_,rfl,r9,qy,h9,o9⟩ | exact⟨_,_,rfl,r9,h9,o9⟩
def Tg (g:SG) (w:World) (B M:Nat) (jumps:List (List Int×Nat)):Prop:=∃ja jc,∃qj:List Nat,g.jv=.slice ja jumps.length jc∧w.ownsRow B 88 1 (.slice ja jumps.length jc) jumps.length (qj.map fun b=> .pointer (some ⟨b,0,none⟩))∧
 ∀(i:Nat) (j:List Int×Nat),jumps[i]? =some j→∃cb what tx a p n,qj[i]? =some cb∧cb<M∧CmB w cb what j.2 tx a p n∧ff g tx j.1∧j.2≤g.L.length
structure SFl (g:SG) (w:World) (B M:Nat) (r:Rf.RS):Prop where
 scn:Scn g w r.s
 lab:JN g w B r.labs
 jmp:Tg g w B M r.jumps
 hx:g.x<B
 hl:g.L≠ []→g.lb<B
 hp:g.pb<B
 bs:B≤w.heap.size
def Own (g:SG) (b:Nat):Prop:=b=g.x∨g.lv.ownBlock=some b∨g.jv.ownBlock=some b
theorem SFl.keeps {S:Nat→Prop}{g:SG}{w w':World}{B M:Nat}{r:Rf.RS} (h:SFl g w B M r) (s':SS) (hs:Scn g w' s') (o:ae S w w') (h1:∀b,g.lv.ownBlock=some b→¬S b) (h2:∀b,g.jv.ownBlock=some b→¬S b) (h3:∀b,b<M→aq w b 87→¬S b):SFl g w' B M {r with s:=s'}:=by
 obtain⟨ja,jc,qj,e,q1,q2⟩:=h.jmp;refine⟨hs,h.lab.keeps o h1,⟨ja,jc,qj,e,ag q1 o (fun b hb=>h2 b (by rw[e];exact hb)),fun i j hj=> ?_⟩,h.hx,h.hl,h.hp,Nat.le_trans h.bs o.size⟩;obtain⟨cb,what,tx,a,p,n,x1,x2,x3,x4⟩:=q2 i j hj;exact⟨cb,what,tx,a,p,n,x1,x2,x3.keeps o (h3 cb x2 x3.typ),x4⟩
theorem SFl.lvge {g:SG}{w:World}{B M:Nat}{r:Rf.RS} (h:SFl g w B M r):∀b,g.lv.ownBlock=some b→B≤b∧aq w b 35:=by
 obtain⟨la,lc,vs,e,q1,q2⟩:=h.lab;intro b hb;rw[e] at hb;exact⟨(q1.lt b hb).1,aq.of_row q1 hb⟩
theorem SFl.jvge {g:SG}{w:World}{B M:Nat}{r:Rf.RS} (h:SFl g w B M r):∀b,g.jv.ownBlock=some b→B≤b∧aq w b 88:=by
 obtain⟨ja,jc,qj,e,q1,q2⟩:=h.jmp;intro b hb;rw[e] at hb;exact⟨(q1.lt b hb).1,aq.of_row q1 hb⟩
theorem SFl.moved {g:SG}{w w':World}{B M:Nat}{r:Rf.RS} (h:SFl g w B M r) {s':SS} (hs:Scn g w' s') (o:ae (·=g.x) w w'):SFl g w' B M {r with s:=s'}:=
 h.keeps s' hs o (fun b hb e=>by have:=(h.lvge b hb).1;have:=h.hx;omega) (fun b hb e=>by have:=(h.jvge b hb).1;have:=h.hx;omega) (fun b hb t e=>by subst e;exact absurd (t.one h.scn.typ) (by decide))
theorem SFl.moved2 {g:SG}{w w':World}{B cb:Nat}{r:Rf.RS} (h:SFl g w B cb r) {s':SS} (hs:Scn g w' s') (tc:aq w cb 87) (o:ae (fun b=>b=g.x∨b=cb) w w'):SFl g w' B cb {r with s:=s'}:=
 h.keeps s' hs o (fun b hb e=>by
  obtain⟨e1,e2⟩:=h.lvge b hb
  rcases e with e | e
  ·have:=h.hx;omega
  ·subst e;exact absurd (tc.one e2) (by decide)) (fun b hb e=>by
  obtain⟨e1,e2⟩:=h.jvge b hb
  rcases e with e | e
  ·have:=h.hx;omega
  ·subst e;exact absurd (tc.one e2) (by decide)) (fun b hb t e=>by
  rcases e with e | e
  ·subst e;exact absurd (t.one h.scn.typ) (by decide)
  ·omega)
theorem SFl.more {g:SG}{w:World}{B M M':Nat}{r:Rf.RS} (h:SFl g w B M r) (hm:M≤M'):SFl g w B M' r:=by
 obtain⟨ja,jc,qj,e,q1,q2⟩:=h.jmp;refine⟨h.scn,h.lab,⟨ja,jc,qj,e,q1,fun i j hj=> ?_⟩,h.hx,h.hl,h.hp,h.bs⟩;obtain⟨cb,what,tx,a,p,n,x1,x2,x3,x4⟩:=q2 i j hj;exact⟨cb,what,tx,a,p,n,x1,by omega,x3,x4⟩
structure Sg (g g':SG):Prop where
 x:g'.x=g.x
 lb:g'.lb=g.lb
 pb:g'.pb=g.pb
 L:g'.L=g.L
 pl:g'.pl=g.pl
 lc:g'.lc=g.lc
theorem Sg.refl (g:SG):Sg g g:=⟨rfl,rfl,rfl,rfl,rfl,rfl⟩
theorem Sg.trans {a b c:SG} (h:Sg a b) (k:Sg b c):Sg a c:=⟨k.x.trans h.x,k.lb.trans h.lb,k.pb.trans h.pb,k.L.trans h.L,k.pl.trans h.pl,k.lc.trans h.lc⟩
def rF (g:SG) (w:World) (B cb:Nat) (r':Rf.RS) (w':World):Prop:=
 ∃g',Sg g g'∧SFl g' w' B (cb+1) r'∧(∀b,Own g' b→Own g b∨w.heap.size≤b)∧ae (fun b=>Own g b∨b=cb) w w'
theorem kn {g:SG}{w w':World}{B cb:Nat}{r':Rf.RS} (h:SFl g w' B cb r') (o:ae (fun b=>b=g.x∨b=cb) w w'):rF g w B cb r' w':=
 ⟨g,Sg.refl g,h.more (Nat.le_succ cb),fun b hb=>Or.inl hb,o.mono (fun b _ e=>by rcases e with e | e;exact Or.inl (Or.inl e);exact Or.inr e)⟩
theorem sP (g:SG) (w:World) (B cb:Nat) (r:Rf.RS) (h:SFl g w B cb r) (what:Int) (at_:Nat) (tx:Value) (hc:CmB w cb what at_ tx false false 0) (uu:B≤cb) (bJ:at_≤g.L.length) (As:r.labs.length≤900) (Ar:r.jumps.length≤900) (h0:what≠97∧what≠99∧what≠105∧what≠58∧what≠98∧what≠116∧what≠115∧what≠121):
 Calls Tryz.prog 85 #[.pointer (some ⟨g.x,0,none⟩),.pointer (some ⟨cb,0,none⟩)] w fun e w'=>e=.returned (.tuple #[])∧rF g w B cb (Rf.behind g.L g.pl what at_ r) w':=by
 obtain⟨y9,tH,pZ,_,_,_⟩:=hc.known;have fF:cb≠g.x:=by have:=h.hx;omega
 have cR:g.L≠ []→cb≠g.lb:=fun e=>by have:=h.hl e;omega
 have jT:cb≠g.pb:=by have:=h.hp;omega
 have hle:=h.scn.le;have dy:=h.scn.small;obtain⟨R,hR⟩:∃R,Rf.behind g.L g.pl what at_ r=R:=⟨_,rfl⟩;rw[hR];unfold Rf.behind at hR;obtain⟨a1,a2,a3,a4,a5,a6,a7,a8⟩:=h0;rw[if_neg (by omega),if_neg a4,if_neg (by omega),if_neg a7,if_neg a8] at hR;have q1:(what==97)=false:=by simpa using a1
 have q2:(what==99)=false:=by simpa using a2
 have q3:(what==105)=false:=by simpa using a3
 have q4:(what==58)=false:=by simpa using a4
 have q5:(what==98)=false:=by simpa using a5
 have q6:(what==116)=false:=by simpa using a6
 have q7:(what==115)=false:=by simpa using a7
 have q8:(what==121)=false:=by simpa using a8
 have j6:=h.scn;have cu:Hid (∀W',Scn g W' (Rf.tailEnd g.L g.pl r.s)→ae (·=g.x) w W'→rF g w B cb R W'):=fun W' hs o=>by rw[←hR];exact kn (h.moved hs o) (o.mono (fun _ _ e=>Or.inl e))
 clear hR a1 a2 a3 a4 a5 a6 a7 a8 hc;go_enter Tryz.func85,Tryz.ntmps85;have ld:=bf g w r.s j6 false;have bC:=cu.out;unfold Rf.tailEnd at bC;simp only at bC;generalize Rf.skip g.L r.s false=s9 at*
 have ng:=j6.small;go_wp2_with fail;refine ld.mono ?_;rintro e w8 ⟨rfl,h8,o8⟩;have ey:=az g w8 s9 h8;have iC:=h8.le;obtain⟨Ji,Jk,rj,zF⟩:=h8.cells;have Ff:=(rj 2 _ rfl).1;clear rj zF;by_cases dG:0≤Rf.now g.L s9∧Rf.now g.L s9≠59∧Rf.now g.L s9≠10∧Rf.now g.L s9≠125
 ·rw[if_pos dG] at bC
  obtain⟨e0,e1,e2,e3⟩:=dG;have b1:(Rf.now g.L s9==59)=false:=by simpa using e1
  have b2:(Rf.now g.L s9==10)=false:=by simpa using e2
  have b3:(Rf.now g.L s9==125)=false:=by simpa using e3
  have Df:(Rf.now g.L s9 !=59)=true:=by unfold bne;rw[b1];rfl
  have Dg:(Rf.now g.L s9 !=10)=true:=by unfold bne;rw[b2];rfl
  have AL:(Rf.now g.L s9 !=125)=true:=by unfold bne;rw[b3];rfl
  clear e1 e2 e3;have lh:Hid _:=bC;clear bC cu;generalize Rf.now g.L s9=r9 at*
  go_wp2_with fail;refine ey.mono ?_;rintro e w9 ⟨rfl,n9,rfl⟩;go_wp2_with fail;refine(aB g _ _ (h8.drewN n9) 3 s9.i iC).mono ?_;rintro e Jo ⟨rfl,dQ,zM⟩;go_wp2;go_end0;exact⟨rfl,lh.out _ dQ (o8.trans (((ae.refl (·=g.x) w8).drewN n9).trans zM (fun _ e=>e) (fun _ _ e=>e)) (fun _ e=>e) (fun _ _ e=>e))⟩
 ·rw[if_neg dG] at bC
  have lh:Hid _:=bC;have dm:Rf.now g.L s9<0∨Rf.now g.L s9=59∨Rf.now g.L s9=10∨Rf.now g.L s9=125:=by omega
  clear bC cu dG
  rcases dm with hr | hr | hr | hr
  all_goals
   first
    | rw[hr] at ey
    | generalize Rf.now g.L s9=r9 at*
   go_wp2_with fail;refine ey.mono ?_;rintro e w9 ⟨rfl,n9,rfl⟩;go_wp2;go_end0;exact⟨rfl,lh.out _ (h8.drewN n9) (o8.drewN n9)⟩
theorem sQ (g:SG) (w:World) (B cb:Nat) (r:Rf.RS) (h:SFl g w B cb r) (what:Int) (at_:Nat) (tx:Value) (hc:CmB w cb what at_ tx false false 0) (uu:B≤cb) (bJ:at_≤g.L.length) (As:r.labs.length≤900) (Ar:r.jumps.length≤900) (h0:what=97∨what=99∨what=105):
 Calls Tryz.prog 85 #[.pointer (some ⟨g.x,0,none⟩),.pointer (some ⟨cb,0,none⟩)] w fun e w'=>e=.returned (.tuple #[])∧rF g w B cb (Rf.behind g.L g.pl what at_ r) w':=by
 obtain⟨y9,tH,pZ,_,_,_⟩:=hc.known;have fF:cb≠g.x:=by have:=h.hx;omega
 have cR:g.L≠ []→cb≠g.lb:=fun e=>by have:=h.hl e;omega
 have jT:cb≠g.pb:=by have:=h.hp;omega
 have hle:=h.scn.le;have dy:=h.scn.small;obtain⟨R,hR⟩:∃R,Rf.behind g.L g.pl what at_ r=R:=⟨_,rfl⟩;rw[hR];unfold Rf.behind at hR;rw[if_pos h0] at hR;have Vf:=vq g w r.s h.scn cb what at_ tx false false 0 hc fF cR jT;generalize Rf.text g.L g.pl r.s=s1 at*
 have HF:Hid (∀W',Scn g W' s1→ae (fun b=>b=g.x∨b=cb) w W'→rF g w B cb R W'):=fun W' hs o=>by rw[←hR];exact kn (h.moved2 hs hc.typ o) o
 clear hc hR
 rcases h0 with rfl | rfl | rfl
 all_goals
  go_enter Tryz.func85,Tryz.ntmps85;go_wp2_with fail;refine Vf.mono ?_;rintro e w1 ⟨rfl,h1,o1⟩;go_wp2
  (try simp only[Exit.inBlock,Exit.then])
  refine bodyPost_ret (results_none rfl _ _ _) rfl ?_;exact⟨rfl,HF.out _ h1 o1⟩
end
end Go.Proofs.YtbiobhghnldckaaGreatDoor
