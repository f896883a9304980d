/- Proved: what is wrong with a side of a y is told; a rune that stands twice is found. Conditions: the cursor lies in memory as 'Cur' says, and the parser leads to it. -/
import Derived.Test.YtbiobhghnldckaaGreatDoorS27
namespace Go.Proofs.YtbiobhghnldckaaGreatDoor
set_option linter.unusedVariables false
set_option maxRecDepth 100000
set_option maxHeartbeats 6400000
section
open Go.RowKit
attribute [local go_sem ↓] Go.wp_at_zero Go.wp_at_succ
theorem tm (g:CG) (pp:Nat) (w:World) (i:Nat) (h:Cur g w i) (hp:Lead g pp w) (f:Adz.Flt) (hr:Adz.sideRune g.L g.pl i=.error f):
 Calls Tryz.prog 197 #[.pointer (some ⟨pp,0,none⟩)] w fun e w'=>∃v,e=.returned (.tuple #[.int .i32 0,v])∧ck w w' v f∧ae (·=g.c) w w':=by
 unfold Adz.sideRune at hr;have q0:=hp.at0;by_cases c2:Adz.peek g.L i=92
 ·have b2:(Adz.peek g.L i==92)=true:=by simp[c2]
  rw[b2] at hr;simp only[if_true] at hr;have HE:Hid (Adz.escaped g.L g.pl Adz.sideSpecial (i+1)=.error f):=hr;clear hr b2;go_enter Tryz.func197,Tryz.ntmps197;go_wp2_with fail;refine(aC g w i 92 h c2 (by omega)).mono ?_;rintro e w1 ⟨rfl,cC,bq⟩;have q1:=(hp.moved bq).at0;go_wp2_with fail;refine(iM g _ (i+1) _ _ kl cC f HE.out).mono ?_;rintro e w2 ⟨v,rfl,hf,aK⟩;go_wp2;go_ret2;exact⟨v,rfl,hf.back bq.size,bq.trans aK (fun _ e=>e) (fun _ _ e=>e.elim)⟩
 ·have b2:(Adz.peek g.L i==92)=false:=by simpa using c2
  rw[b2] at hr;simp only[Bool.false_eq_true,if_false] at hr;have HE:Hid (Adz.plain g.L g.pl Adz.sideSpecial i=.error f):=hr;clear hr b2;go_enter Tryz.func197,Tryz.ntmps197;go_wp2_with fail;refine(aH g w i 92 h c2).mono ?_;rintro e w1 ⟨rfl,n1,rfl⟩;go_wp2_with fail;refine(lR g _ i _ _ kl (h.drewN n1) f HE.out).mono ?_;rintro e w2 ⟨v,rfl,hf,aK⟩;go_wp2;go_ret2;exact⟨v,rfl,hf.back (Nat.le_refl _),((ae.refl (·=g.c) w).drewN n1).trans aK (fun _ e=>e) (fun _ _ e=>e.elim)⟩
theorem vt (g:CG) (pp:Nat) (w:World) (i:Nat) (h:Cur g w i) (hp:Lead g pp w) (f:Adz.Flt) (hr:Adz.side g.L g.pl (g.L.length+1) [] i=.error f):
 Calls Tryz.prog 177 #[.pointer (some ⟨pp,0,none⟩)] w fun e w'=>∃v,e=.returned (.tuple #[.slice none 0 0,v])∧ck w w' v f∧ae (·=g.c) w w':=by
 have HR:Hid (Adz.side g.L g.pl (g.L.length+1) [] i=.error f):=hr;clear hr;have eN:=h.le;have dy:=h.small;have cR:=h.lt;go_enter Tryz.func177,Tryz.ntmps177;go_wp2_with fail
 go_loopg [4] (g.L.length - i) (fun k v wr=>∃j qs m ra rc,v=.slice ra qs.length rc∧Hid (Cur g wr j)∧Hid (Lead g pp wr)∧Hid (wr.ownsRow w.heap.size 21 1 (.slice ra qs.length rc) qs.length (qs.map (.int .i32)))∧j+k=g.L.length∧Hid (g.L.length<m+j∧qs.length≤j∧Adz.side g.L g.pl m qs j=.error f)∧Hid (ae (fun b=>b=g.c∨w.heap.size≤b) w wr))
 case atStart=>exact ⟨i,[],g.L.length+1,none,0,rfl,h,hp,World.ownsRow_nil _ _ _ _,by omega,⟨by omega,by simp,HR.out⟩,ae.refl _ _⟩
 case round=>
  obtain⟨j,qs,m,ra,rc,rfl,hc,hl,hw,hk,hI,hO⟩:=hrel;obtain⟨hm,jW,hit⟩:=hI.out;have aU:Cur g wr j:=hc;have fi:Lead g pp wr:=hl;have bQ:ae (fun b=>b=g.c∨w.heap.size≤b) w wr:=hO;have HK:Hid (j+gk=g.L.length):=hk;have q1:=fi.at0;clear hk hc hl hI hO
  cases m with
  | zero=>have:=aU.le;omega
  | succ m=>
   unfold Adz.side at hit;by_cases bK:Adz.peek g.L j=47
   ·simp[bK] at hit
   ·have fs:(Adz.peek g.L j==47)=false:=by simpa using bK
    rw[fs] at hit;simp only[Bool.false_eq_true,if_false] at hit
    cases jD:Adz.sideRune g.L g.pl j with
    | error f'=>
     rw[jD] at hit;simp only[Except.error.injEq] at hit;subst hit;have HP:Hid _:=jD;clear jD fs;go_wp2_with fail;refine(aH g wr j 47 aU bK).mono ?_;rintro e w1 ⟨rfl,n1,rfl⟩;go_wp2_with fail;refine(tm g pp _ j (aU.drewN n1) (fi.drewN n1) f' HP.out).mono ?_;rintro e w2 ⟨v,rfl,⟨fb,rfl,eW,hf⟩,aK⟩;have o2:ae (·=g.c) wr w2:=((ae.refl (·=g.c) wr).drewN n1).trans aK (fun _ e=>e) (fun _ _ e=>e);have DJ:wr.heap.size≤fb:=eW;have dr:=bQ.size;go_wp2;go_ret2;exact⟨_,rfl,⟨fb,rfl,by omega,hf⟩,(bQ.trans o2 (fun _ e=>e) (fun _ _ e=>Or.inl e):ae (fun b=>b=g.c∨w.heap.size≤b) w w2).mono (fun b hb e=>by rcases e with e | e;exact e;omega)⟩
    | ok q=>
     obtain⟨p,j1⟩:=q;rw[jD] at hit;simp only at hit;have HP:Hid (Adz.sideRune g.L g.pl j=.ok (p,j1)):=jD;have HT:Hid (Adz.side g.L g.pl m (qs++ [p]) j1=.error f):=hit;have aw:=jh jD;have mi:=aU.le;clear jD hit fs;go_wp2_with fail;refine(aH g wr j 47 aU bK).mono ?_;rintro e w1 ⟨rfl,n1,rfl⟩;go_wp2_with fail;refine(mM g pp _ j (aU.drewN n1) (fi.drewN n1) p j1 HP.out).mono ?_;rintro e w2 ⟨rfl,aL,aK⟩;have o2:ae (·=g.c) wr w2:=((ae.refl (·=g.c) wr).drewN n1).trans aK (fun _ e=>e) (fun _ _ e=>e);have eH:=ag (Hid.out hw) o2 (fun b hb e=>(aq.of_row (Hid.out hw) hb).ne aU.tc (by decide) e);have CU:=aL.le;have dr:w.heap.size≤w2.heap.size:=Nat.le_trans bQ.size o2.size;have oa:ae (fun _=>False) w2 (w2.alloc (.cells #[.int .i32 p] 21)):=(ae.refl _ w2).alloc _;have ga:=ag eH oa (fun _ _=>id)
     have iD:bY (w2.alloc (.cells #[.int .i32 p] 21)) (some ⟨w2.heap.size,0,none⟩) [p]:=fun _=>⟨w2.heap.size,0,rfl,aq.new _ _ _ _,fun j hj=>by
      have:j=0:=by simp at hj;omega
      subst this;exact(ai.new w2 #[.int .i32 p] 21 0 _ rfl).1⟩
     have BY:(w2.alloc (.cells #[.int .i32 p] 21)).heap.size=w2.heap.size+1:=by simp
     go_wp2_with (at_builtin;refine wpList_append_runes _ (by rfl) _ _ (by rfl) w.heap.size (.slice ra qs.length rc) qs.length qs (by rfl) ga (some ⟨w2.heap.size,0,none⟩) 1 [p] 1 (by rfl) rfl iD (by omega) (by rw[BY];omega) ?_;intro a1 c1 w3 br o1 DF);go_roundg (g.L.length - j1)
     case measure=>have:=HK.out;omega
     case rel=>
      have o3:ae (fun b=>(Value.slice ra qs.length rc).ownBlock=some b) w2 w3:=oa.trans o1 (fun _ e=>e.elim) (fun _ _ e=>e);refine⟨j1,qs++ [p],m,a1,c1,by simp,?_,?_,?_,by omega,⟨by omega,by simp;omega,HT.out⟩,?_⟩
      ·exact aL.keeps o3 (aG eH aL.tc (by decide)) (fun hn e=>by
        have t1:=aL.tr hn;have t2:=eH.lt _ e;have t3:=h.tr hn;have:=t3.lt;omega) (aG eH aL.tp (by decide))
      ·have fy:Lead g pp w2:=fi.moved o2
       exact fy.keeps o3 (aG eH fy.typ (by decide))
      ·rw[List.length_append]
       exact br
      ·exact(bQ.trans o2 (fun _ e=>e) (fun _ _ e=>Or.inl e):ae (fun b=>b=g.c∨w.heap.size≤b) w w2).trans o3 (fun _ e=>e) (fun b hb e=>Or.inr (eH.lt b e).1)
theorem vE:∀(l:List Int),Adz.hasTwice l=true→∃i j,i<j∧j<l.length∧l.getD i 0=l.getD j 0
 | [],h=>by simp[Adz.hasTwice] at h
 | r::l,h=>by
  simp only[Adz.hasTwice,Bool.or_eq_true] at h
  rcases h with h | h
  ·have hm:r∈l:=by simpa using h
   obtain⟨k,hk,e⟩:=List.getElem_of_mem hm;refine⟨0,k+1,by omega,by simpa using hk,?_⟩;rw[List.getD_cons_zero,List.getD_cons_succ,List.getD_eq_getElem?_getD,List.getElem?_eq_getElem hk];simp[e]
  ·obtain⟨i,j,h1,h2,h3⟩:=vE l h
   exact⟨i+1,j+1,by omega,by simpa using h2,by simpa using h3⟩
theorem rP (w:World) (sa:Option Addr) (sc:Nat) (xs:List Int) (h:bY w sa xs) (hx:xs.length≤1000000) (r:Int) (Lv:∃k,k<xs.length∧xs.getD k 0=r):
 Calls Tryz.prog 198 #[.slice sa xs.length sc,.int .i32 r] w fun e w'=>e=.returned (.bool true)∧w'=w:=by
 go_enter Tryz.func198,Tryz.ntmps198;go_wp2_with fail;refine(mw w sa sc xs h hx r).mono ?_;rintro e w1 ⟨⟨v,rfl,hv⟩,rfl⟩
 have RM:(0:Int)≤v:=by
  rcases hv with ⟨j,h1,h2,h3,h4⟩ |⟨_,h1⟩
  ·omega
  ·obtain⟨k,k1,k2⟩:=Lv
   exact absurd k2 (h1 k k1)
 clear hv Lv;go_wp2;go_ret;exact⟨rfl,rfl⟩
theorem r7 (w:World) (sa:Option Addr) (sc:Nat) (xs:List Int) (h:bY w sa xs) (hx:xs.length≤1000000) (cU:xs.length≤sc) (eO:Adz.hasTwice xs=true):
 Calls Tryz.prog 178 #[.slice sa xs.length sc] w fun e w'=>e=.returned (.bool true)∧∃m,w'=w.drewN m:=by
 have ht:=vE xs eO;clear eO;have HT:Hid _:=ht;clear ht;go_enter Tryz.func178,Tryz.ntmps178;go_wp2_with fail
 go_loopg [7] xs.length (fun k v wr=>∃j:Nat,v=.int .i64 j∧j+k=xs.length∧Hid (∀a b,a<b→b<j→xs.getD a 0≠xs.getD b 0)∧∃m,wr=w.drewN m)
 case atStart=>exact ⟨0,rfl,by omega,fun a b _ h=>absurd h (Nat.not_lt_zero b),0,rfl⟩
 case round=>
  obtain⟨j,rfl,jt,hq,m,rfl⟩:=hrel;have HJ:Hid (j+gk=xs.length):=jt;have mi:j≤xs.length:=by omega
  clear jt;by_cases aw:j<xs.length
  ·obtain⟨rb,ro,rfl,ht,hc⟩:=h (by intro e;simp[e] at aw)
   have y1:=((ae.refl (fun _=>False) w).drewN m).keeps (hc j aw) id;have HC:Hid _:=hc;clear hc;have hw:IntKind.i64.wrap ((j:Int)+1)=(j:Int)+1:=by rw[IntKind.wrap_i64];omega
   generalize hp:xs.getD j 0=p at*
   have HP:Hid (xs.getD j 0=p):=hp;clear hp;have hlen:(xs.take j).length=j:=by rw[List.length_take];omega
   by_cases hex:∃k,k<j∧xs.getD k 0=p
   ·have bF:=rP (w.drewN m) (some ⟨rb,ro,none⟩) sc (xs.take j) (fun aJ=>⟨rb,ro,rfl,ht.keeps ((ae.refl (fun _=>False) w).drewN m) id,fun k hk=>by
     rw[hlen] at hk;have e1:(xs.take j).getD k 0=xs.getD k 0:=by rw[List.getD_eq_getElem?_getD,List.getD_eq_getElem?_getD,List.getElem?_take,if_pos hk]
     rw[e1];exact((ae.refl (fun _=>False) w).drewN m).keeps (HC.out k (by omega)) id⟩) (by omega) p (by
     obtain⟨k,hk,e⟩:=hex;refine⟨k,by omega,?_⟩;rw[←e,List.getD_eq_getElem?_getD,List.getD_eq_getElem?_getD,List.getElem?_take,if_pos hk])
    rw[hlen] at bF;clear hex;go_wp2_with fail;refine bF.mono ?_;clear bF;rintro e w1 ⟨rfl,rfl⟩;go_wp2;go_ret;exact⟨rfl,m,rfl⟩
   ·have eP:∀k,k<j→xs.getD k 0≠p:=fun k hk e=>hex ⟨k,hk,e⟩
    have vM:Hid _:=eP
    have bF:=iI (w.drewN m) (some ⟨rb,ro,none⟩) sc (xs.take j) (fun aJ=>⟨rb,ro,rfl,ht.keeps ((ae.refl (fun _=>False) w).drewN m) id,fun k hk=>by
     rw[hlen] at hk;have e1:(xs.take j).getD k 0=xs.getD k 0:=by rw[List.getD_eq_getElem?_getD,List.getD_eq_getElem?_getD,List.getElem?_take,if_pos hk]
     rw[e1];exact((ae.refl (fun _=>False) w).drewN m).keeps (HC.out k (by omega)) id⟩) (by omega) p (fun k hk=>by
     rw[hlen] at hk;have e1:(xs.take j).getD k 0=xs.getD k 0:=by rw[List.getD_eq_getElem?_getD,List.getD_eq_getElem?_getD,List.getElem?_take,if_pos hk]
     rw[e1];exact eP k hk)
    rw[hlen] at bF;clear hex eP;go_wp2_with fail;refine bF.mono ?_;clear bF;rintro e w1 ⟨rfl,rfl⟩;go_wp2;go_roundg (gk - 1)
    case measure=>have:=HJ.out;omega
    case rel=>exact ⟨j+1,by first | rfl | simp[hw],by have:=HJ.out;omega,fun a b ha hb=>by
     rcases Nat.lt_succ_iff_lt_or_eq.1 hb with h1 | h1
     ·exact Hid.out hq a b ha h1
     ·subst h1;rw[HP.out];exact vM.out a ha,m,rfl⟩
  ·have he:j=xs.length:=by omega
   obtain⟨a,b,h1,h2,h3⟩:=HT.out;exact absurd h3 (Hid.out hq a b h1 (by omega))
theorem rV (g:CG) (pp cb:Nat) (w:World) (i:Nat) (at_:Int) (h:Cur g w i) (hp:Lead g pp w) (c:Adz.Cmd) (hc:CmdAt w cb c) (f:Adz.Flt) (hr:Adz.exchange g.L g.pl c at_ i=.error f):
 Calls Tryz.prog 151 #[.pointer (some ⟨pp,0,none⟩),.pointer (some ⟨cb,0,none⟩),.int .i64 at_] w fun e w'=>∃v,e=.returned v∧ck w w' v f∧ae (fun b=>b=g.c∨b=cb) w w':=by
 unfold Adz.exchange at hr;have Ol:=hc.typ.lt;by_cases bK:Adz.peek g.L i=47
 ·have fs:(Adz.peek g.L i !=47)=false:=by simp[bK]
  rw[fs] at hr;simp only[Bool.false_eq_true,if_false] at hr;clear fs
  cases lG:Adz.side g.L g.pl (g.L.length+1) [] (i+1) with
  | error f'=>
   rw[lG] at hr;simp only[Except.error.injEq] at hr;subst hr;have H1:Hid _:=lG;clear lG;have q0:=hp.at0;have bM:cb≠g.c:=hc.typ.ne h.tc (by decide);have gH:pp≠cb:=hp.typ.ne hc.typ (by decide);have dy:=h.small;go_enter Tryz.func151,Tryz.ntmps151;go_wp2_with fail;refine(aC g w i 47 h bK (by omega)).mono ?_;rintro e w1 ⟨rfl,cC,bq⟩;have l1:=hp.moved bq;have q1:=l1.at0;have m1:=hc.keeps bq h.spares bM;have eJ:=bq.size;go_wp2_with fail;refine(vt g pp w1 (i+1) cC l1 f' H1.out).mono ?_;rintro e w2 ⟨v,rfl,⟨fb,rfl,eW,hf⟩,aK⟩;have m2:=m1.keeps aK cC.spares bM;obtain⟨av,iv,om,fv,tv,k2,d2⟩:=m2.deep;have B8:=k2 12 _ rfl;have o3:ae (·=cb) w2 (w2.setCell ⟨cb,12,none⟩ (.slice none 0 0)):=af _ _ _ _;have qZ:=hf.keeps o3 (by omega);have Az:ae (fun b=>b=g.c∨b=cb) w (w2.setCell ⟨cb,12,none⟩ (.slice none 0 0)):=((aW bq aK).mono (fun _ _ e=>Or.inl e):ae (fun b=>b=g.c∨b=cb) w w2).trans o3 (fun _ e=>e) (fun _ _ e=>Or.inr e);have yF:Hid _:=qZ;have tL:Hid _:=Az;clear qZ Az o3 k2 d2;go_wp2;go_ret;exact⟨_,rfl,⟨fb,rfl,by omega,yF.out⟩,tL.out⟩
  | ok q=>
   obtain⟨a,i1⟩:=q;rw[lG] at hr;simp only at hr;have H1:Hid (Adz.side g.L g.pl (g.L.length+1) [] (i+1)=.ok (a,i1)):=lG;clear lG
   cases fm:Adz.side g.L g.pl (g.L.length+1) [] i1 with
   | error f'=>
    rw[fm] at hr;simp only[Except.error.injEq] at hr;subst hr;have H2:Hid _:=fm;clear fm;have q0:=hp.at0;have bM:cb≠g.c:=hc.typ.ne h.tc (by decide);have gH:pp≠cb:=hp.typ.ne hc.typ (by decide);have dy:=h.small;go_enter Tryz.func151,Tryz.ntmps151;go_wp2_with fail;refine(aC g w i 47 h bK (by omega)).mono ?_;rintro e w1 ⟨rfl,cC,bq⟩;have l1:=hp.moved bq;have q1:=l1.at0;have m1:=hc.keeps bq h.spares bM;have eJ:=bq.size;go_wp2_with fail;refine(gZ g pp w1 (i+1) cC l1 a i1 H1.out).mono ?_;rintro e w2 ⟨rv,rfl,sw,xW,aL,aK⟩;obtain⟨ra,rc,rfl⟩:=ak sw;have l2:=l1.moved aK;have m2:=m1.keeps aK cC.spares bM;have eF:=aK.size;obtain⟨av,iv,om,fv,tv,k2,d2⟩:=m2.deep;have B8:=k2 12 _ rfl;have o3:ae (·=cb) w2 (w2.setCell ⟨cb,12,none⟩ (.slice ra a.length rc)):=af _ _ _ _;have rB:Spares w2 (·=cb):=aS m2.typ (by decide);have k3:ai (w2.setCell ⟨cb,12,none⟩ (.slice ra a.length rc)) cb (aA {c with old:=a} av iv om (.slice ra a.length rc) tv):=k2.set 12 _;have t3:aq (w2.setCell ⟨cb,12,none⟩ (.slice ra a.length rc)) cb 167:=m2.typ.set;have dJ:=aL.aside o3 m2.typ;have l3:=l2.keeps o3 gH;have r3:cX (w2.setCell ⟨cb,12,none⟩ (.slice ra a.length rc)) (.slice ra a.length rc) a:=sw.keeps o3 rB.rune;have Pt:=o3.size;go_wp2_with fail;generalize w2.setCell ⟨cb,12,none⟩ (.slice ra a.length rc)=w3 at*
    clear B8 k2 d2;have Az:ae (fun b=>b=g.c∨b=cb) w w3:=((aW bq aK).mono (fun _ _ e=>Or.inl e):ae (fun b=>b=g.c∨b=cb) w w2).trans o3 (fun _ e=>e) (fun _ _ e=>Or.inr e);refine(vt g pp w3 i1 dJ l3 f' H2.out).mono ?_;rintro e w4 ⟨v,rfl,⟨fb,rfl,eW,hf⟩,dg⟩;have t4:=t3.keeps dg bM;have k4:=k3.keeps dg bM;have Jh:=k4 13 _ rfl;have o5:ae (·=cb) w4 (w4.setCell ⟨cb,13,none⟩ (.slice none 0 0)):=af _ _ _ _;have zj:=hf.keeps o5 (by omega);have sL:ae (fun b=>b=g.c∨b=cb) w (w4.setCell ⟨cb,13,none⟩ (.slice none 0 0)):=(Az.trans dg (fun _ e=>e) (fun _ _ e=>Or.inl e):ae (fun b=>b=g.c∨b=cb) w w4).trans o5 (fun _ e=>e) (fun _ _ e=>Or.inr e);have yF:Hid _:=zj;have tL:Hid _:=sL;clear zj sL o5 k3 k4 r3;go_wp2;go_ret;exact⟨_,rfl,⟨fb,rfl,by omega,yF.out⟩,tL.out⟩
   | ok q=>
    obtain⟨b,i2⟩:=q;rw[fm] at hr;simp only at hr;have H2:Hid (Adz.side g.L g.pl (g.L.length+1) [] i1=.ok (b,i2)):=fm;clear fm
    cases cl:(a.length !=b.length || Adz.hasTwice a) with
    | false=>rw [cl] at hr;cases hr
    | true=>
     rw[cl] at hr;simp only[if_true,Except.error.injEq] at hr;subst hr;by_cases hlen:a.length=b.length
     ·have Au:Adz.hasTwice a=true:=by simpa[hlen] using cl
      have Na:Hid _:=Au;clear cl Au;have q0:=hp.at0;have bM:cb≠g.c:=hc.typ.ne h.tc (by decide);have gH:pp≠cb:=hp.typ.ne hc.typ (by decide);have dy:=h.small;go_enter Tryz.func151,Tryz.ntmps151;go_wp2_with fail;refine(aC g w i 47 h bK (by omega)).mono ?_;rintro e w1 ⟨rfl,cC,bq⟩;have l1:=hp.moved bq;have q1:=l1.at0;have m1:=hc.keeps bq h.spares bM;have eJ:=bq.size;go_wp2_with fail;refine(gZ g pp w1 (i+1) cC l1 a i1 H1.out).mono ?_;rintro e w2 ⟨rv,rfl,sw,xW,aL,aK⟩;obtain⟨ra,rc,rfl⟩:=ak sw;have l2:=l1.moved aK;have m2:=m1.keeps aK cC.spares bM;have eF:=aK.size;obtain⟨av,iv,om,fv,tv,k2,d2⟩:=m2.deep;have B8:=k2 12 _ rfl;rw[hlen] at sw;have o3:ae (·=cb) w2 (w2.setCell ⟨cb,12,none⟩ (.slice ra b.length rc)):=af _ _ _ _;have rB:Spares w2 (·=cb):=aS m2.typ (by decide);have k3:ai (w2.setCell ⟨cb,12,none⟩ (.slice ra b.length rc)) cb (aA {c with old:=a} av iv om (.slice ra b.length rc) tv):=k2.set 12 _;have t3:aq (w2.setCell ⟨cb,12,none⟩ (.slice ra b.length rc)) cb 167:=m2.typ.set;have dJ:=aL.aside o3 m2.typ;have l3:=l2.keeps o3 gH;have r3:cX (w2.setCell ⟨cb,12,none⟩ (.slice ra b.length rc)) (.slice ra b.length rc) a:=sw.keeps o3 rB.rune;have Pt:=o3.size;go_wp2_with fail;generalize w2.setCell ⟨cb,12,none⟩ (.slice ra b.length rc)=w3 at*
      clear B8 k2 d2;have Az:ae (fun b=>b=g.c∨b=cb) w w3:=((aW bq aK).mono (fun _ _ e=>Or.inl e):ae (fun b=>b=g.c∨b=cb) w w2).trans o3 (fun _ e=>e) (fun _ _ e=>Or.inr e);refine(gZ g pp w3 i1 dJ l3 b i2 H2.out).mono ?_;rintro e w4 ⟨rv,rfl,zA,lC,eu,dg⟩;obtain⟨rb,vh,rfl⟩:=ak zA;have l4:=l3.moved dg;have t4:=t3.keeps dg bM;have k4:=k3.keeps dg bM;have r4:=r3.keeps dg dJ.spares.rune;have MH:=dg.size;have Jh:=k4 13 _ rfl;have o5:ae (·=cb) w4 (w4.setCell ⟨cb,13,none⟩ (.slice rb b.length vh)):=af _ _ _ _;have vx:Spares w4 (·=cb):=aS t4 (by decide);have k5:ai (w4.setCell ⟨cb,13,none⟩ (.slice rb b.length vh)) cb (aA {c with old:=a,new:=b} av iv om (.slice ra b.length rc) (.slice rb b.length vh)):=k4.set 13 _;have r5:=r4.keeps o5 vx.rune;have RQ:=o5.size;have jG:=(k5 12 _ rfl).1;have jH:=(k5 13 _ rfl).1;go_wp2_with fail;generalize w4.setCell ⟨cb,13,none⟩ (.slice rb b.length vh)=w5 at*
      have sL:ae (fun b=>b=g.c∨b=cb) w w5:=(Az.trans dg (fun _ e=>e) (fun _ _ e=>Or.inl e):ae (fun b=>b=g.c∨b=cb) w w4).trans o5 (fun _ e=>e) (fun _ _ e=>Or.inr e)
      have cD:w5.ownsRow 0 21 1 (.slice ra a.length rc) a.length (a.map (.int .i32)):=by
       have:=r5;unfold cX at this
       rwa [←hlen] at this
      have qA:=Sl.of_row cD;have bF:=fun m=>r7 (w5.drewN m) ra rc a (qA.1.space.keeps ((ae.refl (fun _=>False) _).drewN m) (fun _ _=>id)) (by omega) qA.2 Na.out;rw[hlen] at bF;clear k5 r5 qA cD k3 k4 r3 r4
      go_quiet ((go_at_call 178;exact Calls.quiet_of (bF _)))
      go_wp2_with fail;refine(aV 4 _ _).mono ?_;rintro e w6 ⟨rfl,rfl⟩;go_wp2;go_ret;exact⟨_,rfl,⟨_,rfl,by show w.heap.size≤w5.heap.size;omega,db.new _ _ _⟩,(sL.drewN _).alloc _⟩
     ·have b0:((a.length:Int)==(b.length:Int))=false:=beq_eq_false_iff_ne.2 (by omega)
      have b2:((a.length:Int) !=(b.length:Int))=true:=by unfold bne;rw[b0];rfl
      have b3:(a.length==b.length)=false:=by simpa using hlen
      clear cl;have q0:=hp.at0;have bM:cb≠g.c:=hc.typ.ne h.tc (by decide);have gH:pp≠cb:=hp.typ.ne hc.typ (by decide);have dy:=h.small;go_enter Tryz.func151,Tryz.ntmps151;go_wp2_with fail;refine(aC g w i 47 h bK (by omega)).mono ?_;rintro e w1 ⟨rfl,cC,bq⟩;have l1:=hp.moved bq;have q1:=l1.at0;have m1:=hc.keeps bq h.spares bM;have eJ:=bq.size;go_wp2_with fail;refine(gZ g pp w1 (i+1) cC l1 a i1 H1.out).mono ?_;rintro e w2 ⟨rv,rfl,sw,xW,aL,aK⟩;obtain⟨ra,rc,rfl⟩:=ak sw;have l2:=l1.moved aK;have m2:=m1.keeps aK cC.spares bM;have eF:=aK.size;obtain⟨av,iv,om,fv,tv,k2,d2⟩:=m2.deep;have B8:=k2 12 _ rfl;have o3:ae (·=cb) w2 (w2.setCell ⟨cb,12,none⟩ (.slice ra a.length rc)):=af _ _ _ _;have rB:Spares w2 (·=cb):=aS m2.typ (by decide);have k3:ai (w2.setCell ⟨cb,12,none⟩ (.slice ra a.length rc)) cb (aA {c with old:=a} av iv om (.slice ra a.length rc) tv):=k2.set 12 _;have t3:aq (w2.setCell ⟨cb,12,none⟩ (.slice ra a.length rc)) cb 167:=m2.typ.set;have dJ:=aL.aside o3 m2.typ;have l3:=l2.keeps o3 gH;have r3:cX (w2.setCell ⟨cb,12,none⟩ (.slice ra a.length rc)) (.slice ra a.length rc) a:=sw.keeps o3 rB.rune;have Pt:=o3.size;go_wp2_with fail;generalize w2.setCell ⟨cb,12,none⟩ (.slice ra a.length rc)=w3 at*
      clear B8 k2 d2;have Az:ae (fun b=>b=g.c∨b=cb) w w3:=((aW bq aK).mono (fun _ _ e=>Or.inl e):ae (fun b=>b=g.c∨b=cb) w w2).trans o3 (fun _ e=>e) (fun _ _ e=>Or.inr e);refine(gZ g pp w3 i1 dJ l3 b i2 H2.out).mono ?_;rintro e w4 ⟨rv,rfl,zA,lC,eu,dg⟩;obtain⟨rb,vh,rfl⟩:=ak zA;have l4:=l3.moved dg;have t4:=t3.keeps dg bM;have k4:=k3.keeps dg bM;have r4:=r3.keeps dg dJ.spares.rune;have MH:=dg.size;have Jh:=k4 13 _ rfl;have o5:ae (·=cb) w4 (w4.setCell ⟨cb,13,none⟩ (.slice rb b.length vh)):=af _ _ _ _;have vx:Spares w4 (·=cb):=aS t4 (by decide);have k5:ai (w4.setCell ⟨cb,13,none⟩ (.slice rb b.length vh)) cb (aA {c with old:=a,new:=b} av iv om (.slice ra a.length rc) (.slice rb b.length vh)):=k4.set 13 _;have r5:=r4.keeps o5 vx.rune;have RQ:=o5.size;have jG:=(k5 12 _ rfl).1;have jH:=(k5 13 _ rfl).1;go_wp2_with fail;generalize w4.setCell ⟨cb,13,none⟩ (.slice rb b.length vh)=w5 at*
      have sL:ae (fun b=>b=g.c∨b=cb) w w5:=(Az.trans dg (fun _ e=>e) (fun _ _ e=>Or.inl e):ae (fun b=>b=g.c∨b=cb) w w4).trans o5 (fun _ e=>e) (fun _ _ e=>Or.inr e);clear k5 r5 k3 k4 r3 r4
      go_quiet (fail)
      go_wp2_with fail;refine(aV 4 _ _).mono ?_;rintro e w6 ⟨rfl,rfl⟩;go_wp2;go_ret;exact⟨_,rfl,⟨_,rfl,by show w.heap.size≤w5.heap.size;omega,db.new _ _ _⟩,(sL.drewN _).alloc _⟩
 ·have fs:(Adz.peek g.L i !=47)=true:=by simpa[bne] using bK
  rw[fs] at hr;simp only[if_true,Except.error.injEq] at hr;subst hr;have q0:=hp.at0;clear fs;go_enter Tryz.func151,Tryz.ntmps151;go_wp2_with fail;refine(aH g w i 47 h bK).mono ?_;rintro e w1 ⟨rfl,n1,rfl⟩;go_wp2_with fail;refine(aX g _ i (h.drewN n1)).mono ?_;rintro e w3 ⟨v,rfl,hf,o3⟩;go_wp2;go_ret;exact⟨v,rfl,hf.back (Nat.le_refl _),((ae.refl (fun b=>b=g.c∨b=cb) w).drewN n1).trans o3 (fun _ e=>e) (fun _ _ e=>e.elim)⟩
theorem pD {x k:Int} (h:Adz.behindKind x=some k):(x,k)∈Adz.behTable:=by
 unfold Adz.behindKind at h
 cases hf:Adz.behTable.find? (fun p=>x==p.1) with
 | none=>rw [hf] at h;cases h
 | some p=>
  rw[hf] at h;simp only[Option.map_some,Option.some.injEq] at h;have h1:=List.mem_of_find?_eq_some hf;have h2:x=p.1:=by simpa using List.find?_some hf
  subst h h2;exact h1
theorem jY {x k:Int} (h:Adz.behindKind x=some k):k=0∨k=1∨k=2∨k=3∨k=4∨k=5∨k=6:=
 (show ∀p∈Adz.behTable,p.2=0∨p.2=1∨p.2=2∨p.2=3∨p.2=4∨p.2=5∨p.2=6 by decide) _ (pD h)
theorem Ib {x:Int} (h:Adz.behindKind x=some 1):x=123:=
 (show ∀p∈Adz.behTable,p.2=1→p.1=123 by decide) _ (pD h) rfl
theorem Ic {x:Int} (h:Adz.behindKind x=some 5):x=115:=
 (show ∀p∈Adz.behTable,p.2=5→p.1=115 by decide) _ (pD h) rfl
theorem gR {L pl:List Int}:∀ {n:Nat}{c c':Adz.Cmd}{i i':Nat},Adz.flags L pl n c i=.ok (c',i')→c'.what=c.what
 | 0,c,c',i,i',h=>by cases h
 | n+1,c,c',i,i',h=>by
  unfold Adz.flags at h;simp only at h;split at h
  ·have t:=gR h
   exact t
  ·split at h
   ·have t:=gR h
    exact t
   ·split at h
    ·split at h
     ·cases h
     ·have t:=gR h
      exact t
    ·injection h with h;injection h with h1 h2;rw[h1]
theorem fW {L pl:List Int}{c c':Adz.Cmd}{i i':Nat} (h:Adz.substitution L pl c i=.ok (c',i')):c'.what=c.what:=by
 unfold Adz.substitution at h;split at h
 ·cases h
 ·split at h
  ·cases h
  ·split at h
   ·cases h
   ·have t:=gR h
    exact t
theorem tt {L pl:List Int}:∀ {n:Nat}{rs Jm:List Int}{i i':Nat},Adz.side L pl n rs i=.ok (Jm,i')→i≤i'
 | 0,rs,Jm,i,i',h=>by cases h
 | n+1,rs,Jm,i,i',h=>by
  unfold Adz.side at h;split at h
  ·injection h with h;injection h with h1 h2;omega
  ·split at h
   ·cases h
   ·rename_i r i1 hr
    have:=jh hr;have:=tt h;omega
theorem iN {L pl:List Int}{c c':Adz.Cmd}{at_:Int}{i i':Nat} (h:Adz.exchange L pl c at_ i=.ok (c',i')):i≤i'∧c'.what=c.what∧∀a,Adz.exchange L pl c a i=.ok (c',i'):=by
 unfold Adz.exchange at h;split at h
 ·cases h
 ·rename_i bK
  cases h1:Adz.side L pl (L.length+1) [] (i+1) with
  | error f=>rw [h1] at h;cases h
  | ok q=>
   obtain⟨a,i1⟩:=q;rw[h1] at h;simp only at h
   cases h2:Adz.side L pl (L.length+1) [] i1 with
   | error f=>rw [h2] at h;cases h
   | ok q=>
    obtain⟨b,i2⟩:=q;rw[h2] at h;simp only at h;split at h
    ·cases h
    ·rename_i hb
     simp only[Except.ok.injEq,Prod.mk.injEq] at h;obtain⟨rfl,rfl⟩:=h;have e1:=tt h1;have e2:=tt h2
     exact⟨by omega,rfl,fun V7=>by
      unfold Adz.exchange;rw[if_neg bK,h1];simp only;rw[h2];simp only;rw[if_neg hb]⟩
theorem kW {L pl:List Int}{c c':Adz.Cmd}{i i':Nat} (h:Adz.textOf L pl c i=.ok (c',i')):i≤i'∧c'.what=c.what:=by
 unfold Adz.textOf at h;simp only at h;split at h
 ·injection h with h;injection h with h1 h2;exact⟨by omega,by rw[h1]⟩
 ·split at h
  ·cases h
  ·simp only[Except.ok.injEq,Prod.mk.injEq] at h
   obtain⟨rfl,rfl⟩:=h;exact⟨by omega,rfl⟩
theorem nK {g:CG}{pp i1 i':Nat}{s:Adz.Ps}{c c':Adz.Cmd} (hB:tI g pp s.cmds.length c (i1+1) c' i') (Mx:s.i≤i'):tJ g pp i1 s {s with i:=i'} c c':=fun base u w cb h o hC hi hc iR=>by
 have hP:=h.moved hC o hi;refine(hB w cb (Adz.place g.pl i1) hC hP.lead hP.table hc).mono ?_;rintro e w' ⟨he,kc,aU,o'⟩;have ou:ae (·=g.c) u w':=o.trans o' (fun _ e=>e) (fun b hb e=>by rcases e with e | e;exact e;omega);exact⟨he,kc,h.moved aU ou Mx,ou.cell (p:=⟨pp,2,none⟩) h.lead.lt h.lead.ne,ou.mono (fun _ _ e=>Or.inl e)⟩
theorem yN (g:CG) (pp i1 i':Nat) (s:Adz.Ps) (c c':Adz.Cmd) (hk:Adz.behindKind c.what=some 3) (gA:dw s.labs) (ec:List Adz.Lab) (hr:Adz.setLabel g.L g.pl s c (Adz.place g.pl i1) (i1+1)=.ok (c',ec,i')):
 tJ g pp i1 s {s with i:=i',labs:=ec} c c':=fun base u w cb h o hC hi hc iR=>by
 have hP:=h.moved hC o hi;obtain⟨mb,m1,m2⟩:=hP.map;obtain⟨av,iv,rv,fv,tv,kk,dd⟩:=hc.deep;have k0:=(kk 0 _ rfl).1;have q0:=hP.lead.at0
 have kD:∀m,(Instr.lookup 115 (.map (some mb)) (.int .i32 c.what) false).run Tryz.prog (w.drewN m)=.ok (.int .i64 3) (w.drewN m):=fun m=>by
  have:=bj (w.drewN m) mb c.what m2;rw[hk] at this;exact this
 have dp:=fun m=>tk h (o.drewN m) (hC.drewN m) hi c c' (hc.keeps ((ae.refl (·=g.c) w).drewN m) hC.spares (hc.typ.ne hC.tc (by decide))) iR gA (Adz.place g.pl i1) ec hr;clear kk dd hk hr;generalize c.what=wh at*
 go_enter Tryz.func103,Tryz.ntmps103;go_wp2_with fail
 go_quiet (fail)
 go_wp2_with fail;refine(dp _).mono ?_;clear dp;rintro e w5 ⟨rfl,kc,DC,hq,o5⟩;go_wp2;go_ret;exact⟨rfl,kc,DC,hq,o5.mono (fun b _ e=>by rcases e with e | e;exact Or.inl e;exact Or.inr (Or.inr e))⟩
theorem yL (g:CG) (pp i1 i':Nat) (s:Adz.Ps) (c c':Adz.Cmd) (hk:Adz.behindKind c.what=some 4) (gA:dw s.labs) (ec:List Adz.Lab) (hr:Adz.askLabel g.L g.pl s c (Adz.place g.pl i1) (i1+1)=.ok (c',ec,i')):
 tJ g pp i1 s {s with i:=i',labs:=ec} c c':=fun base u w cb h o hC hi hc iR=>by
 have hP:=h.moved hC o hi;obtain⟨mb,m1,m2⟩:=hP.map;obtain⟨av,iv,rv,fv,tv,kk,dd⟩:=hc.deep;have k0:=(kk 0 _ rfl).1;have q0:=hP.lead.at0
 have kD:∀m,(Instr.lookup 115 (.map (some mb)) (.int .i32 c.what) false).run Tryz.prog (w.drewN m)=.ok (.int .i64 4) (w.drewN m):=fun m=>by
  have:=bj (w.drewN m) mb c.what m2;rw[hk] at this;exact this
 have dp:=fun m=>rJ h (o.drewN m) (hC.drewN m) hi c c' (hc.keeps ((ae.refl (·=g.c) w).drewN m) hC.spares (hc.typ.ne hC.tc (by decide))) iR gA (Adz.place g.pl i1) ec hr;clear kk dd hk hr;generalize c.what=wh at*
 go_enter Tryz.func103,Tryz.ntmps103;go_wp2_with fail
 go_quiet (fail)
 go_wp2_with fail;refine(dp _).mono ?_;clear dp;rintro e w5 ⟨rfl,kc,DC,hq,o5⟩;go_wp2;go_ret;exact⟨rfl,kc,DC,hq,o5.mono (fun b _ e=>by rcases e with e | e;exact Or.inl e;exact Or.inr (Or.inr e))⟩
theorem yK {g:CG}{pp base:Nat}{u w:World}{s:Adz.Ps}{cb i:Nat} (h:Par g pp base u s) (o:ae (·=g.c) u w) (hC:Cur g w i) (hi:s.i≤i) (c:Adz.Cmd) (hc:CmdAt w cb c) (iR:u.heap.size≤cb) (hk:Adz.behindKind c.what=some 2) (at_:Int) (f:Adz.Flt) (hr:Adz.textOf g.L g.pl c i=.error f):
 Calls Tryz.prog 103 #[.pointer (some ⟨pp,0,none⟩),.pointer (some ⟨cb,0,none⟩),.int .i64 at_] w fun e w'=>∃v,e=.returned v∧ck w w' v f∧ae (fun b=>b=g.c∨b=cb) w w':=by
 have hP:=h.moved hC o hi;obtain⟨mb,m1,m2⟩:=hP.map;obtain⟨av,iv,rv,fv,tv,kk,dd⟩:=hc.deep;have k0:=(kk 0 _ rfl).1;have q0:=hP.lead.at0
 have kD:∀m,(Instr.lookup 115 (.map (some mb)) (.int .i32 c.what) false).run Tryz.prog (w.drewN m)=.ok (.int .i64 2) (w.drewN m):=fun m=>by
  have:=bj (w.drewN m) mb c.what m2;rw[hk] at this;exact this
 have fN:=fun m=>hc.keeps ((ae.refl (·=g.c) w).drewN m) hC.spares (hc.typ.ne hC.tc (by decide));have dp:=fun m=>Cz g pp cb (w.drewN m) i (hC.drewN m) (hP.lead.drewN m) c f hr;clear kk dd hk hr fN;generalize c.what=wh at*
 go_enter Tryz.func103,Tryz.ntmps103;go_wp2_with fail
 go_quiet (fail)
 go_wp2_with fail;refine(dp _).mono ?_;clear dp;rintro e w5 ⟨v,rfl,hf,o5⟩;go_wp2;go_ret;exact⟨v,rfl,hf.back (Nat.le_refl _),((ae.refl (fun b=>b=g.c∨b=cb) w).drewN _).trans o5 (fun _ e=>e) (fun b _ e=>by first | exact e | exact e.elim)⟩
theorem AQ {g:CG}{pp base:Nat}{u w:World}{s:Adz.Ps}{cb i:Nat} (h:Par g pp base u s) (o:ae (·=g.c) u w) (hC:Cur g w i) (hi:s.i≤i) (c:Adz.Cmd) (hc:CmdAt w cb c) (iR:u.heap.size≤cb) (hk:Adz.behindKind c.what=some 3) (at_:Int) (f:Adz.Flt) (hr:Adz.setLabel g.L g.pl s c at_ i=.error f):
 Calls Tryz.prog 103 #[.pointer (some ⟨pp,0,none⟩),.pointer (some ⟨cb,0,none⟩),.int .i64 at_] w fun e w'=>∃v,e=.returned v∧ck w w' v f∧ae (fun b=>b=g.c∨b=cb) w w':=by
 have hP:=h.moved hC o hi;obtain⟨mb,m1,m2⟩:=hP.map;obtain⟨av,iv,rv,fv,tv,kk,dd⟩:=hc.deep;have k0:=(kk 0 _ rfl).1;have q0:=hP.lead.at0
 have kD:∀m,(Instr.lookup 115 (.map (some mb)) (.int .i32 c.what) false).run Tryz.prog (w.drewN m)=.ok (.int .i64 3) (w.drewN m):=fun m=>by
  have:=bj (w.drewN m) mb c.what m2;rw[hk] at this;exact this
 have fN:=fun m=>hc.keeps ((ae.refl (·=g.c) w).drewN m) hC.spares (hc.typ.ne hC.tc (by decide));have dp:=fun m=>qK h (o.drewN m) (hC.drewN m) hi c (fN m) iR at_ f hr;clear kk dd hk hr fN;generalize c.what=wh at*
 go_enter Tryz.func103,Tryz.ntmps103;go_wp2_with fail
 go_quiet (fail)
 go_wp2_with fail;refine(dp _).mono ?_;clear dp;rintro e w5 ⟨v,rfl,hf,o5⟩;go_wp2;go_ret;exact⟨v,rfl,hf.back (Nat.le_refl _),((ae.refl (fun b=>b=g.c∨b=cb) w).drewN _).trans o5 (fun _ e=>e) (fun b _ e=>by first | exact e | exact e.elim)⟩
theorem AP {g:CG}{pp base:Nat}{u w:World}{s:Adz.Ps}{cb i:Nat} (h:Par g pp base u s) (o:ae (·=g.c) u w) (hC:Cur g w i) (hi:s.i≤i) (c:Adz.Cmd) (hc:CmdAt w cb c) (iR:u.heap.size≤cb) (hk:Adz.behindKind c.what=some 4) (at_:Int) (f:Adz.Flt) (hr:Adz.askLabel g.L g.pl s c at_ i=.error f):
 Calls Tryz.prog 103 #[.pointer (some ⟨pp,0,none⟩),.pointer (some ⟨cb,0,none⟩),.int .i64 at_] w fun e w'=>∃v,e=.returned v∧ck w w' v f∧ae (fun b=>b=g.c∨b=cb) w w':=by
 have hP:=h.moved hC o hi;obtain⟨mb,m1,m2⟩:=hP.map;obtain⟨av,iv,rv,fv,tv,kk,dd⟩:=hc.deep;have k0:=(kk 0 _ rfl).1;have q0:=hP.lead.at0
 have kD:∀m,(Instr.lookup 115 (.map (some mb)) (.int .i32 c.what) false).run Tryz.prog (w.drewN m)=.ok (.int .i64 4) (w.drewN m):=fun m=>by
  have:=bj (w.drewN m) mb c.what m2;rw[hk] at this;exact this
 have fN:=fun m=>hc.keeps ((ae.refl (·=g.c) w).drewN m) hC.spares (hc.typ.ne hC.tc (by decide));have dp:=fun m=>qi h (o.drewN m) (hC.drewN m) hi c (fN m) iR at_ f hr;clear kk dd hk hr fN;generalize c.what=wh at*
 go_enter Tryz.func103,Tryz.ntmps103;go_wp2_with fail
 go_quiet (fail)
 go_wp2_with fail;refine(dp _).mono ?_;clear dp;rintro e w5 ⟨v,rfl,hf,o5⟩;go_wp2;go_ret;exact⟨v,rfl,hf.back (Nat.le_refl _),((ae.refl (fun b=>b=g.c∨b=cb) w).drewN _).trans o5 (fun _ e=>e) (fun b _ e=>by first | exact e | exact e.elim)⟩
theorem Gj {g:CG}{pp base:Nat}{u w:World}{s:Adz.Ps}{cb i:Nat} (h:Par g pp base u s) (o:ae (·=g.c) u w) (hC:Cur g w i) (hi:s.i≤i) (c:Adz.Cmd) (hc:CmdAt w cb c) (iR:u.heap.size≤cb) (hk:Adz.behindKind c.what=some 5) (at_:Int) (f:Adz.Flt) (hr:Adz.substitution g.L g.pl c i=.error f):
 Calls Tryz.prog 103 #[.pointer (some ⟨pp,0,none⟩),.pointer (some ⟨cb,0,none⟩),.int .i64 at_] w fun e w'=>∃v,e=.returned v∧ck w w' v f∧ae (fun b=>b=g.c∨b=cb) w w':=by
 have hP:=h.moved hC o hi;obtain⟨mb,m1,m2⟩:=hP.map;obtain⟨av,iv,rv,fv,tv,kk,dd⟩:=hc.deep;have k0:=(kk 0 _ rfl).1;have q0:=hP.lead.at0
 have kD:∀m,(Instr.lookup 115 (.map (some mb)) (.int .i32 c.what) false).run Tryz.prog (w.drewN m)=.ok (.int .i64 5) (w.drewN m):=fun m=>by
  have:=bj (w.drewN m) mb c.what m2;rw[hk] at this;exact this
 have fN:=fun m=>hc.keeps ((ae.refl (·=g.c) w).drewN m) hC.spares (hc.typ.ne hC.tc (by decide));have dp:=fun m=>lX g pp cb (w.drewN m) i (hC.drewN m) (hP.lead.drewN m) c (fN m) f hr;clear kk dd hk hr fN;generalize c.what=wh at*
 go_enter Tryz.func103,Tryz.ntmps103;go_wp2_with fail
 go_quiet (fail)
 go_wp2_with fail;refine(dp _).mono ?_;clear dp;rintro e w5 ⟨v,rfl,hf,o5⟩;go_wp2;go_ret;exact⟨v,rfl,hf.back (Nat.le_refl _),((ae.refl (fun b=>b=g.c∨b=cb) w).drewN _).trans o5 (fun _ e=>e) (fun b _ e=>by first | exact e | exact e.elim)⟩
theorem Gk {g:CG}{pp base:Nat}{u w:World}{s:Adz.Ps}{cb i:Nat} (h:Par g pp base u s) (o:ae (·=g.c) u w) (hC:Cur g w i) (hi:s.i≤i) (c:Adz.Cmd) (hc:CmdAt w cb c) (iR:u.heap.size≤cb) (hk:Adz.behindKind c.what=some 6) (at_:Int) (f:Adz.Flt) (hr:Adz.exchange g.L g.pl c at_ i=.error f):
 Calls Tryz.prog 103 #[.pointer (some ⟨pp,0,none⟩),.pointer (some ⟨cb,0,none⟩),.int .i64 at_] w fun e w'=>∃v,e=.returned v∧ck w w' v f∧ae (fun b=>b=g.c∨b=cb) w w':=by
 have hP:=h.moved hC o hi;obtain⟨mb,m1,m2⟩:=hP.map;obtain⟨av,iv,rv,fv,tv,kk,dd⟩:=hc.deep;have k0:=(kk 0 _ rfl).1;have q0:=hP.lead.at0
 have kD:∀m,(Instr.lookup 115 (.map (some mb)) (.int .i32 c.what) false).run Tryz.prog (w.drewN m)=.ok (.int .i64 6) (w.drewN m):=fun m=>by
  have:=bj (w.drewN m) mb c.what m2;rw[hk] at this;exact this
 have fN:=fun m=>hc.keeps ((ae.refl (·=g.c) w).drewN m) hC.spares (hc.typ.ne hC.tc (by decide));have dp:=fun m=>rV g pp cb (w.drewN m) i at_ (hC.drewN m) (hP.lead.drewN m) c (fN m) f hr;clear kk dd hk hr fN;generalize c.what=wh at*
 go_enter Tryz.func103,Tryz.ntmps103;go_wp2_with fail
 go_quiet (fail)
 go_wp2_with fail;refine(dp _).mono ?_;clear dp;rintro e w5 ⟨v,rfl,hf,o5⟩;go_wp2;go_ret;exact⟨v,rfl,hf.back (Nat.le_refl _),((ae.refl (fun b=>b=g.c∨b=cb) w).drewN _).trans o5 (fun _ e=>e) (fun b _ e=>by first | exact e | exact e.elim)⟩
theorem tX (g:CG) (pp i1 i':Nat) (s:Adz.Ps) (c c':Adz.Cmd) (ct:g.L.length≤g.rcap) (gA:dw s.labs) (I5:s.opens.length≤5) (hi:s.i≤i1+1) (k:Int) (hk:Adz.behindKind c.what=some k) (os:List Int) (ls:List Adz.Lab) (hr:Adz.behind g.L g.pl s c (Adz.place g.pl i1) (i1+1)=.ok (c',os,ls,i')):
 tJ g pp i1 s {s with i:=i',opens:=os,labs:=ls} c c'∧i1+1≤i'∧dw ls∧c'.what=c.what∧(os=s.opens∨c.what=123∧os=s.opens++ [(s.cmds.length:Int)]):=by
 unfold Adz.behind at hr;rw[hk] at hr
 rcases jY hk with rfl | rfl | rfl | rfl | rfl | rfl | rfl
 ·simp only[Except.ok.injEq,Prod.mk.injEq] at hr
  obtain⟨rfl,rfl,rfl,rfl⟩:=hr;exact⟨nK (Di g pp _ _ c hk) (by omega),by omega,gA,rfl,Or.inl rfl⟩
 ·simp only[Except.ok.injEq,Prod.mk.injEq] at hr
  obtain⟨rfl,rfl,rfl,rfl⟩:=hr;have bU:=Ib hk;exact⟨yM g pp i1 s c bU I5,by omega,gA,rfl,Or.inr ⟨bU,rfl⟩⟩
 ·simp only at hr
  cases ht:Adz.textOf g.L g.pl c (i1+1) with
  | error f=>rw [ht] at hr;cases hr
  | ok q=>
   obtain⟨c2,i2⟩:=q;rw[ht] at hr;simp only[Except.ok.injEq,Prod.mk.injEq] at hr;obtain⟨rfl,rfl,rfl,rfl⟩:=hr;have hf:=kW ht;exact⟨nK (vY g pp _ _ c ct hk c2 i2 ht) (by omega),hf.1,gA,hf.2,Or.inl rfl⟩
 ·simp only at hr
  cases ht:Adz.setLabel g.L g.pl s c (Adz.place g.pl i1) (i1+1) with
  | error f=>rw [ht] at hr;cases hr
  | ok q=>
   obtain⟨c2,l2,i2⟩:=q;rw[ht] at hr;simp only[Except.ok.injEq,Prod.mk.injEq] at hr;obtain⟨rfl,rfl,rfl,rfl⟩:=hr;have hP:=yN g pp i1 i2 s c c2 hk gA l2 ht;obtain⟨_,_,_,rfl,rfl,rfl⟩:=eE ht;exact⟨hP,by omega,rz gA,rfl,Or.inl rfl⟩
 ·simp only at hr
  cases ht:Adz.askLabel g.L g.pl s c (Adz.place g.pl i1) (i1+1) with
  | error f=>rw [ht] at hr;cases hr
  | ok q=>
   obtain⟨c2,l2,i2⟩:=q;rw[ht] at hr;simp only[Except.ok.injEq,Prod.mk.injEq] at hr;obtain⟨rfl,rfl,rfl,rfl⟩:=hr;have hP:=yL g pp i1 i2 s c c2 hk gA l2 ht;have lC:=Adz.blanks_le g.L (i1+1)
   rcases eo ht with ⟨_,rfl,rfl,rfl⟩ |⟨_,_,rfl,rfl,rfl⟩
   ·exact⟨hP,by omega,gA,rfl,Or.inl rfl⟩
   ·exact⟨hP,by omega,rz gA,rfl,Or.inl rfl⟩
 ·simp only at hr
  cases ht:Adz.substitution g.L g.pl c (i1+1) with
  | error f=>rw [ht] at hr;cases hr
  | ok q=>
   obtain⟨c2,i2⟩:=q;rw[ht] at hr;simp only[Except.ok.injEq,Prod.mk.injEq] at hr;obtain⟨rfl,rfl,rfl,rfl⟩:=hr;have aw:=Adz.substitution_lt ht;exact⟨nK (Dj g pp _ _ c (Ic hk) c2 i2 ht) (by omega),by omega,gA,fW ht,Or.inl rfl⟩
 ·simp only at hr
  cases ht:Adz.exchange g.L g.pl c (Adz.place g.pl i1) (i1+1) with
  | error f=>rw [ht] at hr;cases hr
  | ok q=>
   obtain⟨c2,i2⟩:=q;rw[ht] at hr;simp only[Except.ok.injEq,Prod.mk.injEq] at hr;obtain⟨rfl,rfl,rfl,rfl⟩:=hr;have hf:=iN ht;exact⟨nK (Dk g pp _ _ c hk c2 i2 hf.2.2) (by omega),hf.1,gA,hf.2.1,Or.inl rfl⟩
theorem wm {g:CG}{pp base:Nat}{u w:World}{s:Adz.Ps}{cb i:Nat} (h:Par g pp base u s) (o:ae (·=g.c) u w) (hC:Cur g w i) (hi:s.i≤i) (c:Adz.Cmd) (hc:CmdAt w cb c) (iR:u.heap.size≤cb) (k:Int) (hk:Adz.behindKind c.what=some k) (at_:Int) (f:Adz.Flt) (hr:Adz.behind g.L g.pl s c at_ i=.error f):
 Calls Tryz.prog 103 #[.pointer (some ⟨pp,0,none⟩),.pointer (some ⟨cb,0,none⟩),.int .i64 at_] w fun e w'=>∃v,e=.returned v∧ck w w' v f∧ae (fun b=>b=g.c∨b=cb) w w':=by
 unfold Adz.behind at hr;rw[hk] at hr
 rcases jY hk with rfl | rfl | rfl | rfl | rfl | rfl | rfl
 ·cases hr
 ·cases hr
 ·simp only at hr
  refine yK h o hC hi c hc iR hk at_ f ?_
  cases ht:Adz.textOf g.L g.pl c i with
  | error f'=>rw [ht] at hr;simpa using hr
  | ok q=>rw [ht] at hr;cases hr
 ·simp only at hr
  refine AQ h o hC hi c hc iR hk at_ f ?_
  cases ht:Adz.setLabel g.L g.pl s c at_ i with
  | error f'=>rw [ht] at hr;simpa using hr
  | ok q=>rw [ht] at hr;cases hr
 ·simp only at hr
  refine AP h o hC hi c hc iR hk at_ f ?_
  cases ht:Adz.askLabel g.L g.pl s c at_ i with
  | error f'=>rw [ht] at hr;simpa using hr
  | ok q=>rw [ht] at hr;cases hr
 ·simp only at hr
  refine Gj h o hC hi c hc iR hk at_ f ?_
  cases ht:Adz.substitution g.L g.pl c i with
  | error f'=>rw [ht] at hr;simpa using hr
  | ok q=>rw [ht] at hr;cases hr
 ·simp only at hr
  refine Gk h o hC hi c hc iR hk at_ f ?_
  cases ht:Adz.exchange g.L g.pl c at_ i with
  | error f'=>rw [ht] at hr;simpa using hr
  | ok q=>rw [ht] at hr;cases hr
structure PsOk (s:Adz.Ps):Prop where
 labs:dw s.labs
 few:s.opens.length≤5
 opens:∀x∈s.opens,0≤x∧x<(s.cmds.length:Int)
theorem ie {L pl:List Int}{s:Adz.Ps}{c c':Adz.Cmd}{i i':Nat} (hr:Adz.what L pl s c i=.ok (c',i')):
 ∃k,Adz.behindKind (Adz.peek L i)=some k∧(k=3→c.addrs= []∧c.neg=false)∧s.cmds.length≠40∧(k=1→s.opens.length≠5)∧c'= {c with what:=Adz.peek L i}∧i'=i+1:=by
 unfold Adz.what at hr
 cases hk:Adz.behindKind (Adz.peek L i) with
 | none=>rw [hk] at hr;cases hr
 | some k=>
  rw[hk] at hr;simp only at hr;split at hr
  ·cases hr
  ·rename_i h3
   split at hr
   ·cases hr
   ·rename_i mg
    split at hr
    ·cases hr
    ·rename_i h5
     simp only[Except.ok.injEq,Prod.mk.injEq] at hr;refine⟨k,rfl,fun e=> ?_,by simpa using mg,fun e=> ?_,hr.1.symm,hr.2.symm⟩
     ·subst e
      simp at h3;exact⟨h3.1,by simpa using h3.2⟩
     ·subst e
      simpa using h5
theorem D8 {L:List Int}{i:Nat}{k:Int} (hk:Adz.behindKind (Adz.peek L i)=some k):i<L.length:=
 Adz.lt_of_peek (fun e=>by rw[e] at hk;rw[show Adz.behindKind (-1)=none from by decide] at hk;cases hk)
theorem rD {g:CG}{pp base:Nat}{s:Adz.Ps}{c c':Adz.Cmd}{i1 i2:Nat} (gV:PsOk s) (hr:Adz.what g.L g.pl s c i1=.ok (c',i2)):jI g pp base {s with i:=i1} c:=by
 obtain⟨k,hk,h3,mg,h1,_,_⟩:=ie hr;have hl:=D8 hk;by_cases e3:k=3
 ·subst e3
  exact vI g pp base _ c hk (h3 rfl).1 (h3 rfl).2 mg hl
 ·by_cases e1:k=1
  ·subst e1
   exact vH g pp base _ c hk (h1 rfl) mg hl (by have:=gV.few;show s.opens.length≤500;omega)
  ·exact vJ g pp base _ c k hk e3 e1 mg hl
theorem oG {L pl:List Int}{i i':Nat}{a:Adz.Ad} (h:Adz.address L pl i=.ok (a,i')):i≤i':=by
 unfold Adz.address at h;split at h
 ·cases h
 ·split at h
  ·simp only[Except.ok.injEq,Prod.mk.injEq] at h
   have:=Adz.blanks_le L (i+1);omega
  ·split at h
   ·split at h
    ·cases h
    ·rename_i p i1 hp
     simp only[Except.ok.injEq,Prod.mk.injEq] at h;have:=Adz.blanks_le L i1;have:=Adz.patRead_lt hp;omega
   ·split at h
    ·cases h
    ·rename_i n i1 hn
     simp only[Except.ok.injEq,Prod.mk.injEq] at h;have:=Adz.blanks_le L i1;obtain⟨_,_,_,e⟩:=Adz.number_parts hn;omega
theorem mR {L pl:List Int}{i i':Nat}{cg:List Adz.Ad} (h:Adz.addresses L pl i=.ok (cg,i')):i≤i'∧cg.length≤2:=by
 unfold Adz.addresses at h;split at h
 ·cases h
 ·rename_i a i1 ha
  have h1:=oG ha;split at h
  ·split at h
   ·cases h
   ·rename_i b i2 hb
    simp only[Except.ok.injEq,Prod.mk.injEq] at h;have:=Adz.blanks_le L (i1+1);have:=oG hb;obtain⟨rfl,rfl⟩:=h;exact⟨by omega,by simp⟩
  ·simp only[Except.ok.injEq,Prod.mk.injEq] at h
   obtain⟨rfl,rfl⟩:=h;exact⟨h1,by simp⟩
theorem oY {L pl:List Int}{i i':Nat}{c:Adz.Cmd} (h:Adz.head L pl i=.ok (c,i')):i≤i'∧c.addrs.length≤2:=by
 unfold Adz.head at h
 cases hA:(if Adz.atAddress L i=true then Adz.addresses L pl i else .ok ([],i):Except Adz.Flt (List Adz.Ad×Nat)) with
 | error f=>rw [hA] at h;cases h
 | ok q=>
  obtain⟨cg,i1⟩:=q;rw[hA] at h;simp only at h
  have hf:i≤i1∧cg.length≤2:=by
   split at hA
   ·exact mR hA
   ·simp only[Except.ok.injEq,Prod.mk.injEq] at hA
    obtain⟨rfl,rfl⟩:=hA;exact⟨Nat.le_refl _,by simp⟩
  split at h
  ·simp only[Except.ok.injEq,Prod.mk.injEq] at h
   obtain⟨rfl,rfl⟩:=h;have:=Adz.blanks_le L (i1+1);exact⟨by omega,hf.2⟩
  ·simp only[Except.ok.injEq,Prod.mk.injEq] at h
   obtain⟨rfl,rfl⟩:=h;exact hf
theorem ma {g:CG}{pp base:Nat}{w:World}{s s':Adz.Ps} (ct:g.L.length≤g.rcap) (h:Par g pp base w s) (gV:PsOk s) (hr:Adz.command g.L g.pl s=.ok s'):
 (Calls Tryz.prog 77 #[.pointer (some ⟨pp,0,none⟩)] w fun e w'=>e=.returned (.pointer none)∧Par g pp base w' s'∧ae (fun b=>b=g.c∨b=pp∨base≤b+1) w w')∧PsOk s'∧s.i<s'.i:=by
 unfold Adz.command at hr
 cases hh:Adz.head g.L g.pl s.i with
 | error f=>rw [hh] at hr;cases hr
 | ok q=>
 obtain⟨c0,i1⟩:=q;rw[hh] at hr;simp only at hr
 cases hw:Adz.what g.L g.pl s c0 i1 with
 | error f=>rw [hw] at hr;cases hr
 | ok q=>
 obtain⟨c1,i2⟩:=q;rw[hw] at hr;simp only at hr;have hW:jI g pp base {s with i:=i1} c0:=rD gV hw;obtain⟨k,hk,_,_,h1,rfl,rfl⟩:=ie hw
 cases hb:Adz.behind g.L g.pl s {c0 with what:=Adz.peek g.L i1} (Adz.place g.pl i1) (i1+1) with
 | error f=>rw [hb] at hr;cases hr
 | ok q=>
 obtain⟨c,os,ls,i3⟩:=q;rw[hb] at hr;simp only at hr;have IX:=oY hh;have hH:=oX g pp s.i c0 i1 hh;obtain⟨hB,BD,DR,Oo,RF⟩:=tX g pp i1 i3 s _ c ct gV.labs gV.few (by omega) k hk os ls hb;have jV:=h.few
 have DW:os.length≤5∧∀x∈os,0≤x∧x<(s.cmds.length+1:Int):=by
  rcases RF with rfl |⟨bU,rfl⟩
  ·exact⟨gV.few,fun x hx=>by have:=gV.opens x hx;omega⟩
  ·have J6:Adz.peek g.L i1=123:=bU
   have mj:k=1:=by
    rw[J6] at hk;have:Adz.behindKind 123=some 1:=by decide
    rw[this] at hk;injection hk with hk;exact hk.symm
   have h5:=h1 mj;have:=gV.few;refine⟨by simp;omega,fun x hx=> ?_⟩
   rcases List.mem_append.1 hx with hx | hx
   ·have:=gV.opens x hx;omega
   ·simp at hx;omega
 by_cases bU:c.what=123
 ·rw[if_pos (by simp[bU])] at hr
  simp only[Except.ok.injEq] at hr;subst hr;refine⟨ud h c0 i1 hH IX.1 hW {s with i:=i3,opens:=os,labs:=ls} c hB (by show s.cmds.length<i3;omega) bU,⟨DR,DW.1,fun x hx=> ?_⟩,by show s.i<i3;omega⟩;have:=DW.2 x hx;simp;omega
 ·rw[if_neg (by simpa using bU)] at hr
  cases ht:Adz.tail g.L g.pl i3 with
  | error f=>rw [ht] at hr;cases hr
  | ok i4=>
   rw[ht] at hr;simp only[Except.ok.injEq] at hr;subst hr;have Rv:=Adz.tail_le ht;refine⟨ue h c0 i1 hH IX.1 hW {s with i:=i3,opens:=os,labs:=ls} c hB (by show s.cmds.length<i3;omega) i4 ht bU,⟨DR,DW.1,fun x hx=> ?_⟩,by show s.i<i4;omega⟩;have:=DW.2 x hx;simp;omega
end
end Go.Proofs.YtbiobhghnldckaaGreatDoor
