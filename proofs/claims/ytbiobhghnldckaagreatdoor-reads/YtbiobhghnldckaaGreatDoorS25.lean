/- Proved: what is wrong with the flags of an s is told. Conditions: the cursor lies in memory as 'Cur' says, the parser leads to it, the command's cells. -/
import Derived.Test.YtbiobhghnldckaaGreatDoorS24
import Derived.Test.YtbiobhghnldckaaGreatDoorS17
namespace Go.Proofs.YtbiobhghnldckaaGreatDoor
set_option linter.unusedVariables false
set_option maxRecDepth 100000
set_option maxHeartbeats 6400000
section
open Go.RowKit
attribute [local go_sem ↓] Go.wp_at_zero Go.wp_at_succ
theorem yY (g:CG) (pp cb:Nat) (w:World) (i:Nat) (h:Cur g w i) (hp:Lead g pp w) (c:Adz.Cmd) (hf:FlagCells w cb c) (f:Adz.Flt) (hr:Adz.flags g.L g.pl (g.L.length+1) c i=.error f):
 Calls Tryz.prog 176 #[.pointer (some ⟨pp,0,none⟩),.pointer (some ⟨cb,6,none⟩)] w fun e w'=>∃v,e=.returned v∧ck w w' v f∧ae (fun b=>b=g.c∨b=cb) w w':=by
 have HR:Hid (Adz.flags g.L g.pl (g.L.length+1) c i=.error f):=hr;clear hr;have eN:=h.le;have bM:cb≠g.c:=hf.typ.ne h.tc (by decide);go_enter Tryz.func176,Tryz.ntmps176;go_wp2_with fail
 go_loopg [] (g.L.length - i) (fun k wr=>∃j d m,Hid (Cur g wr j)∧Hid (Lead g pp wr)∧Hid (FlagCells wr cb d)∧j+k=g.L.length∧Hid (g.L.length<m+j∧Adz.flags g.L g.pl m d j=.error f)∧Hid (ae (fun b=>b=g.c∨b=cb) w wr∧Keep cb gp w wr))
 case atStart=>exact ⟨i,c,g.L.length+1,h,hp,hf,by omega,⟨by omega,HR.out⟩,ae.refl _ _,Keep.refl _ _ _⟩
 case round=>
  obtain⟨j,d,m,hc,hl,hd,hk,hI,hO⟩:=hrel;obtain⟨hm,hit⟩:=hI.out;have aU:Cur g wr j:=hc;have fi:Lead g pp wr:=hl;have iE:FlagCells wr cb d:=hd;obtain⟨bQ,fE⟩:=hO.out;have HK:Hid (j+gk=g.L.length):=hk;have q1:=fi.at0;have mi:=aU.le;have ca:=iE.a;have cp:=iE.p;have cn:=iE.n;have fa:=iE.fa;have fp:=iE.fp;have fn:=iE.fn;have gH:pp≠cb:=fi.typ.ne iE.typ (by decide);clear hk hc hl hI hO hd
  cases m with
  | zero=>omega
  | succ m=>
   unfold Adz.flags at hit;simp only at hit;by_cases c1:(Adz.peek g.L j==103 && !d.all)=true
   ·rw[if_pos c1] at hit
    simp only[Bool.and_eq_true,beq_iff_eq,Bool.not_eq_true'] at c1;obtain⟨e1,e2⟩:=c1;have aw:j<g.L.length:=Adz.lt_of_peek (by omega);have HT:Hid (Adz.flags g.L g.pl m {d with all:=true} (j+1)=.error f):=hit;clear hit;rw[e2] at ca;go_wp2_with fail;refine(ah g wr j aU).mono ?_;rintro e w1 ⟨rfl,n1,rfl⟩;rw[e1];go_wp2_with fail;refine(ax g _ j (aU.drewN n1) aw).mono ?_;rintro e w2 ⟨rfl,aL,aK⟩;have o2:ae (·=g.c) wr w2:=((ae.refl (·=g.c) wr).drewN n1).trans aK (fun _ e=>e) (fun _ _ e=>e);have d2:=iE.keeps o2 bM;have TD:=d2.a;have TN:=d2.fa;go_wp2;go_roundg (g.L.length - (j+1))
    case measure=>have:=HK.out;omega
    case rel=>
     have o3:ae (·=cb) w2 (w2.setCell ⟨cb,9,none⟩ (.bool true)):=ae.setCell (S:=(·=cb)) (p:=⟨cb,9,none⟩) (ae.refl _ w2) (fun _=>rfl) _;have k3:=Keep.setCell (cb:=cb) (P:=gp) w2 9 (.bool true) (Or.inl rfl);have f3:=Field.setCell w2 cb 9 (.bool true);refine⟨j+1,{d with all:=true},m,aL.keeps o3 (Ne.symm bM) (fun hn=>(aL.tr hn).ne d2.typ (by decide)) (aL.tp.ne d2.typ (by decide)),(fi.moved o2).keeps o3 gH,?_,by omega,⟨by omega,HT.out⟩,?_,?_⟩
     ·exact⟨World.cell?_setCell_same _ _ _ d2.a,(f3.others 10 (by decide)).trans d2.p,(f3.others 11 (by decide)).trans d2.n,(f3.frozen 9).trans d2.fa,(f3.frozen 10).trans d2.fp,(f3.frozen 11).trans d2.fn,f3.typ _ d2.typ⟩
     ·exact(bQ.trans o2 (fun _ e=>e) (fun _ _ e=>Or.inl e):ae (fun b=>b=g.c∨b=cb) w w2).trans o3 (fun _ e=>e) (fun _ _ e=>Or.inr e)
     ·exact(fE.trans (Keep.of_only o2 bM iE.typ.lt)).trans k3
   ·rw[if_neg c1] at hit
    by_cases e1:Adz.peek g.L j=103
    ·have ea:d.all=true:=by simpa[e1] using c1
     simp[e1,Adz.isDigit] at hit
    ·have b1:(Adz.peek g.L j==103)=false:=by simpa using e1
     by_cases e2:Adz.peek g.L j=112
     ·by_cases ep:d.print=true
      ·simp[e2,ep,Adz.isDigit] at hit
      ·have JY:d.print=false:=by simpa using ep
       simp only[e2,JY,beq_self_eq_true,Bool.not_false,Bool.and_self,if_true] at hit;have aw:j<g.L.length:=Adz.lt_of_peek (by omega);have HT:Hid (Adz.flags g.L g.pl m {d with print:=true} (j+1)=.error f):=hit;rw[JY] at cp;clear hit c1 b1 ep;go_wp2_with fail;refine(ah g wr j aU).mono ?_;rintro e w1 ⟨rfl,n1,rfl⟩;rw[e2];go_wp2_with fail;refine(ax g _ j (aU.drewN n1) aw).mono ?_;rintro e w2 ⟨rfl,aL,aK⟩;have o2:ae (·=g.c) wr w2:=((ae.refl (·=g.c) wr).drewN n1).trans aK (fun _ e=>e) (fun _ _ e=>e);have d2:=iE.keeps o2 bM;have NA:=d2.p;have TT:=d2.fp;go_wp2;go_roundg (g.L.length - (j+1))
       case measure=>have:=HK.out;omega
       case rel=>
        have o3:ae (·=cb) w2 (w2.setCell ⟨cb,10,none⟩ (.bool true)):=ae.setCell (S:=(·=cb)) (p:=⟨cb,10,none⟩) (ae.refl _ w2) (fun _=>rfl) _;have k3:=Keep.setCell (cb:=cb) (P:=gp) w2 10 (.bool true) (Or.inr (Or.inl rfl));have f3:=Field.setCell w2 cb 10 (.bool true);refine⟨j+1,{d with print:=true},m,aL.keeps o3 (Ne.symm bM) (fun hn=>(aL.tr hn).ne d2.typ (by decide)) (aL.tp.ne d2.typ (by decide)),(fi.moved o2).keeps o3 gH,?_,by omega,⟨by omega,HT.out⟩,?_,?_⟩
        ·exact⟨(f3.others 9 (by decide)).trans d2.a,World.cell?_setCell_same _ _ _ d2.p,(f3.others 11 (by decide)).trans d2.n,(f3.frozen 9).trans d2.fa,(f3.frozen 10).trans d2.fp,(f3.frozen 11).trans d2.fn,f3.typ _ d2.typ⟩
        ·exact(bQ.trans o2 (fun _ e=>e) (fun _ _ e=>Or.inl e):ae (fun b=>b=g.c∨b=cb) w w2).trans o3 (fun _ e=>e) (fun _ _ e=>Or.inr e)
        ·exact(fE.trans (Keep.of_only o2 bM iE.typ.lt)).trans k3
     ·have b2:(Adz.peek g.L j==112)=false:=by simpa using e2
      by_cases e3:Adz.isDigit (Adz.peek g.L j)=true
      ·have HD:Hid (Adz.isDigit (Adz.peek g.L j)=true):=e3
       by_cases en:d.nth=0
       ·simp only[b2,e3,en,beq_self_eq_true,Bool.and_self,if_true,Bool.false_and,Bool.false_eq_true,if_false] at hit
        cases lF:Adz.number g.L g.pl j with
        | error f'=>
         rw[lF] at hit;simp only[Except.error.injEq] at hit;subst hit;have HN:Hid _:=lF;rw[en] at cn;clear c1 lF e3;go_wp2_with fail;refine(ah g wr j aU).mono ?_;rintro e w1 ⟨rfl,n1,rfl⟩;go_wp2_with fail;refine(aE _ _).mono ?_;rintro e w1 ⟨rfl,rfl⟩;rw[HD.out];go_wp2_with fail;refine(pJ g pp _ j (aU.drewN n1) (fi.drewN n1) f' HN.out).mono ?_;rintro e w2 ⟨v,rfl,⟨fb,rfl,eW,vN⟩,aK⟩;have o2:ae (·=g.c) wr w2:=((ae.refl (·=g.c) wr).drewN n1).trans aK (fun _ e=>e) (fun _ _ e=>e);have DJ:wr.heap.size≤fb:=eW;have dr:=bQ.size;go_wp2;go_ret;exact⟨_,rfl,⟨fb,rfl,by omega,vN⟩,bQ.trans o2 (fun _ e=>e) (fun _ _ e=>Or.inl e)⟩
        | ok q=>
         obtain⟨k,j1⟩:=q;rw[lF] at hit;simp only at hit;have aw:=Adz.number_lt lF e3;have HN:Hid (Adz.number g.L g.pl j=.ok (k,j1)):=lF;have HT:Hid (Adz.flags g.L g.pl m {d with nth:=k} j1=.error f):=hit;rw[en] at cn;clear hit c1 lF e3;go_wp2_with fail;refine(ah g wr j aU).mono ?_;rintro e w1 ⟨rfl,n1,rfl⟩;go_wp2_with fail;refine(aE _ _).mono ?_;rintro e w1 ⟨rfl,rfl⟩;rw[HD.out];go_wp2_with fail;refine(lN g pp _ j (aU.drewN n1) (fi.drewN n1) k j1 HN.out).mono ?_;rintro e w2 ⟨rfl,aL,aK⟩;have o2:ae (·=g.c) wr w2:=((ae.refl (·=g.c) wr).drewN n1).trans aK (fun _ e=>e) (fun _ _ e=>e);have d2:=iE.keeps o2 bM;have TE:=d2.n;have TS:=d2.fn;have CU:=aL.le;go_wp2;go_roundg (g.L.length - j1)
         case measure=>have:=HK.out;omega
         case rel=>
          have o3:ae (·=cb) w2 (w2.setCell ⟨cb,11,none⟩ (.int .i64 k)):=ae.setCell (S:=(·=cb)) (p:=⟨cb,11,none⟩) (ae.refl _ w2) (fun _=>rfl) _;have k3:=Keep.setCell (cb:=cb) (P:=gp) w2 11 (.int .i64 k) (Or.inr (Or.inr rfl));have f3:=Field.setCell w2 cb 11 (.int .i64 k);refine⟨j1,{d with nth:=k},m,aL.keeps o3 (Ne.symm bM) (fun hn=>(aL.tr hn).ne d2.typ (by decide)) (aL.tp.ne d2.typ (by decide)),(fi.moved o2).keeps o3 gH,?_,by omega,⟨by omega,HT.out⟩,?_,?_⟩
          ·exact⟨(f3.others 9 (by decide)).trans d2.a,(f3.others 10 (by decide)).trans d2.p,World.cell?_setCell_same _ _ _ d2.n,(f3.frozen 9).trans d2.fa,(f3.frozen 10).trans d2.fp,(f3.frozen 11).trans d2.fn,f3.typ _ d2.typ⟩
          ·exact(bQ.trans o2 (fun _ e=>e) (fun _ _ e=>Or.inl e):ae (fun b=>b=g.c∨b=cb) w w2).trans o3 (fun _ e=>e) (fun _ _ e=>Or.inr e)
          ·exact(fE.trans (Keep.of_only o2 bM iE.typ.lt)).trans k3
       ·have bn:(d.nth==0)=false:=by simpa using en
        simp[b2,bn] at hit
      ·have IK:Adz.isDigit (Adz.peek g.L j)=false:=by simpa using e3
       have HD:Hid (Adz.isDigit (Adz.peek g.L j)=false):=IK;simp[b2,IK] at hit
theorem lX (g:CG) (pp cb:Nat) (w:World) (i:Nat) (h:Cur g w i) (hp:Lead g pp w) (c:Adz.Cmd) (hc:CmdAt w cb c) (f:Adz.Flt) (hr:Adz.substitution g.L g.pl c i=.error f):
 Calls Tryz.prog 150 #[.pointer (some ⟨pp,0,none⟩),.pointer (some ⟨cb,0,none⟩)] w fun e w'=>∃v,e=.returned v∧ck w w' v f∧ae (fun b=>b=g.c∨b=cb) w w':=by
 unfold Adz.substitution at hr;have Ol:=hc.typ.lt;by_cases bK:Adz.peek g.L i=47
 ·have fs:(Adz.peek g.L i !=47)=false:=by simp[bK]
  rw[fs] at hr;simp only[Bool.false_eq_true,if_false] at hr;clear fs
  cases tE:Adz.patRead g.L g.pl (i+1) with
  | error f'=>
   rw[tE] at hr;simp only[Except.error.injEq] at hr;subst hr;have HP:Hid _:=tE;clear tE;have q0:=hp.at0;have bM:cb≠g.c:=hc.typ.ne h.tc (by decide);have gH:pp≠cb:=hp.typ.ne hc.typ (by decide);go_enter Tryz.func150,Tryz.ntmps150;go_wp2_with fail;refine(aC g w i 47 h bK (by omega)).mono ?_;rintro e w1 ⟨rfl,cC,bq⟩;have l1:=hp.moved bq;have q1:=l1.at0;have m1:=hc.keeps bq h.spares bM;go_wp2_with fail;refine(mC g w1 (i+1) cC f' HP.out).mono ?_;rintro e w2 ⟨v,rfl,⟨fb,rfl,eW,hf⟩,aK⟩;have m2:=m1.keeps aK cC.spares bM;obtain⟨av,FX,om,fv,tv,k2,d2⟩:=m2.deep;have k6:=k2 6 _ rfl;have k7:=k2 7 _ rfl;have o3:ae (·=cb) w2 ((w2.setCell ⟨cb,6,none⟩ (.slice none 0 0)).setCell ⟨cb,7,none⟩ (.int .i64 0)):=aW (af _ _ _ _) (af _ _ _ _);have dr:=bq.size;have qZ:=hf.keeps o3 (by omega);have oa:ae (·=g.c) w w2:=bq.trans aK (fun _ e=>e) (fun _ _ e=>e);have ob:ae (fun b=>b=g.c∨b=cb) w ((w2.setCell ⟨cb,6,none⟩ (.slice none 0 0)).setCell ⟨cb,7,none⟩ (.int .i64 0)):=oa.trans o3 (fun _ e=>Or.inl e) (fun _ _ e=>Or.inr e);have yF:Hid _:=qZ;have tL:Hid _:=ob;clear qZ ob o3 k2 d2;go_wp2;go_ret;exact⟨_,rfl,⟨fb,rfl,by omega,yF.out⟩,tL.out⟩
  | ok q=>
   obtain⟨p,i1⟩:=q;rw[tE] at hr;simp only at hr
   cases ye:Adz.replacement g.L g.pl p.groups (g.L.length+1) [] i1 with
   | error f'=>
    rw[ye] at hr;simp only[Except.error.injEq] at hr;subst hr;have HP:Hid (Adz.patRead g.L g.pl (i+1)=.ok (p,i1)):=tE;have JJ:Hid _:=ye;clear tE ye;have q0:=hp.at0;have bM:cb≠g.c:=hc.typ.ne h.tc (by decide);have gH:pp≠cb:=hp.typ.ne hc.typ (by decide);go_enter Tryz.func150,Tryz.ntmps150;go_wp2_with fail;refine(aC g w i 47 h bK (by omega)).mono ?_;rintro e w1 ⟨rfl,cC,bq⟩;have l1:=hp.moved bq;have q1:=l1.at0;have m1:=hc.keeps bq h.spares bM;go_wp2_with fail;refine(gX g w1 (i+1) cC p i1 HP.out).mono ?_;rintro e w2 ⟨iv,rfl,hit,aL,aK⟩;obtain⟨gI,uC,BE⟩:=hit;obtain⟨ia,ic,rfl⟩:=ak uC;have l2:=l1.moved aK;have q2:=l2.at0;have m2:=m1.keeps aK cC.spares bM;obtain⟨av,FX,om,fv,tv,k2,d2⟩:=m2.deep;have k6:=k2 6 _ rfl;have k7:=k2 7 _ rfl;go_wp2_with fail;have o3:ae (·=cb) w2 ((w2.setCell ⟨cb,6,none⟩ (.slice ia p.items.length ic)).setCell ⟨cb,7,none⟩ (.int .i64 p.groups)):=aW (af _ _ _ _) (af _ _ _ _);have rB:Spares w2 (·=cb):=aS m2.typ (by decide);have k3:ai ((w2.setCell ⟨cb,6,none⟩ (.slice ia p.items.length ic)).setCell ⟨cb,7,none⟩ (.int .i64 p.groups)) cb (aA {c with pat:=p} av (.slice ia p.items.length ic) om fv tv):=(k2.set 6 _).set 7 _;have t3:aq ((w2.setCell ⟨cb,6,none⟩ (.slice ia p.items.length ic)).setCell ⟨cb,7,none⟩ (.int .i64 p.groups)) cb 167:=m2.typ.set.set;have dJ:=aL.aside o3 m2.typ;have l3:=l2.keeps o3 gH;have d3:=d2.keeps o3 rB;have i3:bN ((w2.setCell ⟨cb,6,none⟩ (.slice ia p.items.length ic)).setCell ⟨cb,7,none⟩ (.int .i64 p.groups)) (.slice ia p.items.length ic) p.items:=bN.keeps ⟨gI,uC,BE⟩ o3 rB.item rB.span
    generalize (w2.setCell ⟨cb,6,none⟩ (.slice ia p.items.length ic)).setCell ⟨cb,7,none⟩ (.int .i64 p.groups)=w3 at*
    clear k6 k7 k2 d2;refine(ny g pp w3 i1 dJ l3 p.groups f' JJ.out).mono ?_;rintro e w4 ⟨v,rfl,⟨fb,rfl,eW,hf⟩,dg⟩;have t4:=t3.keeps dg bM;have k4:=k3.keeps dg bM;have k8:=k4 8 _ rfl;have o5:ae (·=cb) w4 (w4.setCell ⟨cb,8,none⟩ (.slice none 0 0)):=af _ _ _ _;have dr:=bq.size;have Lq:=aK.size;have Ho:=o3.size;have qZ:=hf.keeps o5 (by omega);have oa:ae (·=g.c) w w2:=bq.trans aK (fun _ e=>e) (fun _ _ e=>e);have ob:ae (fun b=>b=g.c∨b=cb) w w3:=oa.trans o3 (fun _ e=>Or.inl e) (fun _ _ e=>Or.inr e);have oc:ae (fun b=>b=g.c∨b=cb) w w4:=ob.trans dg (fun _ e=>e) (fun _ _ e=>Or.inl e);have od:ae (fun b=>b=g.c∨b=cb) w (w4.setCell ⟨cb,8,none⟩ (.slice none 0 0)):=oc.trans o5 (fun _ e=>e) (fun _ _ e=>Or.inr e);have yF:Hid _:=qZ;have tL:Hid _:=od;clear qZ od o5 k4;go_wp2;go_ret;exact⟨_,rfl,⟨fb,rfl,by omega,yF.out⟩,tL.out⟩
   | ok q=>
    obtain⟨r,i2⟩:=q;rw[ye] at hr;simp only at hr;have HP:Hid (Adz.patRead g.L g.pl (i+1)=.ok (p,i1)):=tE;have JJ:Hid (Adz.replacement g.L g.pl p.groups (g.L.length+1) [] i1=.ok (r,i2)):=ye;have HF:Hid (Adz.flags g.L g.pl (g.L.length+1) {c with pat:=p,repl:=r} i2=.error f):=hr;clear tE ye hr;have q0:=hp.at0;have bM:cb≠g.c:=hc.typ.ne h.tc (by decide);have gH:pp≠cb:=hp.typ.ne hc.typ (by decide);go_enter Tryz.func150,Tryz.ntmps150;go_wp2_with fail;refine(aC g w i 47 h bK (by omega)).mono ?_;rintro e w1 ⟨rfl,cC,bq⟩;have l1:=hp.moved bq;have q1:=l1.at0;have m1:=hc.keeps bq h.spares bM;go_wp2_with fail;refine(gX g w1 (i+1) cC p i1 HP.out).mono ?_;rintro e w2 ⟨iv,rfl,hit,aL,aK⟩;obtain⟨gI,uC,BE⟩:=hit;obtain⟨ia,ic,rfl⟩:=ak uC;have l2:=l1.moved aK;have q2:=l2.at0;have m2:=m1.keeps aK cC.spares bM;obtain⟨av,FX,om,fv,tv,k2,d2⟩:=m2.deep;have k6:=k2 6 _ rfl;have k7:=k2 7 _ rfl;go_wp2_with fail;have o3:ae (·=cb) w2 ((w2.setCell ⟨cb,6,none⟩ (.slice ia p.items.length ic)).setCell ⟨cb,7,none⟩ (.int .i64 p.groups)):=aW (af _ _ _ _) (af _ _ _ _);have rB:Spares w2 (·=cb):=aS m2.typ (by decide);have k3:ai ((w2.setCell ⟨cb,6,none⟩ (.slice ia p.items.length ic)).setCell ⟨cb,7,none⟩ (.int .i64 p.groups)) cb (aA {c with pat:=p} av (.slice ia p.items.length ic) om fv tv):=(k2.set 6 _).set 7 _;have t3:aq ((w2.setCell ⟨cb,6,none⟩ (.slice ia p.items.length ic)).setCell ⟨cb,7,none⟩ (.int .i64 p.groups)) cb 167:=m2.typ.set.set
    have dJ:=aL.aside o3 m2.typ;have l3:=l2.keeps o3 gH;have d3:=d2.keeps o3 rB;have i3:bN ((w2.setCell ⟨cb,6,none⟩ (.slice ia p.items.length ic)).setCell ⟨cb,7,none⟩ (.int .i64 p.groups)) (.slice ia p.items.length ic) p.items:=bN.keeps ⟨gI,uC,BE⟩ o3 rB.item rB.span;generalize (w2.setCell ⟨cb,6,none⟩ (.slice ia p.items.length ic)).setCell ⟨cb,7,none⟩ (.int .i64 p.groups)=w3 at*
    clear k6 k7 k2 d2;refine(je g pp w3 i1 dJ l3 p.groups r i2 JJ.out).mono ?_;rintro e w4 ⟨rv,rfl,sw,eu,dg⟩;obtain⟨ra,rc,rfl⟩:=ak sw;have l4:=l3.moved dg;have t4:=t3.keeps dg bM;have k4:=k3.keeps dg bM;have d4:=d3.keeps dg dJ.spares;have i4:=i3.keeps dg dJ.spares.item dJ.spares.span;have k8:=k4 8 _ rfl;go_wp2_with fail;have o5:ae (·=cb) w4 (w4.setCell ⟨cb,8,none⟩ (.slice ra r.length rc)):=af _ _ _ _;have vx:Spares w4 (·=cb):=aS t4 (by decide);have k5:ai (w4.setCell ⟨cb,8,none⟩ (.slice ra r.length rc)) cb (aA {c with pat:=p,repl:=r} av (.slice ia p.items.length ic) (.slice ra r.length rc) fv tv):=k4.set 8 _;have t5:aq (w4.setCell ⟨cb,8,none⟩ (.slice ra r.length rc)) cb 167:=t4.set;have jO:=eu.aside o5 t4;have l5:=l4.keeps o5 gH;have d5:=d4.keeps o5 vx;have i5:=i4.keeps o5 vx.item vx.span;have r5:dH (w4.setCell ⟨cb,8,none⟩ (.slice ra r.length rc)) (.slice ra r.length rc) r:=dH.keeps sw o5 vx.part;generalize w4.setCell ⟨cb,8,none⟩ (.slice ra r.length rc)=w5 at*
    have f5:FlagCells w5 cb {c with pat:=p,repl:=r}:=⟨(k5 9 _ rfl).1,(k5 10 _ rfl).1,(k5 11 _ rfl).1,(k5 9 _ rfl).2,(k5 10 _ rfl).2,(k5 11 _ rfl).2,t5⟩;refine(yY g pp cb w5 i2 jO l5 _ f5 f HF.out).mono ?_;rintro e w6 ⟨v,rfl,⟨fb,rfl,eW,hf⟩,o6⟩;have dr:=bq.size;have Lq:=aK.size;have Ho:=o3.size;have Pe:=dg.size;have Lr:=o5.size;have oa:ae (·=g.c) w w2:=bq.trans aK (fun _ e=>e) (fun _ _ e=>e);have ob:ae (fun b=>b=g.c∨b=cb) w w3:=oa.trans o3 (fun _ e=>Or.inl e) (fun _ _ e=>Or.inr e);have oc:ae (fun b=>b=g.c∨b=cb) w w4:=ob.trans dg (fun _ e=>e) (fun _ _ e=>Or.inl e);have od:ae (fun b=>b=g.c∨b=cb) w w5:=oc.trans o5 (fun _ e=>e) (fun _ _ e=>Or.inr e);go_wp2;go_ret;exact⟨_,rfl,⟨fb,rfl,by omega,hf⟩,od.trans o6 (fun _ e=>e) (fun _ _ e=>e)⟩
 ·have fs:(Adz.peek g.L i !=47)=true:=by simpa[bne] using bK
  rw[fs] at hr;simp only[if_true,Except.error.injEq] at hr;subst hr;have q0:=hp.at0;go_enter Tryz.func150,Tryz.ntmps150;go_wp2_with fail;refine(aH g w i 47 h bK).mono ?_;rintro e w1 ⟨rfl,n1,rfl⟩;go_wp2_with fail;refine(aX g _ i (h.drewN n1)).mono ?_;rintro e w2 ⟨v,rfl,hf,o2⟩;go_wp2;go_ret;exact⟨v,rfl,hf.back (Nat.le_refl _),((ae.refl _ w).drewN n1).trans o2 (fun _ e=>e) (fun _ _ e=>e.elim)⟩
theorem Cx (g:CG) (pp:Nat) (w:World) (i:Nat) (h:Cur g w i) (hp:Lead g pp w) (f:Adz.Flt) (hr:Adz.tail g.L g.pl i=.error f):
 Calls Tryz.prog 104 #[.pointer (some ⟨pp,0,none⟩)] w fun e w'=>∃v,e=.returned v∧ck w w' v f∧ae (·=g.c) w w':=by
 unfold Adz.tail at hr;simp only at hr;have q0:=hp.at0;split at hr
 ·cases hr
 ·rename_i hb
  simp only[Except.error.injEq] at hr;subst hr;have Bp:=bO g w i h;generalize Adz.blanks g.L i=i1 at*
  have Of:Adz.peek g.L i1≠59∧Adz.peek g.L i1≠10∧Adz.peek g.L i1≠125∧Adz.peek g.L i1≠ -1:=by
   simpa[not_or,and_assoc] using hb
  obtain⟨e1,e2,e3,e4⟩:=Of;have b1:(Adz.peek g.L i1==59)=false:=by simpa using e1
  have b2:(Adz.peek g.L i1==10)=false:=by simpa using e2
  have b3:(Adz.peek g.L i1==125)=false:=by simpa using e3
  have b4:(Adz.peek g.L i1== -1)=false:=by simpa using e4
  have cP:=fun u (hu:Cur g u i1)=>ah g u i1 hu;clear hb e1 e2 e3 e4;generalize Adz.peek g.L i1=r at*
  go_enter Tryz.func104,Tryz.ntmps104;go_wp2_with fail;refine Bp.mono ?_;rintro e w1 ⟨rfl,cC,bq⟩;have q1:=(hp.moved bq).at0;go_wp2_with fail;refine(cP w1 cC).mono ?_;rintro e w2 ⟨rfl,n,rfl⟩;go_wp2_with fail;refine(aX g _ i1 (cC.drewN n)).mono ?_;rintro e w3 ⟨v,rfl,hf,o3⟩;go_wp2;go_ret;exact⟨v,rfl,hf.back bq.size,(bq.drewN n).trans o3 (fun _ e=>e) (fun _ _ e=>e.elim)⟩
theorem Cz (g:CG) (pp cb:Nat) (w:World) (i:Nat) (h:Cur g w i) (hp:Lead g pp w) (c:Adz.Cmd) (f:Adz.Flt) (hr:Adz.textOf g.L g.pl c i=.error f):
 Calls Tryz.prog 147 #[.pointer (some ⟨pp,0,none⟩),.pointer (some ⟨cb,0,none⟩)] w fun e w'=>∃v,e=.returned v∧ck w w' v f∧ae (fun _=>False) w w':=by
 unfold Adz.textOf at hr;simp only at hr;have q0:=hp.at0;by_cases h1:Adz.peek g.L i=10∨Adz.peek g.L i= -1
 ·rcases h1 with e | e <;> simp[e] at hr
 ·have dQ:Adz.peek g.L i≠10:=fun e=>h1 (Or.inl e)
  have gz:Adz.peek g.L i≠ -1:=fun e=>h1 (Or.inr e);have Qy:(Adz.peek g.L i==10)=false:=by simpa using dQ
  have QE:(Adz.peek g.L i== -1)=false:=by simpa using gz
  rw[Qy,QE] at hr;simp only[Bool.or_self,Bool.false_eq_true,if_false] at hr
  cases hb:Adz.isBlank (Adz.peek g.L i) with
  | true=>rw [hb] at hr;simp at hr
  | false=>
   rw[hb] at hr;simp only[Bool.not_false,if_true,Except.error.injEq] at hr;subst hr;have cP:=ah g w i h;have lC:=fun u=>bL (Adz.peek g.L i) u;have HB:Hid (Adz.isBlank (Adz.peek g.L i)=false):=hb;clear h1 hb dQ gz;generalize Adz.peek g.L i=r at*
   go_enter Tryz.func147,Tryz.ntmps147;go_wp2_with fail;refine cP.mono ?_;clear cP;rintro e w1 ⟨rfl,n1,rfl⟩;go_wp2_with fail;refine(lC _).mono ?_;clear lC;rintro e w1 ⟨rfl,rfl⟩;rw[HB.out];go_wp2_with fail;refine(aX g _ i (h.drewN n1)).mono ?_;rintro e w3 ⟨v,rfl,hf,o3⟩;go_wp2;go_ret;exact⟨v,rfl,hf.back (Nat.le_refl _),((ae.refl (fun _=>False) w).drewN n1).trans o3 (fun _ e=>e) (fun _ _ e=>e)⟩
theorem Dh (cb:Nat) (w:World) (c:Adz.Cmd) (hc:CmdAt w cb c) (hn:c.addrs≠ []∨c.neg=true) (hl:c.addrs.length≤1000):
 Calls Tryz.prog 146 #[.pointer (some ⟨cb,0,none⟩)] w fun e w'=>e=.returned (.bool false)∧∃n,w'=w.drewN n:=by
 obtain⟨av,iv,rv,fv,tv,kk,dd⟩:=hc.deep;obtain⟨gI,s1,_⟩:=dd.a;obtain⟨x,y,rfl⟩:=ak s1;have k1:=(kk 1 _ rfl).1;have k2:=(kk 2 _ rfl).1;clear kk dd s1;by_cases ha:c.addrs= []
 ·have pd:c.neg=true:=by
   rcases hn with e | e
   ·exact absurd ha e
   ·exact e
  rw[ha] at k1;rw[pd] at k2;simp only[List.length_nil] at k1;go_enter Tryz.func146,Tryz.ntmps146;go_wp2;go_ret;exact⟨rfl,0,rfl⟩
 ·have h0:c.addrs.length≠0:=fun e=>ha (List.eq_nil_of_length_eq_zero e)
  have b0:((c.addrs.length:Int)==0)=false:=beq_eq_false_iff_ne.2 (by omega);go_enter Tryz.func146,Tryz.ntmps146;go_wp2;go_ret;exact⟨rfl,0,rfl⟩
theorem CD (g:CG) (pp base cb:Nat) (w:World) (s:Adz.Ps) (hP:Par g pp base w s) (c:Adz.Cmd) (hc:CmdAt w cb c) (xW:c.addrs.length≤1000) (OV:s.opens.length≤500) (f:Adz.Flt) (hr:Adz.what g.L g.pl s c s.i=.error f):
 Calls Tryz.prog 102 #[.pointer (some ⟨pp,0,none⟩),.pointer (some ⟨cb,0,none⟩)] w fun e w'=>∃v,e=.returned v∧ck w w' v f∧ae (fun _=>False) w w':=by
 have h:=hP.cur;have hp:=hP.lead;have ht:=hP.table;obtain⟨mb,m1,m2⟩:=ht.map;obtain⟨qa,qc,q2⟩:=ht.cmds;obtain⟨ov,o1,o2⟩:=hP.op;obtain⟨oa,oc,rfl⟩:=ak o2;have q0:=hp.at0;have jV:=hP.few;have hle:=h.le;have dy:=h.small;have eX:=hp.lt;have bM:cb≠g.c:=hc.typ.ne h.tc (by decide);unfold Adz.what at hr;have zr:=fun m=>eU (w.drewN m) mb (Adz.peek g.L s.i) m2;clear o2
 cases hk:Adz.behindKind (Adz.peek g.L s.i) with
 | none=>
  rw[hk] at hr;simp only[Except.error.injEq] at hr;subst hr
  have kD:∀m,(Instr.lookup 115 (.map (some mb)) (.int .i32 (Adz.peek g.L s.i)) true).run Tryz.prog (w.drewN m)=.ok (.tuple #[.int .i64 0,.bool false]) (w.drewN m):=fun m=>by
   have:=zr m;rw[hk] at this;exact this
  clear zr hk;go_enter Tryz.func102,Tryz.ntmps102;go_wp2_with fail;refine(ar g w s.i h).mono ?_;rintro e w1 ⟨rfl,n1,rfl⟩;go_wp2_with fail
  go_quiet ((go_at_call 51;exact(ah g _ s.i (h.drewN _)).mono (fun e w1 ⟨he,m,da⟩=>⟨he,dD da⟩)))
  go_wp2_with fail;refine(aX g _ s.i (h.drewN _)).mono ?_;rintro e w3 ⟨v,rfl,hf,o3⟩;go_wp2;go_ret;exact⟨v,rfl,hf.back (Nat.le_refl _),((ae.refl (fun _=>False) w).drewN _).trans o3 (fun _ e=>e) (fun _ _ e=>e)⟩
 | some k=>
  rw[hk] at hr;simp only at hr
  have kD:∀m,(Instr.lookup 115 (.map (some mb)) (.int .i32 (Adz.peek g.L s.i)) true).run Tryz.prog (w.drewN m)=.ok (.tuple #[.int .i64 k,.bool true]) (w.drewN m):=fun m=>by
   have:=zr m;rw[hk] at this;exact this
  clear zr hk;by_cases c3:(k==3 && !(c.addrs.isEmpty && !c.neg))=true
  ·rw[if_pos c3] at hr
   simp only[Except.error.injEq] at hr;subst hr;simp only[Bool.and_eq_true,beq_iff_eq] at c3;obtain⟨rfl,zw⟩:=c3
   have hn:c.addrs≠ []∨c.neg=true:=by
    by_cases ha:c.addrs= []
    ·right
     rw[ha] at zw;simpa using zw
    ·exact Or.inl ha
   have mh:=fun n=>Dh cb (w.drewN n) c (hc.keeps ((ae.refl (·=g.c) w).drewN n) h.spares bM) hn xW;clear zw;go_enter Tryz.func102,Tryz.ntmps102;go_wp2_with fail;refine(ar g w s.i h).mono ?_;rintro e w1 ⟨rfl,n1,rfl⟩;go_wp2_with fail
   go_quiet ((go_at_call 51;exact(ah g _ s.i (h.drewN _)).mono (fun e w1 ⟨he,m,da⟩=>⟨he,dD da⟩)))
   go_wp2_with fail;refine(mh _).mono ?_;clear mh;rintro e w1 ⟨rfl,n2,rfl⟩;go_wp2_with fail;refine(aX g _ s.i (by first | exact h.drewN _ | exact(h.drewN _).drewN _)).mono ?_;rintro e w3 ⟨v,rfl,hf,o3⟩;go_wp2;go_ret;exact⟨v,rfl,hf.back (Nat.le_refl _),(by first | exact(ae.refl (fun _=>False) w).drewN _ | exact((ae.refl (fun _=>False) w).drewN _).drewN _:ae (fun _=>False) w _).trans o3 (fun _ e=>e) (fun _ _ e=>e)⟩
  ·rw[if_neg c3] at hr
   have Rm:k≠3∨(k=3∧c.addrs= []∧c.neg=false):=by
    by_cases h3:k=3
    ·right
     subst h3;simp at c3;exact⟨rfl,c3.1,by simpa using c3.2⟩
    ·exact Or.inl h3
   clear c3;by_cases c40:s.cmds.length=40
   ·have CJ:(s.cmds.length==40)=true:=by simp[c40]
    rw[CJ] at hr;simp only[if_true,Except.error.injEq] at hr;subst hr;rw[c40] at q2;clear CJ
    rcases Rm with h3 |⟨rfl,ha,pd⟩
    ·have b3:(k==3)=false:=by simpa using h3
     go_enter Tryz.func102,Tryz.ntmps102;go_wp2_with fail;refine(ar g w s.i h).mono ?_;rintro e w1 ⟨rfl,n1,rfl⟩;go_wp2_with fail
     go_quiet ((go_at_call 51;exact(ah g _ s.i (h.drewN _)).mono (fun e w1 ⟨he,m,da⟩=>⟨he,dD da⟩)))
     go_wp2_with fail;refine(aV 5 _ _).mono ?_;rintro e w3 ⟨rfl,rfl⟩;go_wp2;go_ret;exact⟨_,rfl,⟨_,rfl,Nat.le_refl _,db.new _ _ _⟩,(by first | exact((ae.refl (fun _=>False) w).drewN _).alloc _ | exact(((ae.refl (fun _=>False) w).drewN _).drewN _).alloc _)⟩
    ·have mh:=fun n=>tW cb (w.drewN n) c (hc.keeps ((ae.refl (·=g.c) w).drewN n) h.spares bM) ha pd
     go_enter Tryz.func102,Tryz.ntmps102;go_wp2_with fail;refine(ar g w s.i h).mono ?_;rintro e w1 ⟨rfl,n1,rfl⟩;go_wp2_with fail
     go_quiet ((go_at_call 51;exact(ah g _ s.i (h.drewN _)).mono (fun e w1 ⟨he,m,da⟩=>⟨he,dD da⟩)))
     go_wp2_with fail;refine(mh _).mono ?_;clear mh;rintro e w1 ⟨rfl,n2,rfl⟩;go_wp2_with fail;refine(aV 5 _ _).mono ?_;rintro e w3 ⟨rfl,rfl⟩;go_wp2;go_ret;exact⟨_,rfl,⟨_,rfl,Nat.le_refl _,db.new _ _ _⟩,(by first | exact((ae.refl (fun _=>False) w).drewN _).alloc _ | exact(((ae.refl (fun _=>False) w).drewN _).drewN _).alloc _)⟩
   ·have CJ:(s.cmds.length==40)=false:=by simpa using c40
    rw[CJ] at hr;simp only[Bool.false_eq_true,if_false] at hr;have Tn:((s.cmds.length:Int)==40)=false:=beq_eq_false_iff_ne.2 (by omega);by_cases c1:(k==1 && s.opens.length==5)=true
    ·rw[if_pos c1] at hr
     simp only[Except.error.injEq] at hr;subst hr;simp only[Bool.and_eq_true,beq_iff_eq] at c1;obtain⟨rfl,c5⟩:=c1;rw[c5] at o1;clear Rm CJ c40;go_enter Tryz.func102,Tryz.ntmps102;go_wp2_with fail;refine(ar g w s.i h).mono ?_;rintro e w1 ⟨rfl,n1,rfl⟩;go_wp2_with fail
     go_quiet ((go_at_call 51;exact(ah g _ s.i (h.drewN _)).mono (fun e w1 ⟨he,m,da⟩=>⟨he,dD da⟩)))
     go_wp2_with fail;refine(aV 6 _ _).mono ?_;rintro e w3 ⟨rfl,rfl⟩;go_wp2;go_ret;exact⟨_,rfl,⟨_,rfl,Nat.le_refl _,db.new _ _ _⟩,(by first | exact((ae.refl (fun _=>False) w).drewN _).alloc _ | exact(((ae.refl (fun _=>False) w).drewN _).drewN _).alloc _)⟩
    ·rw[if_neg c1] at hr
     cases hr
theorem sF {L:List Int}{i:Nat} (h:Adz.isLetter (Adz.peek L i)=true):Adz.lettersOf L i=Adz.peek L i::Adz.lettersOf L (i+1):=by
 have hl:=Adz.lt_of_letter h;unfold Adz.lettersOf;rw[List.drop_eq_getElem_cons hl,List.takeWhile_cons];have e:Adz.peek L i=L[i]:=by simp[Adz.peek,List.getElem?_eq_getElem hl]
 rw[e] at h ⊢;rw[if_pos h]
theorem sG {L:List Int}{i:Nat} (h:Adz.isLetter (Adz.peek L i)=false):Adz.lettersOf L i= []:=by
 unfold Adz.lettersOf;by_cases hl:i<L.length
 ·rw[List.drop_eq_getElem_cons hl,List.takeWhile_cons]
  have e:Adz.peek L i=L[i]:=by simp[Adz.peek,List.getElem?_eq_getElem hl]
  rw[e] at h;rw[if_neg (by rw[h];simp)]
 ·rw[List.drop_of_length_le (by omega)]
  rfl
theorem iV (g:CG) (pp cb:Nat) (w:World) (i:Nat) (h:Cur g w i) (hp:Lead g pp w) (c:Adz.Cmd) (hc:CmdAt w cb c):
 Calls Tryz.prog 172 #[.pointer (some ⟨pp,0,none⟩),.pointer (some ⟨cb,0,none⟩)] w fun e w'=>
  ((Adz.lettersOf g.L i).length≤8∧e=.returned (.pointer none)∧CmdAt w' cb {c with name:=Adz.enc (Adz.lettersOf g.L i)}∧Cur g w' (i+(Adz.lettersOf g.L i).length)∨
   8<(Adz.lettersOf g.L i).length∧∃v,e=.returned v∧ck w w' v (4,Adz.place g.pl i))∧ae (fun b=>b=g.c∨b=cb) w w':=by
 have q0:=hp.at0;have bM:cb≠g.c:=hc.typ.ne h.tc (by decide);have cR:=h.lt;have Bs:=hc.typ.lt;have lG:=h.small;have eN:=h.le;obtain⟨N,hN⟩:∃N,Adz.lettersOf g.L i=N:=⟨_,rfl⟩;rw[hN];have HN:Hid _:=hN;clear hN;go_enter Tryz.func172,Tryz.ntmps172;go_wp2_with fail;refine(ar g w i h).mono ?_;rintro e w1 ⟨rfl,n1,rfl⟩;go_wp2_with fail
 go_loopg [6] (g.L.length - i) (fun k v wr=>∃j qs ra rc,v=.slice ra qs.length rc∧j=i+qs.length∧j+k=g.L.length∧Hid (N=qs++Adz.lettersOf g.L j)∧Hid (Cur g wr j)∧Hid (Lead g pp wr)∧Hid (wr.ownsRow w.heap.size 21 1 (.slice ra qs.length rc) qs.length (qs.map (.int .i32)))∧Hid (ae (fun b=>b=g.c∨w.heap.size≤b) w wr))
 case atStart=>exact ⟨i,[],none,0,rfl,by simp,by omega,HN.out.symm,h.drewN n1,hp.drewN n1,World.ownsRow_nil _ _ _ _,(ae.refl _ w).drewN n1⟩
 case round=>
  obtain⟨j,qs,ra,rc,rfl,hj,jt,NY,hC,Q3,hw,hO⟩:=hrel;have aU:Cur g wr j:=hC;have fi:Lead g pp wr:=Q3;have bQ:ae (fun b=>b=g.c∨w.heap.size≤b) w wr:=hO;have q1:=fi.at0;have dr:w.heap.size≤wr.heap.size:=bQ.size;clear hC Q3 hO
  cases hl:Adz.isLetter (Adz.peek g.L j) with
  | true=>
   have aw:j<g.L.length:=Adz.lt_of_letter hl;have bZ:=sF hl;have vU:Hid _:=bZ;have HL:Hid _:=hl;have cP:=ah g wr j aU;have gm:=fun u=>cf (Adz.peek g.L j) u;have eP:=fun n=>ax g (wr.drewN n) j (aU.drewN n) aw;clear bZ hl;generalize Adz.peek g.L j=a at*
   go_wp2_with fail;refine cP.mono ?_;clear cP;rintro e w2 ⟨rfl,n2,rfl⟩;go_wp2_with fail;refine(gm _).mono ?_;clear gm;rintro e w2 ⟨rfl,rfl⟩;rw[HL.out];go_wp2_with fail;refine(eP n2).mono ?_;clear eP;rintro e w2 ⟨rfl,aL,aK⟩;have o2:ae (·=g.c) wr w2:=((ae.refl (·=g.c) wr).drewN n2).trans aK (fun _ e=>e) (fun _ _ e=>e);have eH:=ag (Hid.out hw) o2 (fun b hb e=>(aq.of_row (Hid.out hw) hb).ne aU.tc (by decide) e);have Lq:w.heap.size≤w2.heap.size:=Nat.le_trans bQ.size o2.size;have oa:ae (fun _=>False) w2 (w2.alloc (.cells #[.int .i32 a] 21)):=(ae.refl _ w2).alloc _;have ga:=ag eH oa (fun _ _=>id)
   have iD:bY (w2.alloc (.cells #[.int .i32 a] 21)) (some ⟨w2.heap.size,0,none⟩) [a]:=fun _=>⟨w2.heap.size,0,rfl,aq.new _ _ _ _,fun j hj=>by
    have:j=0:=by simp at hj;omega
    subst this;exact(ai.new w2 #[.int .i32 a] 21 0 _ rfl).1⟩
   have BY:(w2.alloc (.cells #[.int .i32 a] 21)).heap.size=w2.heap.size+1:=by simp
   go_wp2_with (at_builtin;refine wpList_append_runes _ (by rfl) _ _ (by rfl) w.heap.size (.slice ra qs.length rc) qs.length qs (by rfl) ga (some ⟨w2.heap.size,0,none⟩) 1 [a] 1 (by rfl) rfl iD (by omega) (by rw[BY];omega) ?_;intro a1 c1 w3 br o1 DF);go_roundg (gk - 1)
   case measure=>omega
   case rel=>
    have o3:ae (fun b=>(Value.slice ra qs.length rc).ownBlock=some b) w2 w3:=oa.trans o1 (fun _ e=>e.elim) (fun _ _ e=>e);refine⟨j+1,qs++ [a],a1,c1,by simp,by simp;omega,by omega,?_,?_,?_,?_,?_⟩
    ·show N=qs++ [a]++Adz.lettersOf g.L (j+1)
     have:=Hid.out NY;rw[vU.out] at this;rw[this];simp
    ·exact aL.keeps o3 (aG eH aL.tc (by decide)) (fun hn e=>by
      have t1:=aL.tr hn;have t2:=eH.lt _ e;have t3:=h.tr hn;have:=t3.lt;omega) (aG eH aL.tp (by decide))
    ·have fy:Lead g pp w2:=fi.moved o2
     exact fy.keeps o3 (aG eH fy.typ (by decide))
    ·rw[List.length_append]
     exact br
    ·exact(bQ.trans o2 (fun _ e=>e) (fun _ _ e=>Or.inl e):ae (fun b=>b=g.c∨w.heap.size≤b) w w2).trans o3 (fun _ e=>e) (fun b hb e=>Or.inr (eH.lt b e).1)
  | false=>
   have T1:N=qs:=by
    have:=Hid.out NY;rw[sG hl,List.append_nil] at this;exact this
   subst T1;have SH:Hid _:=hl;have On:=fun m=>eQ (wr.drewN m) ra rc N ((Sl.of_row (ag (Hid.out hw) ((ae.refl (fun _=>False) wr).drewN m) (fun _ _=>id))).1);have o3:ae (·=g.c) w wr:=bQ.mono (fun b hb e=>by rcases e with e | e;exact e;omega);have m3:=hc.keeps o3 h.spares bM;have cP:=ah g wr j aU;have gm:=fun u=>cf (Adz.peek g.L j) u;clear hl NY;generalize Adz.peek g.L j=pk at*
   go_wp2_with fail;refine cP.mono ?_;clear cP;rintro e w2 ⟨rfl,n2,rfl⟩;go_wp2_with fail;refine(gm _).mono ?_;clear gm;rintro e w2 ⟨rfl,rfl⟩;rw[SH.out];by_cases h8:N.length≤8
   ·have d8:¬(8:Int)<(N.length:Int):=by omega
    have m3:=m3.keeps ((ae.refl (·=g.c) wr).drewN n2) aU.spares bM;obtain⟨av,iv,rv,fv,tv,kk,dd⟩:=m3.deep;have k4:=(kk 4 _ rfl).1;have f4:=(kk 4 _ rfl).2;have o4:=af (wr.drewN n2) cb 4 (.string (runesBytes N))
    have fw:ai ((wr.drewN n2).setCell ⟨cb,4,none⟩ (.string (runesBytes N))) cb (aA {c with name:=Adz.enc N} av iv rv fv tv):=by
     have:=kk.set 4 (.string (runesBytes N));rw[←qO] at this ⊢;exact this
    have d4:=dd.keeps o4 (aS m3.typ (by decide));have HC:Hid _:=fw;clear fw kk;have Un:=On n2;clear On;generalize runesBytes N=T at*
    go_wp2;go_ret;refine⟨Or.inl ⟨h8,rfl,⟨m3.typ.set,av,iv,rv,fv,tv,HC.out,⟨d4.a,d4.i,d4.r,d4.f,d4.t⟩⟩,?_⟩,(o3.drewN n2).trans o4 (fun _ e=>Or.inl e) (fun _ _ e=>Or.inr e)⟩;rw[←hj];exact(aU.drewN n2).aside o4 m3.typ
   ·have d8:(8:Int)<(N.length:Int):=by omega
    go_wp2_with fail;refine(aV 4 _ _).mono ?_;rintro e w5 ⟨rfl,rfl⟩;go_wp2;go_ret;exact⟨Or.inr ⟨by omega,_,rfl,⟨_,rfl,dr,db.new _ _ _⟩⟩,((o3.drewN n2).alloc _).mono (fun _ _ e=>Or.inl e)⟩
theorem Fb (a b:List UInt8):((⟨a.toArray⟩:ByteArray)==⟨b.toArray⟩)=(a==b):=by
 show(a.toArray==b.toArray)=(a==b);by_cases e:a=b
 ·subst e;simp
 ·have h1:(a==b)=false:=by simpa using e
  have h2:(a.toArray==b.toArray)=false:=beq_eq_false_iff_ne.2 (fun h=>e (by simpa using congrArg Array.toList h));rw[h1,h2]
theorem lq (nm:List UInt8):∀(labs:List Adz.Lab) (n i:Nat),labs.find? (fun x=>x.name==nm)=none→Instr.findNow .string (.string ⟨nm.toArray⟩) (aj n labs) i=some none
 | [],n,i,_=>rfl
 | x::labs,n,i,h=>by
  rw[List.find?_cons] at h
  cases hx:(x.name==nm) with
  | true=>rw [hx] at h;cases h
  | false=>
   rw[hx] at h;have ih:=lq nm labs (n+1) (i+1) h
   have e:((⟨nm.toArray⟩:ByteArray)==⟨x.name.toArray⟩)=false:=by
    rw[Fb];have:nm≠x.name:=fun e=>by rw[e] at hx;simp at hx
    simpa using this
   simp[aj,bI,Instr.findNow,Instr.sameNow,e,ih]
theorem jm (nm:List UInt8):∀(labs:List Adz.Lab) (n i:Nat) (x:Adz.Lab),labs.find? (fun x=>x.name==nm)=some x→∃k,labs[k]? =some x∧x.name=nm∧Instr.findNow .string (.string ⟨nm.toArray⟩) (aj n labs) i=some (some (i+k,.agg #[.int .i64 x.set,.int .i64 x.asked]))
 | [],n,i,x,h=>by cases h
 | y::labs,n,i,x,h=>by
  rw[List.find?_cons] at h
  cases hx:(y.name==nm) with
  | true=>
   rw[hx] at h;simp only[Option.some.injEq] at h;subst h;have hn:y.name=nm:=by simpa using hx
   refine⟨0,rfl,hn,?_⟩;have e:((⟨nm.toArray⟩:ByteArray)==⟨y.name.toArray⟩)=true:=by rw[hn];exact xG _
   simp[aj,bI,Instr.findNow,Instr.sameNow,e]
  | false=>
   rw[hx] at h;obtain⟨k,h1,h2,h3⟩:=jm nm labs (n+1) (i+1) x h;refine⟨k+1,h1,h2,?_⟩
   have e:((⟨nm.toArray⟩:ByteArray)==⟨y.name.toArray⟩)=false:=by
    rw[Fb];have:nm≠y.name:=fun e=>by rw[e] at hx;simp at hx
    simpa using this
   simp[aj,bI,Instr.findNow,Instr.sameNow,e,h3];omega
theorem yj (w:World) (lb:Nat) (labs:List Adz.Lab) (nm:List UInt8) (h:dv w lb labs):
 (∃x,labs.find? (fun x=>x.name==nm)=some x∧(Instr.lookup 117 (.map (some lb)) (.string ⟨nm.toArray⟩) true).run Tryz.prog w=.ok (.tuple #[.agg #[.int .i64 x.set,.int .i64 x.asked],.bool true]) w∧(Instr.lookup 117 (.map (some lb)) (.string ⟨nm.toArray⟩) false).run Tryz.prog w=.ok (.agg #[.int .i64 x.set,.int .i64 x.asked]) w)∨
 (labs.find? (fun x=>x.name==nm)=none∧(Instr.lookup 117 (.map (some lb)) (.string ⟨nm.toArray⟩) true).run Tryz.prog w=.ok (.tuple #[.agg #[.int .i64 0,.int .i64 0],.bool false]) w∧(Instr.lookup 117 (.map (some lb)) (.string ⟨nm.toArray⟩) false).run Tryz.prog w=.ok (.agg #[.int .i64 0,.int .i64 0]) w):=by
 unfold dv at h
 cases hf:labs.find? (fun x=>x.name==nm) with
 | some x=>
  left;obtain⟨k,h1,h2,h3⟩:=jm nm labs 0 0 x hf;have hk:=fT w ⟨nm.toArray⟩ (aj 0 labs).toArray.toList _ h3;refine⟨x,rfl,?_,?_⟩
  ·simp only[Instr.lookup,Sem.run_bind,run_underlying Tryz.underlying117,MapKept.run_getObj_map h,dI,Result.andThen,Sem.run_pure,hk]
   simp
  ·simp only[Instr.lookup,Sem.run_bind,run_underlying Tryz.underlying117,MapKept.run_getObj_map h,dI,Result.andThen,Sem.run_pure,hk]
   simp
 | none=>
  right;have h3:=lq nm labs 0 0 hf;have hk:=fT w ⟨nm.toArray⟩ (aj 0 labs).toArray.toList _ h3;refine⟨rfl,?_,?_⟩
  ·simp only[Instr.lookup,Sem.run_bind,run_underlying Tryz.underlying117,MapKept.run_getObj_map h,dI,Result.andThen,Sem.run_pure,hk]
   simp[Tryz.zeroValue176]
  ·simp only[Instr.lookup,Sem.run_bind,run_underlying Tryz.underlying117,MapKept.run_getObj_map h,dI,Result.andThen,Sem.run_pure,hk]
   simp[Tryz.zeroValue176]
theorem gO (y:Adz.Lab):∀(labs:List Adz.Lab) (n:Nat),aj n (labs++ [y])=aj n labs++ [bI y (n+labs.length)]
 | [],n=>rfl
 | x::labs,n=>by
  simp only[List.cons_append,aj,gO y labs (n+1),List.length_cons];rw[show n+1+labs.length=n+(labs.length+1) by omega]
theorem me (y:Adz.Lab):∀(labs:List Adz.Lab) (n k:Nat),(aj n labs).modify k (fun e=> {key:=.string ⟨y.name.toArray⟩,val:=.agg #[.int .i64 y.set,.int .i64 y.asked],born:=e.born})=aj n (labs.set k y)
 | [],n,k=>by cases k <;> rfl
 | x::labs,n,0=>rfl
 | x::labs,n,k+1=>by
  simp only[aj,List.modify_succ_cons,List.set_cons_succ,me y labs (n+1) k]
theorem jS:∀(labs:List Adz.Lab) (n k:Nat) (x:Adz.Lab),labs[k]? =some x→(aj n labs)[k]? =some (bI x (n+k))
 | [],n,k,x,h=>by simp at h
 | y::labs,n,0,x,h=>by simp at h;subst h;rfl
 | y::labs,n,k+1,x,h=>by
  have:=jS labs (n+1) k x (by simpa using h);simp only[aj,List.getElem?_cons_succ,this];rw[show n+1+k=n+(k+1) by omega]
def dw (labs:List Adz.Lab):Prop:=(labs.map (·.name)).Nodup
theorem map_set:∀(labs:List Adz.Lab) (y x:Adz.Lab) (k:Nat),dw labs→labs[k]? =some x→x.name=y.name→labs.map (fun z=>if z.name==y.name then y else z)=labs.set k y
 | [],y,x,k,_,h,_=>by simp at h
 | z::labs,y,x,0,gA,h,hn=>by
  simp only[List.getElem?_cons_zero,Option.some.injEq] at h;subst h;unfold dw at gA;rw[List.map_cons,List.nodup_cons] at gA;rw[List.map_cons,List.set_cons_zero];have e0:(z.name==y.name)=true:=by simp[hn]
  rw[if_pos e0];congr 1
  have:∀a∈labs,(if a.name==y.name then y else a)=a:=fun a ha=>by
   have:a.name≠y.name:=fun e=>gA.1 (by rw[hn,←e];exact List.mem_map_of_mem ha);rw[if_neg (by simpa using this)]
  rw[List.map_congr_left this];simp
 | z::labs,y,x,k+1,gA,h,hn=>by
  unfold dw at gA;rw[List.map_cons,List.nodup_cons] at gA;have hk:labs[k]? =some x:=by simpa using h
  have hz:z.name≠y.name:=fun e=>gA.1 (by
   rw[e,←hn];exact List.mem_map_of_mem (List.mem_of_getElem? hk))
  rw[List.map_cons,List.set_cons_succ,if_neg (by simpa using hz),map_set labs y x k gA.2 hk hn]
theorem mF {labs:List Adz.Lab}{y x:Adz.Lab}{k:Nat} (gA:dw labs) (hk:labs[k]? =some x) (hn:x.name=y.name):Adz.putLab labs y=labs.set k y:=by
 unfold Adz.putLab;have:labs.any (fun z=>z.name==y.name)=true:=List.any_eq_true.2 ⟨x,List.mem_of_getElem? hk,by simp[hn]⟩;rw[if_pos this];exact map_set labs y x k gA hk hn
theorem mE {labs:List Adz.Lab}{y:Adz.Lab} (h:labs.find? (fun x=>x.name==y.name)=none):Adz.putLab labs y=labs++ [y]:=by
 unfold Adz.putLab
 have:labs.any (fun z=>z.name==y.name)=false:=by
  rw[List.any_eq_false];intro z hz;have:=List.find?_eq_none.1 h z hz;simpa using this
 rw[if_neg (by rw[this];simp)]
theorem rz {labs:List Adz.Lab}{y:Adz.Lab} (gA:dw labs):dw (Adz.putLab labs y):=by
 cases hf:labs.find? (fun x=>x.name==y.name) with
 | none=>
  rw[mE hf];unfold dw at*
  rw[List.map_append,List.nodup_append];refine⟨gA,by simp,?_⟩;intro a ha b hb e;simp at hb;obtain⟨z,hz,rfl⟩:=List.mem_map.1 ha;have:=List.find?_eq_none.1 hf z hz;simp at this;exact this (e.trans hb)
 | some x=>
  obtain⟨k,h1,h2,_⟩:=jm y.name labs 0 0 x hf;rw[mF gA h1 h2];unfold dw at*
  have:(labs.set k y).map (·.name)=labs.map (·.name):=by
   rw[List.map_set];have hk:(labs.map (·.name))[k]? =some y.name:=by rw[List.getElem?_map,h1];simp[h2]
   obtain⟨hl,he⟩:=List.getElem?_eq_some_iff.1 hk;rw[←he,List.set_getElem_self]
  rw[this];exact gA
theorem sD (w:World) (lb:Nat) (labs:List Adz.Lab) (y:Adz.Lab) (gA:dw labs) (h:dv w lb labs):
 ∃w',(Instr.mapUpdate 117 (.map (some lb)) (.string ⟨y.name.toArray⟩) (.agg #[.int .i64 y.set,.int .i64 y.asked])).run Tryz.prog w=.ok () w'∧dv w' lb (Adz.putLab labs y)∧ae (·=lb) w w':=by
 unfold dv at h ⊢
 cases hf:labs.find? (fun x=>x.name==y.name) with
 | none=>
  have h3:=lq y.name labs 0 0 hf;have hk:=fT w ⟨y.name.toArray⟩ (aj 0 labs).toArray.toList _ h3;rw[mE hf];simp only[Instr.mapUpdate,Sem.run_bind,run_underlying Tryz.underlying117,MapKept.run_getObj_map h,dI,Result.andThen,hk];rw[MapKept.run_setObj_map _ h];have hs:=mL w lb _ (aj 0 (labs++ [y])).toArray _ (labs++ [y]).length h;refine⟨_,rfl,?_,?_⟩
  ·have e:(aj 0 (labs++ [y])).toArray=(aj 0 labs).toArray.push {key:=.string ⟨y.name.toArray⟩,val:=.agg #[.int .i64 y.set,.int .i64 y.asked],born:=labs.length}:=by
    rw[gO,Nat.zero_add];simp[bI]
   have:=hs.2;rw[e,List.length_append] at this;rw[e,List.length_append];exact this
  ·have e:(aj 0 (labs++ [y])).toArray=(aj 0 labs).toArray.push {key:=.string ⟨y.name.toArray⟩,val:=.agg #[.int .i64 y.set,.int .i64 y.asked],born:=labs.length}:=by
    rw[gO,Nat.zero_add];simp[bI]
   have:=hs.1;rw[e,List.length_append] at this;exact this
 | some x=>
  obtain⟨k,h1,h2,h3⟩:=jm y.name labs 0 0 x hf;rw[Nat.zero_add] at h3;have hk:=fT w ⟨y.name.toArray⟩ (aj 0 labs).toArray.toList _ h3;rw[mF gA h1 h2];simp only[Instr.mapUpdate,Sem.run_bind,run_underlying Tryz.underlying117,MapKept.run_getObj_map h,dI,Result.andThen,hk]
  have bJ:(aj 0 labs).toArray[k]? =some (bI x k):=by
   have:=jS labs 0 k x h1;rw[Nat.zero_add] at this;simpa using this
  have e0:((Option.map (fun x=>x.key) (aj 0 labs).toArray[k]?).getD (Value.string ⟨y.name.toArray⟩))=Value.string ⟨y.name.toArray⟩:=by
   rw[bJ];simp[bI,h2]
  rw[e0,zH]
  have e1:((aj 0 labs).toArray.modify k fun e=> {key:=Value.string ⟨y.name.toArray⟩,val:=Value.agg #[Value.int IntKind.i64 y.set,Value.int IntKind.i64 y.asked],born:=e.born})=(aj 0 (labs.set k y)).toArray:=by
   rw[←me];apply Array.ext';simp
  simp only[e1];rw[MapKept.run_setObj_map _ h];have hs:=mL w lb _ (aj 0 (labs.set k y)).toArray _ labs.length h;refine⟨_,rfl,?_,hs.1⟩;rw[List.length_set];exact hs.2
end
end Go.Proofs.YtbiobhghnldckaaGreatDoor
