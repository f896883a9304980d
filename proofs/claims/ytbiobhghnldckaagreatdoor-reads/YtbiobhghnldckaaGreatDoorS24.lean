/- Proved: what is wrong with a pattern is told. Conditions: the cursor lies in memory as 'Cur' says. -/
import Derived.Test.YtbiobhghnldckaaGreatDoorS23
namespace Go.Proofs.YtbiobhghnldckaaGreatDoor
set_option linter.unusedVariables false
set_option maxRecDepth 100000
set_option maxHeartbeats 6400000
section
open Go.RowKit
attribute [local go_sem ↓] Go.wp_at_zero Go.wp_at_succ
theorem mC (g:CG) (w:World) (i:Nat) (h:Cur g w i) (f:Adz.Flt) (hr:Adz.patRead g.L g.pl i=.error f):
 Calls Tryz.prog 174 #[.pointer (some ⟨g.c,0,none⟩)] w fun e w'=>∃v,e=.returned (.tuple #[.agg #[.slice none 0 0,.int .i64 0],v])∧ck w w' v f∧ae (·=g.c) w w':=by
 unfold Adz.patRead at hr;obtain⟨M,hM⟩:∃M,Adz.items g.L g.pl (g.L.length+1) ⟨i,[],0,[]⟩=M:=⟨_,rfl⟩;rw[hM] at hr;have HI:Hid _:=hM;have HR:Hid _:=hr;clear hM hr;have cR:=h.lt;have hle:=h.le;have eX:=h.tp.lt;have dy:=h.small;go_enter Tryz.func174,Tryz.ntmps174;go_wp2_with fail;refine(ar g _ i (h.alloc _)).mono ?_;rintro e w1 ⟨rfl,n,rfl⟩;go_wp2_with fail
 have h0:Rdr g (w.heap.size+1) (w.heap.size+1) (((w.alloc (.cells #[.slice none 0 0,.int .i64 0] 160)).drewN n).alloc (.cells #[.pointer (some ⟨g.c,0,none⟩),.slice none 0 0,.int .i64 0,.slice none 0 0] 249)) ⟨i,[],0,[]⟩:=by
  have:=Rdr.start ((h.alloc (.cells #[.slice none 0 0,.int .i64 0] 160)).drewN n);simpa using this
 have G5:ai (((w.alloc (.cells #[.slice none 0 0,.int .i64 0] 160)).drewN n).alloc (.cells #[.pointer (some ⟨g.c,0,none⟩),.slice none 0 0,.int .i64 0,.slice none 0 0] 249)) w.heap.size [.slice none 0 0,.int .i64 0]:=((ai.new w _ _).drewN n).alloc _;have Ss:aq (((w.alloc (.cells #[.slice none 0 0,.int .i64 0] 160)).drewN n).alloc (.cells #[.pointer (some ⟨g.c,0,none⟩),.slice none 0 0,.int .i64 0,.slice none 0 0] 249)) w.heap.size 160:=((aq.new w _ _ _).drewN n).alloc _;have oo:ae (fun _=>False) w (((w.alloc (.cells #[.slice none 0 0,.int .i64 0] 160)).drewN n).alloc (.cells #[.pointer (some ⟨g.c,0,none⟩),.slice none 0 0,.int .i64 0,.slice none 0 0] 249)):=(((ae.refl _ w).alloc _).drewN n).alloc _;generalize (((w.alloc (.cells #[.slice none 0 0,.int .i64 0] 160)).drewN n).alloc (.cells #[.pointer (some ⟨g.c,0,none⟩),.slice none 0 0,.int .i64 0,.slice none 0 0] 249))=w0 at*
 go_loopg [] (g.L.length - i) (fun k wr=>∃s m,Hid (Rdr g (w.heap.size+1) (w.heap.size+1) wr s)∧s.i+k=g.L.length∧Hid (g.L.length<m+s.i∧Adz.items g.L g.pl m s=M)∧Hid (ae (SR g (w.heap.size+1)) w0 wr))
 case atStart=>exact ⟨_,g.L.length+1,h0,by simp;omega,⟨by simp;omega,HI.out⟩,ae.refl _ _⟩
 case round=>
  obtain⟨s,m,hR,hk,hI,hO⟩:=hrel;obtain⟨hm,hit⟩:=hI.out;have rZ:Rdr g (w.heap.size+1) (w.heap.size+1) wr s:=hR;have bQ:ae (SR g (w.heap.size+1)) w0 wr:=hO;have fq:=rZ.cur.le;clear hR hO hI
  have Kk:¬SR g (w.heap.size+1) w.heap.size:=by
   rintro(e | e)
   ·omega
   ·omega
  cases m with
  | zero=>omega
  | succ m=>
   unfold Adz.items at hit;by_cases bK:Adz.peek g.L s.i=47
   ·simp only[bK,beq_self_eq_true,if_true] at hit
    subst hit;have hr:=HR.out;simp only at hr;have aw:s.i<g.L.length:=Adz.lt_of_peek (by omega);have cP:=ah g wr s.i rZ.cur;rw[bK] at cP;clear hk hm HI HR;go_wp2_with fail;refine cP.mono ?_;clear cP;rintro e w1 ⟨rfl,n1,rfl⟩;go_wp2_with fail;refine(ax g _ s.i (rZ.cur.drewN n1) aw).mono ?_;rintro e w1 ⟨rfl,cC,bq⟩;have h1:=(rZ.drewN n1).moved cC bq (by omega);obtain⟨iv,gI,j1,j2,j3⟩:=h1.it;obtain⟨ov,p1,p2⟩:=h1.op;obtain⟨ia,ic,zn⟩:=ak j2;obtain⟨oa,oc,MC⟩:=ak p2;rw[zn] at j1;rw[MC] at p1;simp only at j1 p1;have mj:ai w1 w.heap.size [.slice none 0 0,.int .i64 0]:=(((G5.keeps bQ Kk).drewN n1).keeps bq (by omega));have eG:w.heap.size+1<w1.heap.size:=h1.trd.lt;have Va:=h1.small;have UX:=h1.opens;clear j2 j3 p2 zn MC;by_cases hn:s.items.length>30
    ·rw[if_pos hn] at hr
     simp only[Except.error.injEq] at hr;subst hr;have d30:(30:Int)<(s.items.length:Int):=by omega
     go_wp2_with fail;refine(aV 4 _ _).mono ?_;rintro e w5 ⟨rfl,C4⟩;have k0:=(mj.keeps ((ae.refl (fun _=>False) w1).alloc (.cells #[.int .i64 4,.int .i64 (Adz.place g.pl i)] 73)) id) 0 _ rfl;have k1:=(mj.keeps ((ae.refl (fun _=>False) w1).alloc (.cells #[.int .i64 4,.int .i64 (Adz.place g.pl i)] 73)) id) 1 _ rfl;have hf:=db.new w1 4 (Adz.place g.pl i);have tG:ae (·=g.c) wr (w1.alloc (.cells #[.int .i64 4,.int .i64 (Adz.place g.pl i)] 73)):=((((ae.refl (·=g.c) wr).drewN n1).trans bq (fun _ e=>e) (fun _ _ e=>e))).alloc _;rw[←C4] at k0 k1 hf tG;clear C4;obtain⟨fb,eW⟩:∃fb,w1.heap.size=fb:=⟨_,rfl⟩;rw[eW] at hf ⊢;have KK:w.heap.size+1<fb:=by omega
     go_wp2;have o5:=fk w5 w.heap.size (.slice none 0 0) (.int .i64 0);refine bodyPost_ret (v:=.tuple #[.agg #[.slice none 0 0,.int .i64 0],.pointer (some ⟨fb,0,none⟩)]) (by simp[results,Tryz.results174,go_sem,k0,k1]) rfl ⟨_,rfl,⟨fb,rfl,by omega,hf.keeps o5 (by omega)⟩,?_⟩;have c1:ae (·=g.c) w wr:=oo.trans bQ (fun _ e=>e.elim) (fun b hb e=>by rcases e with e | e;exact e;omega);exact(c1.trans tG (fun _ e=>e) (fun _ _ e=>e)).trans o5 (fun _ e=>e) (fun b hb e=>by omega)
    ·rw[if_neg hn] at hr
     by_cases ho:s.opens.length>0
     ·rw[if_pos ho] at hr
      simp only[Except.error.injEq] at hr;subst hr;have d30:¬(30:Int)<(s.items.length:Int):=by omega
      have d0:(0:Int)<(s.opens.length:Int):=by omega
      go_wp2_with fail;refine(aV 8 _ _).mono ?_;rintro e w5 ⟨rfl,C4⟩;have k0:=(mj.keeps ((ae.refl (fun _=>False) w1).alloc (.cells #[.int .i64 8,.int .i64 (Adz.place g.pl i)] 73)) id) 0 _ rfl;have k1:=(mj.keeps ((ae.refl (fun _=>False) w1).alloc (.cells #[.int .i64 8,.int .i64 (Adz.place g.pl i)] 73)) id) 1 _ rfl;have hf:=db.new w1 8 (Adz.place g.pl i);have tG:ae (·=g.c) wr (w1.alloc (.cells #[.int .i64 8,.int .i64 (Adz.place g.pl i)] 73)):=((((ae.refl (·=g.c) wr).drewN n1).trans bq (fun _ e=>e) (fun _ _ e=>e))).alloc _;rw[←C4] at k0 k1 hf tG;clear C4;obtain⟨fb,eW⟩:∃fb,w1.heap.size=fb:=⟨_,rfl⟩;rw[eW] at hf ⊢;have KK:w.heap.size+1<fb:=by omega
      go_wp2;have o5:=fk w5 w.heap.size (.slice none 0 0) (.int .i64 0);refine bodyPost_ret (v:=.tuple #[.agg #[.slice none 0 0,.int .i64 0],.pointer (some ⟨fb,0,none⟩)]) (by simp[results,Tryz.results174,go_sem,k0,k1]) rfl ⟨_,rfl,⟨fb,rfl,by omega,hf.keeps o5 (by omega)⟩,?_⟩;have c1:ae (·=g.c) w wr:=oo.trans bQ (fun _ e=>e.elim) (fun b hb e=>by rcases e with e | e;exact e;omega);exact(c1.trans tG (fun _ e=>e) (fun _ _ e=>e)).trans o5 (fun _ e=>e) (fun b hb e=>by omega)
     ·rw[if_neg ho] at hr
      cases hr
   ·have fs:(Adz.peek g.L s.i==47)=false:=by simpa using bK
    have Ik:(Adz.peek g.L s.i !=47)=true:=by simpa[bne] using bK
    rw[fs] at hit;simp only[Bool.false_eq_true,if_false] at hit
    cases zm:Adz.item g.L g.pl s with
    | error f'=>
     rw[zm] at hit;simp only at hit;subst hit;have hr:=HR.out;simp only[Except.error.injEq] at hr;subst hr;have HS:Hid _:=zm;have cP:=ah g wr s.i rZ.cur;clear zm fs hk;generalize Adz.peek g.L s.i=pk at*
     go_wp2_with fail;refine cP.mono ?_;clear cP;rintro e w1 ⟨rfl,n1,rfl⟩;go_wp2_with fail;refine(B7 (rZ.drewN n1) f' HS.out).mono ?_;rintro e w5 ⟨v,rfl,⟨fb,rfl,eW,hf⟩,o5⟩;have tG:ae (·=g.c) wr w5:=((ae.refl (·=g.c) wr).drewN n1).trans o5 (fun _ e=>e) (fun _ _ e=>e);have vP:ai w5 w.heap.size [.slice none 0 0,.int .i64 0]:=((G5.keeps bQ Kk).drewN n1).keeps o5 (by omega);have k0:=vP 0 _ rfl;have k1:=vP 1 _ rfl;have eG:w.heap.size+1<wr.heap.size:=rZ.trd.lt;have GS:wr.heap.size≤fb:=eW;clear vP o5;go_wp2;have o5:=fk w5 w.heap.size (.slice none 0 0) (.int .i64 0);refine bodyPost_ret (v:=.tuple #[.agg #[.slice none 0 0,.int .i64 0],.pointer (some ⟨fb,0,none⟩)]) (by simp[results,Tryz.results174,go_sem,k0,k1]) rfl ⟨_,rfl,⟨fb,rfl,by omega,hf.keeps o5 (by omega)⟩,?_⟩;have c1:ae (·=g.c) w wr:=oo.trans bQ (fun _ e=>e.elim) (fun b hb e=>by rcases e with e | e;exact e;omega);exact(c1.trans tG (fun _ e=>e) (fun _ _ e=>e)).trans o5 (fun _ e=>e) (fun b hb e=>by omega)
    | ok s1=>
     rw[zm] at hit;simp only at hit;have HS:Hid (Adz.item g.L g.pl s=.ok s1):=zm;have HT:Hid (Adz.items g.L g.pl m s1=M):=hit;have aw:=Adz.item_lt zm;have HK:Hid (s.i+gk=g.L.length):=hk;clear zm hit hk fs;go_wp2_with fail;refine(ah g wr s.i rZ.cur).mono ?_;rintro e w1 ⟨rfl,n1,rfl⟩;go_wp2_with fail;refine(yh (rZ.drewN n1) HS.out).mono ?_;rintro e w1 ⟨rfl,h1,o1⟩;go_wp2;go_roundg (g.L.length - s1.i)
     case measure=>have:=HK.out;have:=h1.cur.le;omega
     case rel=>exact ⟨s1,m,h1,by have:=h1.cur.le;omega,⟨by omega,HT.out⟩,cG (ae.drewN bQ n1) o1⟩
theorem lZ (g:CG) (pp cb:Nat) (w:World) (i:Nat) (h:Cur g w i) (hp:Lead g pp w) (f:Adz.Flt) (hr:Adz.address g.L g.pl i=.error f):
 Calls Tryz.prog 169 #[.pointer (some ⟨pp,0,none⟩),.pointer (some ⟨cb,0,none⟩)] w fun e w'=>∃v,e=.returned v∧ck w w' v f∧ae (·=g.c) w w':=by
 unfold Adz.address at hr;have q0:=hp.at0
 cases bJ:Adz.atAddress g.L i with
 | false=>
  rw[bJ] at hr;simp only[Bool.not_false,if_true,Except.error.injEq] at hr;subst hr;have c1:=gL g pp w i h hp bJ;clear bJ;go_enter Tryz.func169,Tryz.ntmps169;go_wp2_with fail;refine c1.mono ?_;rintro e w1 ⟨rfl,n1,rfl⟩;go_wp2_with fail;refine(aX g _ i (h.drewN n1)).mono ?_;rintro e w3 ⟨v,rfl,hf,o3⟩;go_wp2;go_ret;exact⟨v,rfl,hf.back (Nat.le_refl _),((ae.refl (·=g.c) w).drewN n1).trans o3 (fun _ e=>e) (fun _ _ e=>e.elim)⟩
 | true=>
 rw[bJ] at hr;simp only[Bool.not_true,Bool.false_eq_true,if_false] at hr;have c1:=eS g pp w i h hp bJ;by_cases uG:Adz.peek g.L i=36
 ·rw[if_pos (by simp[uG])] at hr
  cases hr
 rw[if_neg (by simpa using uG)] at hr;by_cases pj:Adz.peek g.L i=47
 ·rw[if_pos (by simp[pj])] at hr
  have nT:Adz.patRead g.L g.pl (i+1)=.error f:=by
   cases hq:Adz.patRead g.L g.pl (i+1) with
   | error f'=>rw [hq] at hr;simpa using hr
   | ok q=>rw [hq] at hr;cases hr
  have HR:Hid _:=nT;clear hr nT bJ;go_enter Tryz.func169,Tryz.ntmps169;go_wp2_with fail;refine c1.mono ?_;rintro e w1 ⟨rfl,n1,da⟩;have o1:ae (·=g.c) w w1:=by rw[da];exact(ae.refl _ w).drewN n1
  have h1:Cur g w1 i:=by rw[da];exact h.drewN n1
  have l1:=hp.moved o1;clear da c1;have q1:=l1.at0;have MK:=l1.lt;have BX:=o1.size;go_wp2_with fail;have oa:ae (fun _=>False) w1 (w1.alloc (.cells #[.int .i64 0,.int .i64 0,.slice none 0 0,.int .i64 0] 186)):=(ae.refl _ w1).alloc _;have ka:=ai.new w1 #[.int .i64 0,.int .i64 0,.slice none 0 0,.int .i64 0] 186;have ta:=aq.new w1 #[.int .i64 0,.int .i64 0,.slice none 0 0,.int .i64 0] 186 (0,0);have nu:w1.heap.size≠g.c:=by have:=h1.lt;omega
  have ek:=h1.alloc (.cells #[.int .i64 0,.int .i64 0,.slice none 0 0,.int .i64 0] 186);have vR:=l1.alloc (.cells #[.int .i64 0,.int .i64 0,.slice none 0 0,.int .i64 0] 186);generalize w1.alloc (.cells #[.int .i64 0,.int .i64 0,.slice none 0 0,.int .i64 0] 186)=wa at*
  refine(aH g wa i 36 ek uG).mono ?_;rintro e w2 ⟨rfl,n2,rfl⟩;have q2:=vR.at0;go_wp2_with fail;refine(aC g _ i 47 (ek.drewN n2) pj (by omega)).mono ?_;rintro e w2 ⟨rfl,h2,aK⟩;have o2:ae (·=g.c) w1 w2:=(oa.drewN n2).trans aK (fun _ e=>e.elim) (fun _ _ e=>e);have k2:ai w2 w1.heap.size [.int .i64 0,.int .i64 0,.slice none 0 0,.int .i64 0]:=(ka.drewN n2).keeps aK nu;have t2:aq w2 w1.heap.size 186:=(ta.drewN n2).keeps aK nu;have l2:Lead g pp w2:=(vR.drewN n2).moved aK;clear oa ka ta ek vR q2;have j0:=(k2 0 _ rfl).1;have f0:=(k2 0 _ rfl).2;have oS:=af w2 w1.heap.size 0 (.int .i64 2);have k3:=k2.set 0 (.int .i64 2);have h3:Cur g (w2.setCell ⟨w1.heap.size,0,none⟩ (.int .i64 2)) (i+1):=h2.keeps oS nu.symm (fun hn=>(h2.tr hn).ne t2 (by decide)) (h2.tp.ne t2 (by decide));have l3:Lead g pp (w2.setCell ⟨w1.heap.size,0,none⟩ (.int .i64 2)):=l2.keeps oS (by omega);have t3:aq (w2.setCell ⟨w1.heap.size,0,none⟩ (.int .i64 2)) w1.heap.size 186:=t2.set;have o3:ae (fun b=>b=g.c∨b=w1.heap.size) w1 (w2.setCell ⟨w1.heap.size,0,none⟩ (.int .i64 2)):=o2.trans oS (fun _ e=>Or.inl e) (fun _ _ e=>Or.inr e);have q3:=l3.at0;have G7:w1.heap.size<(w2.setCell ⟨w1.heap.size,0,none⟩ (.int .i64 2)).heap.size:=t3.lt;go_wp2_with fail;generalize w2.setCell ⟨w1.heap.size,0,none⟩ (.int .i64 2)=w3 at*
  refine(mC g w3 (i+1) h3 f HR.out).mono ?_;rintro e w4 ⟨v,rfl,⟨fb,rfl,eW,hf⟩,o4⟩;have k4:=k3.keeps o4 nu;have t4:=t3.keeps o4 nu;have j2:=(k4 2 _ rfl).1;have f2:=(k4 2 _ rfl).2;have j3:=(k4 3 _ rfl).1;have f3:=(k4 3 _ rfl).2;have vS:ae (·=w1.heap.size) w4 ((w4.setCell ⟨w1.heap.size,2,none⟩ (.slice none 0 0)).setCell ⟨w1.heap.size,3,none⟩ (.int .i64 0)):=aW (af _ _ _ _) (af _ _ _ _);have xi:ae (·=g.c) w1 ((w4.setCell ⟨w1.heap.size,2,none⟩ (.slice none 0 0)).setCell ⟨w1.heap.size,3,none⟩ (.int .i64 0)):=((o3.trans o4 (fun _ e=>e) (fun _ _ e=>Or.inl e):ae (fun b=>b=g.c∨b=w1.heap.size) w1 w4).trans vS (fun _ e=>e) (fun _ _ e=>Or.inr e)).mono (fun b hb e=>by rcases e with e | e;exact e;omega);have zj:=hf.keeps vS (by omega);have yF:Hid _:=zj;have tL:Hid (ae (·=g.c) w ((w4.setCell ⟨w1.heap.size,2,none⟩ (.slice none 0 0)).setCell ⟨w1.heap.size,3,none⟩ (.int .i64 0))):=(o1.trans xi (fun _ e=>e) (fun _ _ e=>e));clear zj xi vS k4 o4 k3 h3 l3 t3 o3 oS k2 t2 h2 l2 o2 j0 f0;go_wp2;go_ret;exact⟨_,rfl,⟨fb,rfl,by omega,yF.out⟩,tL.out⟩
 ·rw[if_neg (by simpa using pj)] at hr
  have nT:Adz.number g.L g.pl i=.error f:=by
   cases hq:Adz.number g.L g.pl i with
   | error f'=>rw [hq] at hr;simpa using hr
   | ok q=>rw [hq] at hr;cases hr
  have HR:Hid _:=nT;clear hr nT bJ;go_enter Tryz.func169,Tryz.ntmps169;go_wp2_with fail;refine c1.mono ?_;rintro e w1 ⟨rfl,n1,da⟩;have o1:ae (·=g.c) w w1:=by rw[da];exact(ae.refl _ w).drewN n1
  have h1:Cur g w1 i:=by rw[da];exact h.drewN n1
  have l1:=hp.moved o1;clear da c1;have q1:=l1.at0;have MK:=l1.lt;have BX:=o1.size;go_wp2_with fail;have oa:ae (fun _=>False) w1 (w1.alloc (.cells #[.int .i64 0,.int .i64 0,.slice none 0 0,.int .i64 0] 186)):=(ae.refl _ w1).alloc _;have ka:=ai.new w1 #[.int .i64 0,.int .i64 0,.slice none 0 0,.int .i64 0] 186;have ta:=aq.new w1 #[.int .i64 0,.int .i64 0,.slice none 0 0,.int .i64 0] 186 (0,0);have nu:w1.heap.size≠g.c:=by have:=h1.lt;omega
  have ek:=h1.alloc (.cells #[.int .i64 0,.int .i64 0,.slice none 0 0,.int .i64 0] 186);have vR:=l1.alloc (.cells #[.int .i64 0,.int .i64 0,.slice none 0 0,.int .i64 0] 186);generalize w1.alloc (.cells #[.int .i64 0,.int .i64 0,.slice none 0 0,.int .i64 0] 186)=wa at*
  refine(aH g wa i 36 ek uG).mono ?_;rintro e w2 ⟨rfl,n2,rfl⟩;have q2:=vR.at0;go_wp2_with fail;refine(aH g _ i 47 (ek.drewN n2) pj).mono ?_;rintro e w2 ⟨rfl,n3,eH⟩;have o2:ae (·=g.c) w1 w2:=by rw[eH];exact((oa.drewN _).drewN _).mono (fun _ _ e=>e.elim)
  have k2:ai w2 w1.heap.size [.int .i64 0,.int .i64 0,.slice none 0 0,.int .i64 0]:=by rw[eH];exact(ka.drewN _).drewN _
  have t2:aq w2 w1.heap.size 186:=by rw[eH];exact(ta.drewN _).drewN _
  have h2:Cur g w2 i:=by rw[eH];exact(ek.drewN _).drewN _
  have l2:Lead g pp w2:=by rw[eH];exact(vR.drewN _).drewN _
  clear eH oa ka ta ek vR q2;have j0:=(k2 0 _ rfl).1;have f0:=(k2 0 _ rfl).2;have oS:=af w2 w1.heap.size 0 (.int .i64 0);have k3:=k2.set 0 (.int .i64 0);have h3:Cur g (w2.setCell ⟨w1.heap.size,0,none⟩ (.int .i64 0)) i:=h2.keeps oS nu.symm (fun hn=>(h2.tr hn).ne t2 (by decide)) (h2.tp.ne t2 (by decide));have l3:Lead g pp (w2.setCell ⟨w1.heap.size,0,none⟩ (.int .i64 0)):=l2.keeps oS (by omega);have t3:aq (w2.setCell ⟨w1.heap.size,0,none⟩ (.int .i64 0)) w1.heap.size 186:=t2.set;have o3:ae (fun b=>b=g.c∨b=w1.heap.size) w1 (w2.setCell ⟨w1.heap.size,0,none⟩ (.int .i64 0)):=o2.trans oS (fun _ e=>Or.inl e) (fun _ _ e=>Or.inr e);have q3:=l3.at0;have G7:w1.heap.size<(w2.setCell ⟨w1.heap.size,0,none⟩ (.int .i64 0)).heap.size:=t3.lt;go_wp2_with fail;generalize w2.setCell ⟨w1.heap.size,0,none⟩ (.int .i64 0)=w3 at*
  refine(pJ g pp w3 i h3 l3 f HR.out).mono ?_;rintro e w4 ⟨v,rfl,⟨fb,rfl,eW,hf⟩,o4⟩;have k4:=k3.keeps o4 nu;have t4:=t3.keeps o4 nu;have j1:=(k4 1 _ rfl).1;have f1:=(k4 1 _ rfl).2;have vS:=af w4 w1.heap.size 1 (.int .i64 0);have xi:ae (·=g.c) w1 (w4.setCell ⟨w1.heap.size,1,none⟩ (.int .i64 0)):=((o3.trans o4 (fun _ e=>e) (fun _ _ e=>Or.inl e):ae (fun b=>b=g.c∨b=w1.heap.size) w1 w4).trans vS (fun _ e=>e) (fun _ _ e=>Or.inr e)).mono (fun b hb e=>by rcases e with e | e;exact e;omega);have zj:=hf.keeps vS (by omega);have yF:Hid _:=zj;have tL:Hid (ae (·=g.c) w (w4.setCell ⟨w1.heap.size,1,none⟩ (.int .i64 0))):=(o1.trans xi (fun _ e=>e) (fun _ _ e=>e));clear zj xi vS k4 o4 k3 h3 l3 t3 o3 oS k2 t2 h2 l2 o2 j0 f0;go_wp2;go_ret;exact⟨_,rfl,⟨fb,rfl,by omega,yF.out⟩,tL.out⟩
theorem qh (g:CG) (pp cb B:Nat) (w:World) (i:Nat) (h:Cur g w i) (hp:Lead g pp w) (hc:HeadAt w cb B []) (hB:B≤cb) (RG:pp<B) (Wn:B≤w.heap.size) (f:Adz.Flt) (hr:Adz.addresses g.L g.pl i=.error f):
 Calls Tryz.prog 143 #[.pointer (some ⟨pp,0,none⟩),.pointer (some ⟨cb,0,none⟩)] w fun e w'=>∃v,e=.returned v∧ck w w' v f∧ae (fun b=>b=g.c∨B≤b) w w':=by
 unfold Adz.addresses at hr
 cases ha:Adz.address g.L g.pl i with
 | error f'=>
  rw[ha] at hr;simp only[Except.error.injEq] at hr;subst hr;have HA:Hid _:=ha;clear ha;go_enter Tryz.func143,Tryz.ntmps143;go_wp2_with fail;refine(lZ g pp cb w i h hp f' HA.out).mono ?_;rintro e w1 ⟨v,rfl,⟨fb,rfl,eW,hf⟩,o1⟩;go_wp2;go_ret;exact⟨_,rfl,⟨fb,rfl,eW,hf⟩,o1.mono (fun _ _ e=>Or.inl e)⟩
 | ok q=>
  obtain⟨a,i1⟩:=q;rw[ha] at hr;simp only at hr;by_cases mV:Adz.peek g.L i1=44
  ·rw[if_pos (by simp[mV])] at hr
   have nT:Adz.address g.L g.pl (Adz.blanks g.L (i1+1))=.error f:=by
    cases hq:Adz.address g.L g.pl (Adz.blanks g.L (i1+1)) with
    | error f'=>rw [hq] at hr;simpa using hr
    | ok q=>rw [hq] at hr;cases hr
   have HR:Hid _:=nT;have c1:=gJ g pp i a i1 ha w cb B [] h hp hc hB (by simp);have bM:cb≠g.c:=hc.typ.ne h.tc (by decide);clear hr nT ha;go_enter Tryz.func143,Tryz.ntmps143;go_wp2_with fail;refine c1.mono ?_;rintro e w1 ⟨rfl,m1,h1,o1⟩;have l1:=hp.keeps o1 (by rintro(e | e);exact hp.ne e;omega);have q1:=l1.at0;go_wp2_with fail;refine(aC g w1 i1 44 h1 mV (by omega)).mono ?_;rintro e w2 ⟨rfl,h2,o2⟩;have l2:=l1.moved o2;have q2:=l2.at0;go_wp2_with fail;refine(bO g w2 (i1+1) h2).mono ?_;rintro e w3 ⟨rfl,h3,o3⟩;have l3:=l2.moved o3;have tF:ae (fun b=>b=g.c∨B≤b) w w3:=(o1.trans o2 (fun _ e=>e) (fun _ _ e=>Or.inl e)).trans o3 (fun _ e=>e) (fun _ _ e=>Or.inl e);have hz:=tF.size;go_wp2_with fail;refine(lZ g pp cb w3 _ h3 l3 f HR.out).mono ?_;rintro e w4 ⟨v,rfl,hf,o4⟩;go_wp2;go_ret;exact⟨v,rfl,hf.back hz,tF.trans o4 (fun _ e=>e) (fun _ _ e=>Or.inl e)⟩
  ·rw[if_neg (by simpa using mV)] at hr
   cases hr
theorem qw {W:World}{R:Nat}{x0 x1 x2 x3 x4 x5 x6 x7 x8 x9 ke kg jG jH:Value}{tmps:Array Value}{fv:Value} (h2:tmps[2]? =some (.pointer (some ⟨R,0,none⟩))) (h3:tmps[3]? =some fv) (hR:ai W R [x0,x1,x2,x3,x4,x5,x6,x7,x8,x9,ke,kg,jG,jH]):
 (results Tryz.f100 tmps).run Tryz.prog W=.ok (.tuple #[.agg #[x0,x1,x2,x3,x4,x5,x6,x7,x8,x9,ke,kg,jG,jH],fv]) W:=by
 simp[results,Tryz.results100,go_sem,h2,h3,(hR 0 _ rfl).1,(hR 1 _ rfl).1,(hR 2 _ rfl).1,(hR 3 _ rfl).1,(hR 4 _ rfl).1,(hR 5 _ rfl).1,(hR 6 _ rfl).1,(hR 7 _ rfl).1,(hR 8 _ rfl).1,(hR 9 _ rfl).1,(hR 10 _ rfl).1,(hR 11 _ rfl).1,(hR 12 _ rfl).1,(hR 13 _ rfl).1]
theorem Bu (g:CG) (pp:Nat) (w:World) (i:Nat) (h:Cur g w i) (hp:Lead g pp w) (f:Adz.Flt) (hr:Adz.head g.L g.pl i=.error f):
 Calls Tryz.prog 100 #[.pointer (some ⟨pp,0,none⟩)] w fun e w'=>∃v,e=.returned (.tuple #[.agg #[.int .i32 0,.slice none 0 0,.bool false,.string ⟨#[]⟩,.string ⟨#[]⟩,.int .i64 0,.slice none 0 0,.int .i64 0,.slice none 0 0,.bool false,.bool false,.int .i64 0,.slice none 0 0,.slice none 0 0],v])∧ck w w' v f∧ae (·=g.c) w w':=by
 unfold Adz.head at hr
 cases bJ:Adz.atAddress g.L i with
 | false=>
  rw[bJ] at hr;simp only[Bool.false_eq_true,if_false] at hr;by_cases um:Adz.peek g.L i=33
  ·rw[if_pos (by simp[um])] at hr;cases hr
  ·rw[if_neg (by simpa using um)] at hr;cases hr
 | true=>
 rw[bJ] at hr;simp only[if_true] at hr
 have hA:Adz.addresses g.L g.pl i=.error f:=by
  cases ha:Adz.addresses g.L g.pl i with
  | error f'=>rw [ha] at hr;simpa using hr
  | ok q=>
   rw[ha] at hr;simp only at hr;split at hr <;> cases hr
 have HA:Hid _:=hA;clear hr hA;have q0:=hp.at0;have Ip:=hp.ne;have eX:pp<w.heap.size:=hp.lt;go_enter Tryz.func100,Tryz.ntmps100;go_wp2_with fail
 have gC:HeadAt ((w.alloc (.cells #[.int .i32 0,.slice none 0 0,.bool false,.string ⟨#[]⟩,.string ⟨#[]⟩,.int .i64 0,.slice none 0 0,.int .i64 0,.slice none 0 0,.bool false,.bool false,.int .i64 0,.slice none 0 0,.slice none 0 0] 167)).alloc (.cells #[.int .i32 0,.slice none 0 0,.bool false,.string ⟨#[]⟩,.string ⟨#[]⟩,.int .i64 0,.slice none 0 0,.int .i64 0,.slice none 0 0,.bool false,.bool false,.int .i64 0,.slice none 0 0,.slice none 0 0] 167)) (w.heap.size+1) (w.heap.size+1) []:=by
  have t:=aq.new (w.alloc (.cells #[.int .i32 0,.slice none 0 0,.bool false,.string ⟨#[]⟩,.string ⟨#[]⟩,.int .i64 0,.slice none 0 0,.int .i64 0,.slice none 0 0,.bool false,.bool false,.int .i64 0,.slice none 0 0,.slice none 0 0] 167)) #[.int .i32 0,.slice none 0 0,.bool false,.string ⟨#[]⟩,.string ⟨#[]⟩,.int .i64 0,.slice none 0 0,.int .i64 0,.slice none 0 0,.bool false,.bool false,.int .i64 0,.slice none 0 0,.slice none 0 0] 167 (0,0);have k:=ai.new (w.alloc (.cells #[.int .i32 0,.slice none 0 0,.bool false,.string ⟨#[]⟩,.string ⟨#[]⟩,.int .i64 0,.slice none 0 0,.int .i64 0,.slice none 0 0,.bool false,.bool false,.int .i64 0,.slice none 0 0,.slice none 0 0] 167)) #[.int .i32 0,.slice none 0 0,.bool false,.string ⟨#[]⟩,.string ⟨#[]⟩,.int .i64 0,.slice none 0 0,.int .i64 0,.slice none 0 0,.bool false,.bool false,.int .i64 0,.slice none 0 0,.slice none 0 0] 167;simp only[World.size_alloc] at t k;exact⟨t,.slice none 0 0,[],k,World.ownsRow_nil _ _ _ _,trivial⟩
 have tR:aq ((w.alloc (.cells #[.int .i32 0,.slice none 0 0,.bool false,.string ⟨#[]⟩,.string ⟨#[]⟩,.int .i64 0,.slice none 0 0,.int .i64 0,.slice none 0 0,.bool false,.bool false,.int .i64 0,.slice none 0 0,.slice none 0 0] 167)).alloc (.cells #[.int .i32 0,.slice none 0 0,.bool false,.string ⟨#[]⟩,.string ⟨#[]⟩,.int .i64 0,.slice none 0 0,.int .i64 0,.slice none 0 0,.bool false,.bool false,.int .i64 0,.slice none 0 0,.slice none 0 0] 167)) w.heap.size 167:=(aq.new w _ _ (0,0)).alloc _;have kR:ai ((w.alloc (.cells #[.int .i32 0,.slice none 0 0,.bool false,.string ⟨#[]⟩,.string ⟨#[]⟩,.int .i64 0,.slice none 0 0,.int .i64 0,.slice none 0 0,.bool false,.bool false,.int .i64 0,.slice none 0 0,.slice none 0 0] 167)).alloc (.cells #[.int .i32 0,.slice none 0 0,.bool false,.string ⟨#[]⟩,.string ⟨#[]⟩,.int .i64 0,.slice none 0 0,.int .i64 0,.slice none 0 0,.bool false,.bool false,.int .i64 0,.slice none 0 0,.slice none 0 0] 167)) w.heap.size [.int .i32 0,.slice none 0 0,.bool false,.string ⟨#[]⟩,.string ⟨#[]⟩,.int .i64 0,.slice none 0 0,.int .i64 0,.slice none 0 0,.bool false,.bool false,.int .i64 0,.slice none 0 0,.slice none 0 0]:=(ai.new w _ _).alloc _;have oa:ae (fun _=>False) w ((w.alloc (.cells #[.int .i32 0,.slice none 0 0,.bool false,.string ⟨#[]⟩,.string ⟨#[]⟩,.int .i64 0,.slice none 0 0,.int .i64 0,.slice none 0 0,.bool false,.bool false,.int .i64 0,.slice none 0 0,.slice none 0 0] 167)).alloc (.cells #[.int .i32 0,.slice none 0 0,.bool false,.string ⟨#[]⟩,.string ⟨#[]⟩,.int .i64 0,.slice none 0 0,.int .i64 0,.slice none 0 0,.bool false,.bool false,.int .i64 0,.slice none 0 0,.slice none 0 0] 167)):=((ae.refl _ w).alloc _).alloc _
 have h0:=(h.alloc (.cells #[.int .i32 0,.slice none 0 0,.bool false,.string ⟨#[]⟩,.string ⟨#[]⟩,.int .i64 0,.slice none 0 0,.int .i64 0,.slice none 0 0,.bool false,.bool false,.int .i64 0,.slice none 0 0,.slice none 0 0] 167)).alloc (.cells #[.int .i32 0,.slice none 0 0,.bool false,.string ⟨#[]⟩,.string ⟨#[]⟩,.int .i64 0,.slice none 0 0,.int .i64 0,.slice none 0 0,.bool false,.bool false,.int .i64 0,.slice none 0 0,.slice none 0 0] 167);have l0:=(hp.alloc (.cells #[.int .i32 0,.slice none 0 0,.bool false,.string ⟨#[]⟩,.string ⟨#[]⟩,.int .i64 0,.slice none 0 0,.int .i64 0,.slice none 0 0,.bool false,.bool false,.int .i64 0,.slice none 0 0,.slice none 0 0] 167)).alloc (.cells #[.int .i32 0,.slice none 0 0,.bool false,.string ⟨#[]⟩,.string ⟨#[]⟩,.int .i64 0,.slice none 0 0,.int .i64 0,.slice none 0 0,.bool false,.bool false,.int .i64 0,.slice none 0 0,.slice none 0 0] 167);have c1:=eS g pp _ i h0 l0 bJ;generalize ((w.alloc (.cells #[.int .i32 0,.slice none 0 0,.bool false,.string ⟨#[]⟩,.string ⟨#[]⟩,.int .i64 0,.slice none 0 0,.int .i64 0,.slice none 0 0,.bool false,.bool false,.int .i64 0,.slice none 0 0,.slice none 0 0] 167)).alloc (.cells #[.int .i32 0,.slice none 0 0,.bool false,.string ⟨#[]⟩,.string ⟨#[]⟩,.int .i64 0,.slice none 0 0,.int .i64 0,.slice none 0 0,.bool false,.bool false,.int .i64 0,.slice none 0 0,.slice none 0 0] 167))=wa at*
 have cR:=h.lt;refine c1.mono ?_;rintro e w1 ⟨rfl,n1,da⟩;have o1:ae (·=g.c) wa w1:=by rw[da];exact(ae.refl _ wa).drewN n1
 have h1:Cur g w1 i:=by rw[da];exact h0.drewN n1
 have l1:=l0.moved o1;have bM:w.heap.size+1≠g.c:=by omega
 have nZ:w.heap.size≠g.c:=by omega
 have m1:=gC.keeps o1 h0.spares bM;have FY:=kR.keeps o1 nZ;have Cw:=tR.keeps o1 nZ;clear da c1 gC kR tR;go_wp2_with fail;refine(qh g pp (w.heap.size+1) (w.heap.size+1) w1 i h1 l1 m1 (Nat.le_refl _) (by omega) (by have:=m1.typ.lt;omega) f HA.out).mono ?_;rintro e w2 ⟨v,rfl,⟨fb,rfl,eW,hf⟩,o2⟩;have iU:=FY.keeps o2 (by omega);have Jn:=Cw.keeps o2 (by omega);have KK:=m1.typ.lt;have k1:=fj (W0:=w2) (.int .i32 0) (.slice none 0 0) (.bool false) (.string ⟨#[]⟩) (.string ⟨#[]⟩) (.int .i64 0) (.slice none 0 0) (.int .i64 0) (.slice none 0 0) (.bool false) (.bool false) (.int .i64 0) (.slice none 0 0) (.slice none 0 0) iU;have o4:=fL w2 w.heap.size (.int .i32 0) (.slice none 0 0) (.bool false) (.string ⟨#[]⟩) (.string ⟨#[]⟩) (.int .i64 0) (.slice none 0 0) (.int .i64 0) (.slice none 0 0) (.bool false) (.bool false) (.int .i64 0) (.slice none 0 0) (.slice none 0 0);have Gc:Hid _:=k1;have xE:Hid _:=o4;clear k1 o4;have z0:=(iU 0 _ rfl).1;have u0:=(iU 0 _ rfl).2;have z1:=(iU 1 _ rfl).1;have u1:=(iU 1 _ rfl).2;have z2:=(iU 2 _ rfl).1;have u2:=(iU 2 _ rfl).2;have z3:=(iU 3 _ rfl).1;have u3:=(iU 3 _ rfl).2;have z4:=(iU 4 _ rfl).1;have u4:=(iU 4 _ rfl).2;have z5:=(iU 5 _ rfl).1;have u5:=(iU 5 _ rfl).2;have z6:=(iU 6 _ rfl).1;have u6:=(iU 6 _ rfl).2;have z7:=(iU 7 _ rfl).1;have u7:=(iU 7 _ rfl).2;have z8:=(iU 8 _ rfl).1;have u8:=(iU 8 _ rfl).2;have z9:=(iU 9 _ rfl).1;have u9:=(iU 9 _ rfl).2;have Qb:=(iU 10 _ rfl).1;have u10:=(iU 10 _ rfl).2
 have Qc:=(iU 11 _ rfl).1;have u11:=(iU 11 _ rfl).2;have z12:=(iU 12 _ rfl).1;have u12:=(iU 12 _ rfl).2;have Qd:=(iU 13 _ rfl).1;have u13:=(iU 13 _ rfl).2;go_wp2;refine bodyPost_ret (v:=.tuple #[.agg #[.int .i32 0,.slice none 0 0,.bool false,.string ⟨#[]⟩,.string ⟨#[]⟩,.int .i64 0,.slice none 0 0,.int .i64 0,.slice none 0 0,.bool false,.bool false,.int .i64 0,.slice none 0 0,.slice none 0 0],.pointer (some ⟨fb,0,none⟩)]) (qw rfl rfl Gc.out) rfl ?_;have CT:=hf.keeps xE.out (by omega);refine⟨_,rfl,⟨fb,rfl,by omega,CT⟩,?_⟩;have yt:ae (fun b=>b=g.c∨w.heap.size≤b) w w2:=((oa.trans o1 (fun _ e=>e.elim) (fun _ _ e=>e):ae (·=g.c) w w1).trans o2 (fun _ e=>Or.inl e) (fun _ _ e=>by rcases e with e | e;exact Or.inl e;exact Or.inr (by omega)));exact(yt.trans xE.out (fun _ e=>e) (fun b _ e=>Or.inr (by omega))).mono (fun b hb e=>by rcases e with e | e;exact e;omega)
theorem Cm (g:CG) (pp:Nat) (w:World) (i:Nat) (h:Cur g w i) (hp:Lead g pp w) (gr:Int) (f:Adz.Flt) (hr:Adz.part g.L g.pl gr i=.error f):
 Calls Tryz.prog 196 #[.pointer (some ⟨pp,0,none⟩),.int .i64 gr] w fun e w'=>∃v,e=.returned (.tuple #[.agg #[.int .i64 0,.string ⟨#[]⟩,.int .i64 0],v])∧ck w w' v f∧ae (·=g.c) w w':=by
 unfold Adz.part at hr;have cR:=h.lt;have q0:=hp.at0;have eX:pp<w.heap.size:=hp.lt;have bW:w.heap.size≠g.c:=by omega
 have oa:∀o:Obj,ae (·=g.c) w (w.alloc o):=fun o=>(ae.refl _ w).alloc o;have Jl:∀o:Obj,(w.alloc o).cell? ⟨pp,0,none⟩=some (.pointer (some ⟨g.c,0,none⟩)):=fun o=>(World.cell?_alloc_past _ _ _ eX).trans q0;by_cases c1:Adz.peek g.L i=38
 ·simp[c1] at hr
 ·have b1:(Adz.peek g.L i==38)=false:=by simpa using c1
  rw[b1] at hr;simp only[Bool.false_eq_true,if_false] at hr;clear b1;by_cases c2:Adz.peek g.L i=92
  ·have b2:(Adz.peek g.L i !=92)=false:=by simp[c2]
   rw[b2] at hr;simp only[Bool.false_eq_true,if_false] at hr;clear b2
   by_cases c3:(Adz.peek g.L (i+1)==48 || !Adz.isDigit (Adz.peek g.L (i+1)))=true
   ·rw[if_pos c3] at hr
    cases kz:Adz.escaped g.L g.pl Adz.replSpecial (i+1) with
    | ok q=>rw [kz] at hr;cases hr
    | error f'=>
     rw[kz] at hr;simp only[Adz.literal,Except.error.injEq] at hr;subst hr;have HE:Hid (Adz.escaped g.L g.pl Adz.replSpecial (i+1)=.error f'):=kz;clear kz
     have HD:Hid (Adz.peek g.L (i+1)=48∨(Adz.peek g.L (i+1)==48)=false∧Adz.isDigit (Adz.peek g.L (i+1))=false):=by
      by_cases c4:Adz.peek g.L (i+1)=48
      ·exact Or.inl c4
      ·exact Or.inr ⟨by simpa using c4,by simpa[c4] using c3⟩
     clear c3;go_enter Tryz.func196,Tryz.ntmps196;go_wp2_with fail;refine(ar g _ i (h.alloc _)).mono ?_;rintro e w1 ⟨rfl,n1,rfl⟩;go_wp2_with fail;refine(aH g _ i 38 ((h.alloc _).drewN _) c1).mono ?_;rintro e w1 ⟨rfl,n2,rfl⟩;go_wp2_with fail;refine(aC g _ i 92 ((h.alloc _).drewN _) c2 (by omega)).mono ?_;rintro e w2 ⟨rfl,hc,ho⟩;have q2:=ho.keeps (Jl _) hp.ne;have fP:ai w2 w.heap.size [.int .i64 0,.string ⟨#[]⟩,.int .i64 0]:=((ai.new w _ _).drewN (n1+n2)).keeps ho bW;have qH:ae (·=g.c) w w2:=((oa _).drewN (n1+n2)).trans ho (fun _ e=>e) (fun _ _ e=>e);have dM:w.heap.size<w2.heap.size:=by have:=ho.size;simp at this;omega
     go_wp2_with fail;refine(ah g w2 (i+1) hc).mono ?_;rintro e w1 ⟨rfl,n3,rfl⟩;have kz:=fun m=>iM g (w2.drewN m) (i+1) _ _ iG (hc.drewN m) f' HE.out;clear ho
     rcases HD.out with c4 |⟨b4,gA⟩
     all_goals first
      | (rw[c4]
         go_wp2_with fail)
      | (have Sz:Hid _:=gA
         clear gA;go_wp2_with fail;refine(aE _ _).mono ?_;rintro e w1 ⟨rfl,rfl⟩;rw[Sz.out];go_wp2_with fail)
     all_goals
      refine(kz _).mono ?_;rintro e w3 ⟨v,rfl,⟨fb,rfl,eW,hf⟩,o3⟩;go_wp2_with fail;refine(my w3 0 _ ⟨fb,rfl⟩).mono ?_;rintro e w4 ⟨rfl,o4⟩;have sJ:ae (fun _=>False) w2 w4:=(((ae.refl (fun _=>False) w2).drewN n3).trans o3 (fun _ e=>e) (fun _ _ e=>e)).trans o4 (fun _ e=>e) (fun _ _ e=>e);have hk:=fP.keeps sJ id;have k0:=hk 0 _ rfl;have k1:=hk 1 _ rfl;have k2:=hk 2 _ rfl;have DJ:w2.heap.size≤fb:=eW;have CT:=hf.keeps o4 id;clear hk o3 o4;go_wp2;have o5:=jy w4 w.heap.size (.int .i64 0) (.string ⟨#[]⟩) (.int .i64 0);refine bodyPost_ret (v:=.tuple #[.agg #[.int .i64 0,.string ⟨#[]⟩,.int .i64 0],.pointer (some ⟨fb,0,none⟩)]) (by simp[results,Tryz.results196,go_sem,k0,k1,k2]) rfl ⟨_,rfl,⟨fb,rfl,by omega,CT.keeps o5 (by omega)⟩,?_⟩;exact(qH.trans sJ (fun _ e=>e) (fun _ _ e=>e.elim)).trans o5 (fun _ e=>e) (fun b hb e=>by omega)
   ·rw[if_neg c3] at hr
    simp only[Bool.not_eq_true,Bool.or_eq_false_iff,Bool.not_eq_false'] at c3;obtain⟨b4,du⟩:=c3;by_cases c5:Adz.peek g.L (i+1) - 48>gr
    ·rw[if_pos c5] at hr
     simp only[Except.error.injEq] at hr;subst hr;have HD:Hid (Adz.isDigit (Adz.peek g.L (i+1))=true):=du;have eG:i+1<g.L.length:=Adz.lt_of_digit du;obtain⟨d0,d1⟩:=Adz.digit_range du;have Wb:gr<Adz.peek g.L (i+1) - 48:=c5;clear du c5;go_enter Tryz.func196,Tryz.ntmps196;go_wp2_with fail;refine(ar g _ i (h.alloc _)).mono ?_;rintro e w1 ⟨rfl,n1,rfl⟩;go_wp2_with fail;refine(aH g _ i 38 ((h.alloc _).drewN _) c1).mono ?_;rintro e w1 ⟨rfl,n2,rfl⟩;go_wp2_with fail;refine(aC g _ i 92 ((h.alloc _).drewN _) c2 (by omega)).mono ?_;rintro e w2 ⟨rfl,hc,ho⟩;have q2:=ho.keeps (Jl _) hp.ne;go_wp2_with fail;refine(ah g w2 (i+1) hc).mono ?_;rintro e w1 ⟨rfl,n3,rfl⟩;go_wp2_with fail;refine(aE _ _).mono ?_;rintro e w1 ⟨rfl,rfl⟩;rw[HD.out];go_wp2_with fail;refine(ax g _ (i+1) (hc.drewN _) eG).mono ?_;rintro e w4 ⟨rfl,eu,dg⟩;have sJ:ae (·=g.c) w2 w4:=((ae.refl (·=g.c) w2).drewN _).trans dg (fun _ e=>e) (fun _ _ e=>e);have hk:ai w4 w.heap.size [.int .i64 0,.string ⟨#[]⟩,.int .i64 0]:=(((ai.new w _ _).drewN (n1+n2)).keeps ho bW).keeps sJ bW;have aw:w.heap.size<w4.heap.size:=by have:=ho.size;have:=sJ.size;simp at*;omega
     have Ex:ae (·=g.c) w w4:=(((oa _).drewN (n1+n2)).trans ho (fun _ e=>e) (fun _ _ e=>e)).trans sJ (fun _ e=>e) (fun _ _ e=>e);go_wp2_with fail;refine(aV 8 _ _).mono ?_;rintro e w5 ⟨rfl,C4⟩;have vP:=hk.keeps ((ae.refl (fun _=>False) w4).alloc (.cells #[.int .i64 8,.int .i64 (Adz.place g.pl i)] 73)) id;have k0:=vP 0 _ rfl;have k1:=vP 1 _ rfl;have k2:=vP 2 _ rfl;have hf:=db.new w4 8 (Adz.place g.pl i);have tG:ae (·=g.c) w (w4.alloc (.cells #[.int .i64 8,.int .i64 (Adz.place g.pl i)] 73)):=Ex.alloc _;rw[←C4] at k0 k1 k2 hf tG;obtain⟨fb,eW⟩:∃fb,w4.heap.size=fb:=⟨_,rfl⟩;rw[eW] at hf ⊢;clear C4 hk vP ho dg sJ;go_wp2;have o5:=jy w5 w.heap.size (.int .i64 0) (.string ⟨#[]⟩) (.int .i64 0);refine bodyPost_ret (v:=.tuple #[.agg #[.int .i64 0,.string ⟨#[]⟩,.int .i64 0],.pointer (some ⟨fb,0,none⟩)]) (by simp[results,Tryz.results196,go_sem,k0,k1,k2]) rfl ⟨_,rfl,⟨fb,rfl,by omega,hf.keeps o5 (by omega)⟩,?_⟩;exact tG.trans o5 (fun _ e=>e) (fun b hb e=>by omega)
    ·rw[if_neg c5] at hr
     cases hr
  ·have b2:(Adz.peek g.L i !=92)=true:=by simpa[bne] using c2
   rw[b2] at hr;simp only[if_true] at hr
   cases kz:Adz.plain g.L g.pl Adz.replSpecial i with
   | ok q=>rw [kz] at hr;cases hr
   | error f'=>
    rw[kz] at hr;simp only[Adz.literal,Except.error.injEq] at hr;subst hr;have HE:Hid _:=kz;clear kz b2;go_enter Tryz.func196,Tryz.ntmps196;go_wp2_with fail;refine(ar g _ i (h.alloc _)).mono ?_;rintro e w1 ⟨rfl,n1,rfl⟩;go_wp2_with fail;refine(aH g _ i 38 ((h.alloc _).drewN _) c1).mono ?_;rintro e w1 ⟨rfl,n2,rfl⟩;go_wp2_with fail;refine(aH g _ i 92 ((h.alloc _).drewN _) c2).mono ?_;rintro e w1 ⟨rfl,n3,rfl⟩;go_wp2_with fail;refine(lR g _ i _ _ iG ((h.alloc _).drewN _) f' HE.out).mono ?_;rintro e w3 ⟨v,rfl,⟨fb,rfl,eW,hf⟩,o3⟩;go_wp2_with fail;refine(my w3 0 _ ⟨fb,rfl⟩).mono ?_;rintro e w4 ⟨rfl,o4⟩;have Iq:ae (fun _=>False) ((w.alloc (.cells #[.int .i64 0,.string ⟨#[]⟩,.int .i64 0] 240)).drewN (n1+n2+n3)) w4:=o3.trans o4 (fun _ e=>e) (fun _ _ e=>e);have hk:ai w4 w.heap.size [.int .i64 0,.string ⟨#[]⟩,.int .i64 0]:=((ai.new w _ _).drewN (n1+n2+n3)).keeps Iq id;have k0:=hk 0 _ rfl;have k1:=hk 1 _ rfl;have k2:=hk 2 _ rfl;have DJ:w.heap.size<fb:=by simp at eW;omega
    have CT:=hf.keeps o4 id;have Ex:ae (·=g.c) w w4:=((oa _).drewN (n1+n2+n3)).trans Iq (fun _ e=>e) (fun _ _ e=>e.elim);clear hk o3 o4 Iq;go_wp2;have o5:=jy w4 w.heap.size (.int .i64 0) (.string ⟨#[]⟩) (.int .i64 0);refine bodyPost_ret (v:=.tuple #[.agg #[.int .i64 0,.string ⟨#[]⟩,.int .i64 0],.pointer (some ⟨fb,0,none⟩)]) (by simp[results,Tryz.results196,go_sem,k0,k1,k2]) rfl ⟨_,rfl,⟨fb,rfl,by omega,CT.keeps o5 (by omega)⟩,?_⟩;exact Ex.trans o5 (fun _ e=>e) (fun b hb e=>by omega)
theorem ny (g:CG) (pp:Nat) (w:World) (i:Nat) (h:Cur g w i) (hp:Lead g pp w) (gr:Int) (f:Adz.Flt) (hr:Adz.replacement g.L g.pl gr (g.L.length+1) [] i=.error f):
 Calls Tryz.prog 175 #[.pointer (some ⟨pp,0,none⟩),.int .i64 gr] w fun e w'=>∃v,e=.returned (.tuple #[.slice none 0 0,v])∧ck w w' v f∧ae (·=g.c) w w':=by
 have HR:Hid (Adz.replacement g.L g.pl gr (g.L.length+1) [] i=.error f):=hr;clear hr;have eN:=h.le;have dy:=h.small;have cR:=h.lt;obtain⟨i0,dZ,fQ,eJ,eF⟩:=info_parts uP;go_enter Tryz.func175,Tryz.ntmps175;go_wp2_with fail
 go_loopg [6] (g.L.length - i) (fun k v wr=>∃j qs m ra rc,v=.slice ra qs.length rc∧Hid (Cur g wr j)∧Hid (Lead g pp wr)∧Hid (wr.ownsRow w.heap.size 240 3 (.slice ra qs.length rc) qs.length (qs.flatMap bB))∧j+k=g.L.length∧Hid (g.L.length<m+j∧qs.length≤j∧Adz.replacement g.L g.pl gr m qs j=.error f)∧Hid (ae (fun b=>b=g.c∨w.heap.size≤b) w wr))
 case atStart=>exact ⟨i,[],g.L.length+1,none,0,rfl,h,hp,World.ownsRow_nil _ _ _ _,by omega,⟨by omega,by simp,HR.out⟩,ae.refl _ _⟩
 case round=>
  obtain⟨j,qs,m,ra,rc,rfl,hc,hl,hw,hk,hI,hO⟩:=hrel;obtain⟨hm,jW,hit⟩:=hI.out;have aU:Cur g wr j:=hc;have fi:Lead g pp wr:=hl;have bQ:ae (fun b=>b=g.c∨w.heap.size≤b) w wr:=hO;have HK:Hid (j+gk=g.L.length):=hk;have q1:=fi.at0;clear hk hc hl hI hO
  cases m with
  | zero=>have:=aU.le;omega
  | succ m=>
   unfold Adz.replacement at hit;by_cases bK:Adz.peek g.L j=47
   ·simp[bK] at hit
   ·have fs:(Adz.peek g.L j==47)=false:=by simpa using bK
    rw[fs] at hit;simp only[Bool.false_eq_true,if_false] at hit
    cases jD:Adz.part g.L g.pl gr j with
    | error f'=>
     rw[jD] at hit;simp only[Except.error.injEq] at hit;subst hit;have HP:Hid _:=jD;clear jD fs;go_wp2_with fail;refine(aH g wr j 47 aU bK).mono ?_;rintro e w1 ⟨rfl,n1,rfl⟩;go_wp2_with fail;refine(Cm g pp _ j (aU.drewN n1) (fi.drewN n1) gr f' HP.out).mono ?_;rintro e w2 ⟨v,rfl,⟨fb,rfl,eW,hf⟩,aK⟩;have o2:ae (·=g.c) wr w2:=((ae.refl (·=g.c) wr).drewN n1).trans aK (fun _ e=>e) (fun _ _ e=>e);have DJ:wr.heap.size≤fb:=eW;have dr:=bQ.size;go_wp2;go_ret2;exact⟨_,rfl,⟨fb,rfl,by omega,hf.keeps ((ae.refl (fun _=>False) w2).alloc _) id⟩,((bQ.trans o2 (fun _ e=>e) (fun _ _ e=>Or.inl e):ae (fun b=>b=g.c∨w.heap.size≤b) w w2).mono (fun b hb e=>by rcases e with e | e;exact e;omega)).alloc _⟩
    | ok q=>
     obtain⟨p,j1⟩:=q;rw[jD] at hit;simp only at hit;have HP:Hid (Adz.part g.L g.pl gr j=.ok (p,j1)):=jD;have HT:Hid (Adz.replacement g.L g.pl gr m (qs++ [p]) j1=.error f):=hit;have aw:=Adz.part_lt jD;have mi:=aU.le;clear jD hit fs;go_wp2_with fail;refine(aH g wr j 47 aU bK).mono ?_;rintro e w1 ⟨rfl,n1,rfl⟩;go_wp2_with fail;refine(yw g pp _ j (aU.drewN n1) (fi.drewN n1) gr p j1 HP.out).mono ?_;rintro e w2 ⟨rfl,aL,aK⟩;have o2:ae (·=g.c) wr w2:=((ae.refl (·=g.c) wr).drewN n1).trans aK (fun _ e=>e) (fun _ _ e=>e);have eH:=ag (Hid.out hw) o2 (fun b hb e=>(aq.of_row (Hid.out hw) hb).ne aU.tc (by decide) e);have CU:=aL.le;have dr:w.heap.size≤w2.heap.size:=Nat.le_trans bQ.size o2.size
     have ur:∀o1 o2:Obj,((w2.alloc o1).alloc o2).heap[w2.heap.size+1]? =some o2:=fun o1 o2=>by
      have:=heap_alloc_new (w2.alloc o1) o2;simpa using this
     go_wp2_with (at_builtin;refine wpList_append_lies _ (by rfl) _ _ _ (by rfl) w.heap.size 240 i0 _ 3 32 Tryz.underlying161 dZ fQ eJ eF rfl (by omega) (.slice ra qs.length rc) qs.length (qs.flatMap bB) (by rfl) ((eH.alloc _).alloc _) ⟨w2.heap.size+1,0,none⟩ 1 1 [.int .i64 p.kind,.string ⟨p.text.toArray⟩,.int .i64 p.group] (by rfl) (by rfl) (World.news_of_block (cs:= #[.int .i64 p.kind,.string ⟨p.text.toArray⟩,.int .i64 p.group]) (t:=240) (fr:=(0,0)) (ur _ _)) (by simp[Value.oneCell']) (by omega) (by unfold maxLen;omega) (by omega) (by simp;omega) (w2.heap.size+2) (by simp) ?_;intro g1 cap w3 br aI bJ eG);go_roundg (g.L.length - j1)
     case measure=>have:=HK.out;omega
     case rel=>
      have o3:ae (fun b=>(Value.slice ra qs.length rc).ownBlock=some b) w2 w3:=((((ae.refl (fun b=>(Value.slice ra qs.length rc).ownBlock=some b) w2).alloc _).alloc _)).trans (ae.of_grown aI) (fun _ e=>e) (fun _ _ e=>e);refine⟨j1,qs++ [p],m,some ⟨g1,0,none⟩,cap,by simp,?_,?_,?_,by omega,⟨by omega,by simp;omega,HT.out⟩,?_⟩
      ·exact aL.keeps o3 (aG eH aL.tc (by decide)) (fun hn=>aG eH (aL.tr hn) (by decide)) (aG eH aL.tp (by decide))
      ·have fy:Lead g pp w2:=fi.moved o2
       exact fy.keeps o3 (aG eH fy.typ (by decide))
      ·have:(qs++ [p]).flatMap bB=qs.flatMap bB++ [.int .i64 p.kind,.string ⟨p.text.toArray⟩,.int .i64 p.group]:=by simp[bB]
       rw[this,List.length_append];exact br
      ·exact(bQ.trans o2 (fun _ e=>e) (fun _ _ e=>Or.inl e):ae (fun b=>b=g.c∨w.heap.size≤b) w w2).trans o3 (fun _ e=>e) (fun b hb e=>Or.inr (eH.lt b e).1)
end
end Go.Proofs.YtbiobhghnldckaaGreatDoor
