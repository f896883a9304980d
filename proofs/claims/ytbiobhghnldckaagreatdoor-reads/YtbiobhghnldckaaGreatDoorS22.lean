/- Proved: an address that is a number or '$' is read. Conditions: the cursor lies in memory as 'Cur' says, the parser leads to it, the command lies in a block of its own. -/
import Derived.Test.YtbiobhghnldckaaGreatDoorS12
namespace Go.Proofs.YtbiobhghnldckaaGreatDoor
set_option linter.unusedVariables false
set_option maxRecDepth 100000
set_option maxHeartbeats 6400000
section
open Go.RowKit
attribute [local go_sem ↓] Go.wp_at_zero Go.wp_at_succ
theorem eT (g:CG) (pp:Nat) (w:World) (i:Nat) (h:Cur g w i) (hp:Lead g pp w) (hr:Adz.isDigit (Adz.peek g.L i)=true∨Adz.peek g.L i=36):
 Calls Tryz.prog 142 #[.pointer (some ⟨pp,0,none⟩)] w fun e w'=>e=.returned (.bool true)∧∃n,w'=w.drewN n:=by
 have q0:=hp.at0
 rcases hr with hd | hd
 ·have HD:Hid (Adz.isDigit (Adz.peek g.L i)=true):=hd
  clear hd;go_enter Tryz.func142,Tryz.ntmps142;go_wp2_with fail;refine(ah g w i h).mono ?_;rintro e w1 ⟨rfl,n,rfl⟩;go_wp2_with fail;refine(aE _ _).mono ?_;rintro e w1 ⟨rfl,rfl⟩;rw[HD.out];go_wp2;go_ret;exact⟨rfl,n,rfl⟩
 ·have HD:Hid (Adz.isDigit (36:Int)=false):=(show Adz.isDigit (36:Int)=false by decide)
  have cP:=ah g w i h;rw[hd] at cP;clear hd;go_enter Tryz.func142,Tryz.ntmps142;go_wp2_with fail;refine cP.mono ?_;rintro e w1 ⟨rfl,n,rfl⟩;go_wp2_with fail;refine(aE _ _).mono ?_;rintro e w1 ⟨rfl,rfl⟩;rw[HD.out];go_wp2;go_ret;exact⟨rfl,n,rfl⟩
theorem pB:(Tryz.prog.info? 186).map (fun i=>(i.zero,i.size,i.bytes))=some (some (.agg #[.int .i64 0,.int .i64 0,.slice none 0 0,.int .i64 0]),4,48):=by kernel_rfl
structure HeadAt (w:World) (cb B:Nat) (cg:List Adz.Ad):Prop where
 typ:aq w cb 167
 cells:∃av jw,ai w cb (aA {addrs:=cg} av (.slice none 0 0) (.slice none 0 0) (.slice none 0 0) (.slice none 0 0))∧w.ownsRow B 186 4 av cg.length (cA cg jw)∧cF w cg jw
theorem HeadAt.keeps {S:Nat→Prop}{w w':World}{cb B:Nat}{cg:List Adz.Ad} (h:HeadAt w cb B cg) (o:ae S w w') (s:Spares w S) (hs:¬S cb):HeadAt w' cb B cg:=by
 obtain⟨av,jw,h1,h2,h3⟩:=h.cells;exact⟨h.typ.keeps o hs,av,jw,h1.keeps o hs,ag h2 o (fun b hb=>s.addr b (aq.of_row h2 hb)),h3.keeps o s.item s.span⟩
theorem gd {w:World} (x:Adz.Ad) (v:Value):∀ {xs:List Adz.Ad}{vs:List Value},cF w xs vs→cA (xs++ [x]) (vs++ [v])=cA xs vs++nI x v
 | [],[],_=>by simp[cA]
 | y::xs,u::vs,h=>by
  have:=gd x v h.2;simp[cA,this]
 | [],_::_,h=>h.elim
 | _::_,[],h=>h.elim
theorem cF.snoc {w:World}{x:Adz.Ad}{v:Value} (hx:bN w v x.pat.items):∀ {xs:List Adz.Ad}{vs:List Value},cF w xs vs→cF w (xs++ [x]) (vs++ [v])
 | [],[],_=>⟨hx,trivial⟩
 | y::xs,u::vs,h=>⟨h.1,cF.snoc hx h.2⟩
 | [],_::_,h=>h.elim
 | _::_,[],h=>h.elim
theorem HeadAt.more {w w':World}{cb B:Nat}{cg:List Adz.Ad} (ht:aq w cb 167) {av:Value}{jw:List Value} (k:ai w cb (aA {addrs:=cg} av (.slice none 0 0) (.slice none 0 0) (.slice none 0 0) (.slice none 0 0))) (cD:w.ownsRow B 186 4 av cg.length (cA cg jw)) (hit:cF w cg jw) (x:Adz.Ad) (hx:x.pat.items= []) {v':Value}
 (q1:w'.cell? ⟨cb,1,none⟩=some v') (q2:w'.ownsRow B 186 4 v' (cg.length+1) (cA cg jw++nI x (.slice none 0 0))) (q3:ae (fun b=>b=cb∨av.ownBlock=some b) w w') (q4:Field cb 1 w w'):HeadAt w' cb B (cg++ [x]):=by
 have n:∀ {b:Nat} {T:TypeId},aq w b T→T≠167→T≠186→¬(b=cb∨av.ownBlock=some b):=fun hb n1 n2 e=>by
  rcases e with e | e
  ·subst e;exact n1 (hb.one ht)
  ·exact n2 (hb.one (aq.of_row cD e))
 refine⟨q4.typ _ ht,v',jw++ [.slice none 0 0],fun j v hv=> ?_,by rw[gd x _ hit,List.length_append];exact q2,cF.snoc (by rw[hx];exact⟨[],World.ownsRow_nil _ _ _ _,trivial⟩) (hit.keeps q3 (fun b hb=>n hb (by decide) (by decide)) (fun b hb=>n hb (by decide) (by decide)))⟩;by_cases e:j=1
 ·subst e
  have:v=v':=by simpa[aA] using hv.symm
  subst this;exact⟨q1,(q4.frozen 1).trans (k 1 _ rfl).2⟩
 ·have uN:(aA {addrs:=cg} av (.slice none 0 0) (.slice none 0 0) (.slice none 0 0) (.slice none 0 0))[j]? =some v:=by
   match j,e,hv with
   | 0,_,hv=>exact hv
   | j+2,_,hv=>exact hv
  exact⟨(q4.others j e).trans (k j v uN).1,(q4.frozen j).trans (k j v uN).2⟩
theorem rH (g:CG) (pp cb B:Nat) (w:World) (i:Nat) (h:Cur g w i) (hp:Lead g pp w) (cg:List Adz.Ad) (hc:HeadAt w cb B cg) (hB:B≤cb) (xW:cg.length≤1) (cP:Adz.peek g.L i=36):
 Calls Tryz.prog 169 #[.pointer (some ⟨pp,0,none⟩),.pointer (some ⟨cb,0,none⟩)] w fun e w'=>e=.returned (.pointer none)∧HeadAt w' cb B (cg++ [⟨1,0,⟨[],0⟩⟩])∧Cur g w' (Adz.blanks g.L (i+1))∧ae (fun b=>b=g.c∨B≤b) w w':=by
 have q0:=hp.at0;have bM:cb≠g.c:=hc.typ.ne h.tc (by decide);have gH:pp≠cb:=hp.typ.ne hc.typ (by decide);have cR:=hc.typ.lt;obtain⟨i0,dZ,fQ,eJ,eF⟩:=info_parts pB;have c1:=eT g pp w i h hp (Or.inr cP);go_enter Tryz.func169,Tryz.ntmps169;go_wp2_with fail;refine c1.mono ?_;rintro e w1 ⟨rfl,n1,da⟩;have o1:ae (·=g.c) w w1:=by rw[da];exact(ae.refl _ w).drewN n1
 have h1:Cur g w1 i:=by rw[da];exact h.drewN n1
 have l1:=hp.moved o1;have m1:=hc.keeps o1 h.spares bM;clear da c1;have q1:=l1.at0;have MK:=l1.lt;go_wp2_with fail;have oa:ae (fun _=>False) w1 (w1.alloc (.cells #[.int .i64 0,.int .i64 0,.slice none 0 0,.int .i64 0] 186)):=(ae.refl _ w1).alloc _;have ka:=ai.new w1 #[.int .i64 0,.int .i64 0,.slice none 0 0,.int .i64 0] 186;have ta:=aq.new w1 #[.int .i64 0,.int .i64 0,.slice none 0 0,.int .i64 0] 186 (0,0);refine(aC g _ i 36 (h1.alloc _) cP (by omega)).mono ?_;rintro e w2 ⟨rfl,aL,aK⟩;have nu:w1.heap.size≠g.c:=by have:=h1.lt;omega
 have k2:=ka.keeps aK nu;have t2:=ta.keeps aK nu;have yt:ae (·=g.c) w1 w2:=oa.trans aK (fun _ e=>e.elim) (fun _ _ e=>e);have OD:w1.heap.size<w2.heap.size:=t2.lt;have l2:=l1.moved yt;have m2:=m1.keeps yt h1.spares bM;have Kx:cb<w1.heap.size:=m1.typ.lt;have oS:=af w2 w1.heap.size 0 (.int .i64 1);have k3:=k2.set 0 (.int .i64 1);have j0:=(k2 0 _ rfl).1;have f0:=(k2 0 _ rfl).2;have W4:¬cb=w1.heap.size:=by omega
 have tF:ae (·=g.c) w1 (w2.setCell ⟨w1.heap.size,0,none⟩ (.int .i64 1)):=(yt.trans oS (fun _ e=>Or.inl e) (fun _ _ e=>Or.inr e):ae (fun b=>b=g.c∨b=w1.heap.size) w1 _).mono (fun b hb e=>by rcases e with e | e;exact e;omega);have m3:=m1.keeps tF h1.spares bM;have dJ:Cur g (w2.setCell ⟨w1.heap.size,0,none⟩ (.int .i64 1)) (i+1):=aL.keeps oS nu.symm (fun hn=>(aL.tr hn).ne t2 (by decide)) (aL.tp.ne t2 (by decide));have l3:=l1.moved tF;have Ho:(w2.setCell ⟨w1.heap.size,0,none⟩ (.int .i64 1)).heap.size=w2.heap.size:=by simp[World.setCell]
 have xD:Hid _:=k3;have E4:Hid _:=m3;have xC:Hid _:=dJ;have E3:Hid _:=l3;have JC:Hid _:=tF;clear k3 m3 dJ l3 tF oS m2 l2 yt aK oa ka ta aL k2;go_wp2_with fail;have zg:w1.heap.size≠cb:=by omega
 have E7:Hid (aq (w2.setCell ⟨w1.heap.size,0,none⟩ (.int .i64 1)) w1.heap.size 186):=t2.set;generalize w2.setCell ⟨w1.heap.size,0,none⟩ (.int .i64 1)=u at*
 clear j0 f0 Ho;obtain⟨av,jw,mx,cD,hit⟩:=E4.out.cells;obtain⟨aa,ac,rfl⟩:=ak cD;have x0:=(xD.out 0 _ rfl).1;have x1:=(xD.out 1 _ rfl).1;have x2:=(xD.out 2 _ rfl).1;have x3:=(xD.out 3 _ rfl).1;have y1:=(mx 1 _ rfl).1;have y2:=(mx 1 _ rfl).2;have yg:=E4.out.typ;have lr:cb<u.heap.size:=yg.lt;have aJ:(Value.slice aa cg.length ac).ownBlock≠some cb:=aG cD yg (by decide);have p7:∀o:Obj,(u.alloc o).cell? ⟨cb,1,none⟩=some (.slice aa cg.length ac):=fun o=>by rw[World.cell?_alloc_past _ _ _ lr];exact y1
 have p6:∀o:Obj,(u.alloc o).frozen? ⟨cb,1,none⟩=false:=fun o=>by rw[World.frozen?_alloc_past _ _ _ lr];exact y2
 have Jy:Hid _:=mx;have Jv:Hid _:=hit;clear mx hit
 go_region_law
  ((refine step_append_lies _ (by rfl) _ _ _ (by rfl) B 186 i0 _ 4 48 Tryz.underlying157 dZ fQ eJ eF rfl (by omega) (.slice aa cg.length ac) cg.length (cA cg jw) (by rfl) ((cD.alloc _).drew)
     ⟨u.heap.size,0,none⟩ 1 1 [.int .i64 1,.int .i64 0,.slice none 0 0,.int .i64 0] (by rfl) (by rfl) (World.news_of_block (cs:= #[.int .i64 1,.int .i64 0,.slice none 0 0,.int .i64 0]) (t:=186) (fr:=(0,0)) (heap_alloc_new u _)) (by simp[Value.oneCell'])
     (by omega) (by unfold maxLen;omega) (by omega) (by simp;omega) (u.heap.size+1) (by simp) ?_;intro g1 cap w6 br aI bJ eG;have kc:=(aI.cell_far ⟨cb,1,none⟩ (by simp;omega) (Ne.symm aJ)).trans (p7 _);have kf:=(aI.frozen_far ⟨cb,1,none⟩ (by simp;omega) (Ne.symm aJ)).trans (p6 _)))
 all_goals
  have hv:(Value.slice (some ⟨g1,0,none⟩) (cg.length+1) cap).ownBlock≠some cb:=by
   rcases bJ with h | h
   ·intro e
    simp[Value.ownBlock] at e;exact aJ (by rw[h,e])
   ·intro e
    simp[Value.ownBlock] at e;omega
  obtain⟨u1,u2,u3,u4⟩:=bg (((ae.refl _ u).alloc _).drew) aI kc br hv lr aJ;have h6:=HeadAt.more yg Jy.out cD Jv.out ⟨1,0,⟨[],0⟩⟩ rfl u1 u2 u3 u4
  have n6:∀ {b:Nat} {T:TypeId},aq u b T→T≠167→T≠186→¬(b=cb∨(Value.slice aa cg.length ac).ownBlock=some b):=fun hb n1 n2 e=>by
   rcases e with e | e
   ·subst e;exact n1 (hb.one yg)
   ·exact n2 (hb.one (aq.of_row cD e))
  have p8:=xC.out.keeps u3 (n6 xC.out.tc (by decide) (by decide)) (fun hn=>n6 (xC.out.tr hn) (by decide) (by decide)) (n6 xC.out.tp (by decide) (by decide));have l6:=E3.out.keeps u3 (n6 E3.out.typ (by decide) (by decide));have q6:=l6.at0
  have JD:Hid (ae (fun b=>b=g.c∨B≤b) w (w6.setCell ⟨cb,1,none⟩ (.slice (some ⟨g1,0,none⟩) (cg.length+1) cap))):=((o1.trans JC.out (fun _ e=>e) (fun _ _ e=>e):ae (·=g.c) w u).trans u3 (fun _ e=>Or.inl e) (fun b hb e=>by
   rcases e with e | e
   ·exact Or.inr (by omega)
   ·exact Or.inr (cD.lt b e).1))
  have H6:Hid _:=h6;clear h6 u1 u2 u3 u4 kc kf;generalize w6.setCell ⟨cb,1,none⟩ (.slice (some ⟨g1,0,none⟩) (cg.length+1) cap)=w7 at*
  go_wp2_with fail;refine(bO g w7 (i+1) p8).mono ?_;rintro e w8 ⟨rfl,GM,zx⟩;go_wp2;go_ret;exact⟨rfl,H6.out.keeps zx p8.spares bM,GM,JD.out.trans zx (fun _ e=>e) (fun _ _ e=>Or.inl e)⟩
theorem tP (g:CG) (pp cb B:Nat) (w:World) (i:Nat) (h:Cur g w i) (hp:Lead g pp w) (cg:List Adz.Ad) (hc:HeadAt w cb B cg) (hB:B≤cb) (xW:cg.length≤1) (du:Adz.isDigit (Adz.peek g.L i)=true) (n:Int) (i1:Nat) (hr:Adz.number g.L g.pl i=.ok (n,i1)):
 Calls Tryz.prog 169 #[.pointer (some ⟨pp,0,none⟩),.pointer (some ⟨cb,0,none⟩)] w fun e w'=>e=.returned (.pointer none)∧HeadAt w' cb B (cg++ [⟨0,n,⟨[],0⟩⟩])∧Cur g w' (Adz.blanks g.L i1)∧ae (fun b=>b=g.c∨B≤b) w w':=by
 have q0:=hp.at0;have bM:cb≠g.c:=hc.typ.ne h.tc (by decide);have gH:pp≠cb:=hp.typ.ne hc.typ (by decide);have cR:=hc.typ.lt;have uG:Adz.peek g.L i≠36:=fun e=>by rw[e] at du;exact absurd du (by decide)
 have pj:Adz.peek g.L i≠47:=fun e=>by rw[e] at du;exact absurd du (by decide)
 obtain⟨i0,dZ,fQ,eJ,eF⟩:=info_parts pB;have c1:=eT g pp w i h hp (Or.inl du);have HR:Hid _:=hr;clear hr du;go_enter Tryz.func169,Tryz.ntmps169;go_wp2_with fail;refine c1.mono ?_;rintro e w1 ⟨rfl,n1,da⟩;have o1:ae (·=g.c) w w1:=by rw[da];exact(ae.refl _ w).drewN n1
 have h1:Cur g w1 i:=by rw[da];exact h.drewN n1
 have l1:=hp.moved o1;have m1:=hc.keeps o1 h.spares bM;clear da c1;have q1:=l1.at0;have MK:=l1.lt;go_wp2_with fail;have oa:ae (fun _=>False) w1 (w1.alloc (.cells #[.int .i64 0,.int .i64 0,.slice none 0 0,.int .i64 0] 186)):=(ae.refl _ w1).alloc _;have ka:=ai.new w1 #[.int .i64 0,.int .i64 0,.slice none 0 0,.int .i64 0] 186;have ta:=aq.new w1 #[.int .i64 0,.int .i64 0,.slice none 0 0,.int .i64 0] 186 (0,0);have nu:w1.heap.size≠g.c:=by have:=h1.lt;omega
 have Kx:cb<w1.heap.size:=m1.typ.lt;have ek:=h1.alloc (.cells #[.int .i64 0,.int .i64 0,.slice none 0 0,.int .i64 0] 186);have vR:=l1.alloc (.cells #[.int .i64 0,.int .i64 0,.slice none 0 0,.int .i64 0] 186);generalize w1.alloc (.cells #[.int .i64 0,.int .i64 0,.slice none 0 0,.int .i64 0] 186)=wa at*
 refine(aH g wa i 36 ek uG).mono ?_;rintro e w2 ⟨rfl,n2,rfl⟩;have q2:=vR.at0;go_wp2_with fail;refine(aH g _ i 47 (ek.drewN n2) pj).mono ?_;rintro e w2 ⟨rfl,n3,eH⟩;have o2:ae (fun _=>False) w1 w2:=by rw[eH];exact(oa.drewN _).drewN _
 have k2:ai w2 w1.heap.size [.int .i64 0,.int .i64 0,.slice none 0 0,.int .i64 0]:=by rw[eH];exact(ka.drewN _).drewN _
 have t2:aq w2 w1.heap.size 186:=by rw[eH];exact(ta.drewN _).drewN _
 have h2:Cur g w2 i:=by rw[eH];exact(ek.drewN _).drewN _
 have l2:Lead g pp w2:=by rw[eH];exact(vR.drewN _).drewN _
 clear eH oa ka ta ek vR q2;have j0:=(k2 0 _ rfl).1;have f0:=(k2 0 _ rfl).2;have oS:=af w2 w1.heap.size 0 (.int .i64 0);have k3:=k2.set 0 (.int .i64 0);have h3:Cur g (w2.setCell ⟨w1.heap.size,0,none⟩ (.int .i64 0)) i:=h2.keeps oS nu.symm (fun hn=>(h2.tr hn).ne t2 (by decide)) (h2.tp.ne t2 (by decide));have l3:Lead g pp (w2.setCell ⟨w1.heap.size,0,none⟩ (.int .i64 0)):=l2.keeps oS (by omega);have t3:aq (w2.setCell ⟨w1.heap.size,0,none⟩ (.int .i64 0)) w1.heap.size 186:=t2.set;have o3:ae (·=w1.heap.size) w1 (w2.setCell ⟨w1.heap.size,0,none⟩ (.int .i64 0)):=o2.trans oS (fun _ e=>e.elim) (fun _ _ e=>e);go_wp2_with fail;generalize w2.setCell ⟨w1.heap.size,0,none⟩ (.int .i64 0)=w3 at*
 refine(lN g pp w3 i h3 l3 n i1 HR.out).mono ?_;rintro e w4 ⟨rfl,h4,o4⟩;have k4:=k3.keeps o4 nu;have t4:=t3.keeps o4 nu;have j1:=(k4 1 _ rfl).1;have f1:=(k4 1 _ rfl).2;have vS:=af w4 w1.heap.size 1 (.int .i64 n);have k5:=k4.set 1 (.int .i64 n);have jO:Cur g (w4.setCell ⟨w1.heap.size,1,none⟩ (.int .i64 n)) i1:=h4.keeps vS nu.symm (fun hn=>(h4.tr hn).ne t4 (by decide)) (h4.tp.ne t4 (by decide));have xi:ae (·=g.c) w1 (w4.setCell ⟨w1.heap.size,1,none⟩ (.int .i64 n)):=((o3.trans o4 (fun _ e=>Or.inr e) (fun _ _ e=>Or.inl e):ae (fun b=>b=g.c∨b=w1.heap.size) w1 w4).trans vS (fun _ e=>e) (fun _ _ e=>Or.inr e)).mono (fun b hb e=>by rcases e with e | e;exact e;omega);have m5:=m1.keeps xi h1.spares bM;have l5:=l1.moved xi;have xD:Hid _:=k5;have E4:Hid _:=m5;have xC:Hid _:=jO;have E3:Hid _:=l5;have JC:Hid _:=xi;clear k5 m5 jO l5 xi vS k4 h4 o4 k3 h3 l3 t3 o3 oS k2 t2 h2 l2 o2 j0 f0;go_wp2_with fail;have zg:w1.heap.size≠cb:=by omega
 have E7:Hid (aq (w4.setCell ⟨w1.heap.size,1,none⟩ (.int .i64 n)) w1.heap.size 186):=t4.set;generalize w4.setCell ⟨w1.heap.size,1,none⟩ (.int .i64 n)=u at*
 clear j1 f1 t4;obtain⟨av,jw,mx,cD,hit⟩:=E4.out.cells;obtain⟨aa,ac,rfl⟩:=ak cD;have x0:=(xD.out 0 _ rfl).1;have x1:=(xD.out 1 _ rfl).1;have x2:=(xD.out 2 _ rfl).1;have x3:=(xD.out 3 _ rfl).1;have y1:=(mx 1 _ rfl).1;have y2:=(mx 1 _ rfl).2;have yg:=E4.out.typ;have lr:cb<u.heap.size:=yg.lt;have aJ:(Value.slice aa cg.length ac).ownBlock≠some cb:=aG cD yg (by decide);have p7:∀o:Obj,(u.alloc o).cell? ⟨cb,1,none⟩=some (.slice aa cg.length ac):=fun o=>by rw[World.cell?_alloc_past _ _ _ lr];exact y1
 have p6:∀o:Obj,(u.alloc o).frozen? ⟨cb,1,none⟩=false:=fun o=>by rw[World.frozen?_alloc_past _ _ _ lr];exact y2
 have Jy:Hid _:=mx;have Jv:Hid _:=hit;clear mx hit
 go_region_law
  ((refine step_append_lies _ (by rfl) _ _ _ (by rfl) B 186 i0 _ 4 48 Tryz.underlying157 dZ fQ eJ eF rfl (by omega) (.slice aa cg.length ac) cg.length (cA cg jw) (by rfl) ((cD.alloc _).drew)
     ⟨u.heap.size,0,none⟩ 1 1 [.int .i64 0,.int .i64 n,.slice none 0 0,.int .i64 0] (by rfl) (by rfl) (World.news_of_block (cs:= #[.int .i64 0,.int .i64 n,.slice none 0 0,.int .i64 0]) (t:=186) (fr:=(0,0)) (heap_alloc_new u _)) (by simp[Value.oneCell'])
     (by omega) (by unfold maxLen;omega) (by omega) (by simp;omega) (u.heap.size+1) (by simp) ?_;intro g1 cap w6 br aI bJ eG;have kc:=(aI.cell_far ⟨cb,1,none⟩ (by simp;omega) (Ne.symm aJ)).trans (p7 _);have kf:=(aI.frozen_far ⟨cb,1,none⟩ (by simp;omega) (Ne.symm aJ)).trans (p6 _)))
 all_goals
  have hv:(Value.slice (some ⟨g1,0,none⟩) (cg.length+1) cap).ownBlock≠some cb:=by
   rcases bJ with h | h
   ·intro e
    simp[Value.ownBlock] at e;exact aJ (by rw[h,e])
   ·intro e
    simp[Value.ownBlock] at e;omega
  obtain⟨u1,u2,u3,u4⟩:=bg (((ae.refl _ u).alloc _).drew) aI kc br hv lr aJ;have h6:=HeadAt.more yg Jy.out cD Jv.out ⟨0,n,⟨[],0⟩⟩ rfl u1 u2 u3 u4
  have n6:∀ {b:Nat} {T:TypeId},aq u b T→T≠167→T≠186→¬(b=cb∨(Value.slice aa cg.length ac).ownBlock=some b):=fun hb n1 n2 e=>by
   rcases e with e | e
   ·subst e;exact n1 (hb.one yg)
   ·exact n2 (hb.one (aq.of_row cD e))
  have p8:=xC.out.keeps u3 (n6 xC.out.tc (by decide) (by decide)) (fun hn=>n6 (xC.out.tr hn) (by decide) (by decide)) (n6 xC.out.tp (by decide) (by decide));have l6:=E3.out.keeps u3 (n6 E3.out.typ (by decide) (by decide));have q6:=l6.at0
  have JD:Hid (ae (fun b=>b=g.c∨B≤b) w (w6.setCell ⟨cb,1,none⟩ (.slice (some ⟨g1,0,none⟩) (cg.length+1) cap))):=((o1.trans JC.out (fun _ e=>e) (fun _ _ e=>e):ae (·=g.c) w u).trans u3 (fun _ e=>Or.inl e) (fun b hb e=>by
   rcases e with e | e
   ·exact Or.inr (by omega)
   ·exact Or.inr (cD.lt b e).1))
  have H6:Hid _:=h6;clear h6 u1 u2 u3 u4 kc kf;generalize w6.setCell ⟨cb,1,none⟩ (.slice (some ⟨g1,0,none⟩) (cg.length+1) cap)=w7 at*
  go_wp2_with fail;refine(bO g w7 i1 p8).mono ?_;rintro e w8 ⟨rfl,GM,zx⟩;go_wp2;go_ret;exact⟨rfl,H6.out.keeps zx p8.spares bM,GM,JD.out.trans zx (fun _ e=>e) (fun _ _ e=>Or.inl e)⟩
def lf (g:CG) (pp i:Nat) (a:Adz.Ad) (i':Nat):Prop:=∀(w:World) (cb B:Nat) (cg:List Adz.Ad),Cur g w i→Lead g pp w→HeadAt w cb B cg→B≤cb→cg.length≤1→
 Calls Tryz.prog 169 #[.pointer (some ⟨pp,0,none⟩),.pointer (some ⟨cb,0,none⟩)] w fun e w'=>e=.returned (.pointer none)∧HeadAt w' cb B (cg++ [a])∧Cur g w' i'∧ae (fun b=>b=g.c∨B≤b) w w'
theorem tO (g:CG) (pp i:Nat) (h:Adz.peek g.L i=36):lf g pp i ⟨1,0,⟨[],0⟩⟩ (Adz.blanks g.L (i+1)):=fun w cb B cg h1 h2 h3 h4 h5=>
 rH g pp cb B w i h1 h2 cg h3 h4 h5 h
theorem vX (g:CG) (pp i:Nat) (h:Adz.isDigit (Adz.peek g.L i)=true) (n:Int) (i1:Nat) (hr:Adz.number g.L g.pl i=.ok (n,i1)):lf g pp i ⟨0,n,⟨[],0⟩⟩ (Adz.blanks g.L i1):=fun w cb B cg h1 h2 h3 h4 h5=>
 tP g pp cb B w i h1 h2 cg h3 h4 h5 h n i1 hr
theorem tT (g:CG) (pp i:Nat) (a:Adz.Ad) (i1:Nat) (hA:lf g pp i a i1) (hn:Adz.peek g.L i1≠44):∀(w:World) (cb B:Nat),Cur g w i→Lead g pp w→HeadAt w cb B []→B≤cb→pp<B→
 Calls Tryz.prog 143 #[.pointer (some ⟨pp,0,none⟩),.pointer (some ⟨cb,0,none⟩)] w fun e w'=>e=.returned (.pointer none)∧HeadAt w' cb B [a]∧Cur g w' i1∧ae (fun b=>b=g.c∨B≤b) w w':=fun w cb B h hp hc hB RG=>by
 have c1:=hA w cb B [] h hp hc hB (by simp);go_enter Tryz.func143,Tryz.ntmps143;go_wp2_with fail;refine c1.mono ?_;rintro e w1 ⟨rfl,m1,h1,o1⟩;have l1:=hp.keeps o1 (by rintro(e | e);exact hp.ne e;omega);have q1:=l1.at0;go_wp2_with fail;refine(aH g w1 i1 44 h1 hn).mono ?_;rintro e w2 ⟨rfl,n2,rfl⟩;go_wp2;go_ret;have o2:ae (·=g.c) w1 (w1.drewN n2):=(ae.refl _ w1).drewN n2;exact⟨rfl,m1.keeps o2 h1.spares (hc.typ.ne h.tc (by decide)),h1.drewN n2,o1.drewN n2⟩
theorem tU (g:CG) (pp i:Nat) (a b:Adz.Ad) (i1 i2:Nat) (hA:lf g pp i a i1) (hn:Adz.peek g.L i1=44) (J9:lf g pp (Adz.blanks g.L (i1+1)) b i2):∀(w:World) (cb B:Nat),Cur g w i→Lead g pp w→HeadAt w cb B []→B≤cb→pp<B→
 Calls Tryz.prog 143 #[.pointer (some ⟨pp,0,none⟩),.pointer (some ⟨cb,0,none⟩)] w fun e w'=>e=.returned (.pointer none)∧HeadAt w' cb B [a,b]∧Cur g w' i2∧ae (fun b=>b=g.c∨B≤b) w w':=fun w cb B h hp hc hB RG=>by
 have c1:=hA w cb B [] h hp hc hB (by simp);have bM:cb≠g.c:=hc.typ.ne h.tc (by decide);go_enter Tryz.func143,Tryz.ntmps143;go_wp2_with fail;refine c1.mono ?_;rintro e w1 ⟨rfl,m1,h1,o1⟩;have l1:=hp.keeps o1 (by rintro(e | e);exact hp.ne e;omega);have q1:=l1.at0;go_wp2_with fail;refine(aC g w1 i1 44 h1 hn (by omega)).mono ?_;rintro e w2 ⟨rfl,h2,o2⟩;have l2:=l1.moved o2;have m2:=m1.keeps o2 h1.spares bM;have q2:=l2.at0;go_wp2_with fail;refine(bO g w2 (i1+1) h2).mono ?_;rintro e w3 ⟨rfl,h3,o3⟩;have l3:=l2.moved o3;have m3:=m2.keeps o3 h2.spares bM;go_wp2_with fail;refine(J9 w3 cb B [a] h3 l3 m3 hB (by simp)).mono ?_;rintro e w4 ⟨rfl,m4,h4,o4⟩;go_wp2;go_ret;exact⟨rfl,m4,h4,((o1.trans o2 (fun _ e=>e) (fun _ _ e=>Or.inl e)).trans o3 (fun _ e=>e) (fun _ _ e=>Or.inl e)).trans o4 (fun _ e=>e) (fun _ _ e=>e)⟩
def rE (g:CG) (pp i:Nat) (cg:List Adz.Ad) (i':Nat):Prop:=∀(w:World) (cb B:Nat),Cur g w i→Lead g pp w→HeadAt w cb B []→B≤cb→pp<B→
 Calls Tryz.prog 143 #[.pointer (some ⟨pp,0,none⟩),.pointer (some ⟨cb,0,none⟩)] w fun e w'=>e=.returned (.pointer none)∧HeadAt w' cb B cg∧Cur g w' i'∧ae (fun b=>b=g.c∨B≤b) w w'
theorem HeadAt.deep {w:World}{B:Nat}{cg:List Adz.Ad}{av:Value}{jw:List Value} (h2:w.ownsRow B 186 4 av cg.length (cA cg jw)) (h3:cF w cg jw) (neg:Bool):Deep w {addrs:=cg,neg:=neg} av (.slice none 0 0) (.slice none 0 0) (.slice none 0 0) (.slice none 0 0):=
 ⟨⟨jw,jf h2 (Nat.zero_le _),h3⟩,⟨[],World.ownsRow_nil _ _ _ _,trivial⟩,World.ownsRow_nil _ _ _ _,World.ownsRow_nil _ _ _ _,World.ownsRow_nil _ _ _ _⟩
theorem km (g:CG) (pp:Nat) (w:World) (i:Nat) (h:Cur g w i) (hp:Lead g pp w) (hd:Adz.peek g.L i=47):
 Calls Tryz.prog 142 #[.pointer (some ⟨pp,0,none⟩)] w fun e w'=>e=.returned (.bool true)∧∃n,w'=w.drewN n:=by
 have q0:=hp.at0;have HD:Hid (Adz.isDigit (47:Int)=false):=(show Adz.isDigit (47:Int)=false by decide);have cP:=ah g w i h;rw[hd] at cP;clear hd;go_enter Tryz.func142,Tryz.ntmps142;go_wp2_with fail;refine cP.mono ?_;rintro e w1 ⟨rfl,n,rfl⟩;go_wp2_with fail;refine(aE _ _).mono ?_;rintro e w1 ⟨rfl,rfl⟩;rw[HD.out];go_wp2;go_ret;exact⟨rfl,n,rfl⟩
theorem eS (g:CG) (pp:Nat) (w:World) (i:Nat) (h:Cur g w i) (hp:Lead g pp w) (hr:Adz.atAddress g.L i=true):
 Calls Tryz.prog 142 #[.pointer (some ⟨pp,0,none⟩)] w fun e w'=>e=.returned (.bool true)∧∃n,w'=w.drewN n:=by
 unfold Adz.atAddress at hr;simp only[Bool.or_eq_true,beq_iff_eq] at hr
 rcases hr with (hr | hr) | hr
 ·exact eT g pp w i h hp (Or.inl hr)
 ·exact eT g pp w i h hp (Or.inr hr)
 ·exact km g pp w i h hp hr
theorem HeadAt.moreP {w w':World}{cb B:Nat}{cg:List Adz.Ad} (ht:aq w cb 167) {av:Value}{jw:List Value} (k:ai w cb (aA {addrs:=cg} av (.slice none 0 0) (.slice none 0 0) (.slice none 0 0) (.slice none 0 0))) (cD:w.ownsRow B 186 4 av cg.length (cA cg jw)) (hit:cF w cg jw) (x:Adz.Ad) (iv:Value) (hx:bN w iv x.pat.items) {v':Value}
 (q1:w'.cell? ⟨cb,1,none⟩=some v') (q2:w'.ownsRow B 186 4 v' (cg.length+1) (cA cg jw++nI x iv)) (q3:ae (fun b=>b=cb∨av.ownBlock=some b) w w') (q4:Field cb 1 w w'):HeadAt w' cb B (cg++ [x]):=by
 have n:∀ {b:Nat} {T:TypeId},aq w b T→T≠167→T≠186→¬(b=cb∨av.ownBlock=some b):=fun hb n1 n2 e=>by
  rcases e with e | e
  ·subst e;exact n1 (hb.one ht)
  ·exact n2 (hb.one (aq.of_row cD e))
 refine⟨q4.typ _ ht,v',jw++ [iv],fun j v hv=> ?_,by rw[gd x _ hit,List.length_append];exact q2,cF.snoc (hx.keeps q3 (fun b hb=>n hb (by decide) (by decide)) (fun b hb=>n hb (by decide) (by decide))) (hit.keeps q3 (fun b hb=>n hb (by decide) (by decide)) (fun b hb=>n hb (by decide) (by decide)))⟩;by_cases e:j=1
 ·subst e
  have:v=v':=by simpa[aA] using hv.symm
  subst this;exact⟨q1,(q4.frozen 1).trans (k 1 _ rfl).2⟩
 ·have uN:(aA {addrs:=cg} av (.slice none 0 0) (.slice none 0 0) (.slice none 0 0) (.slice none 0 0))[j]? =some v:=by
   match j,e,hv with
   | 0,_,hv=>exact hv
   | j+2,_,hv=>exact hv
  exact⟨(q4.others j e).trans (k j v uN).1,(q4.frozen j).trans (k j v uN).2⟩
theorem tQ (g:CG) (pp cb B:Nat) (w:World) (i:Nat) (h:Cur g w i) (hp:Lead g pp w) (cg:List Adz.Ad) (hc:HeadAt w cb B cg) (hB:B≤cb) (xW:cg.length≤1) (pj:Adz.peek g.L i=47) (p:Adz.Pat) (i1:Nat) (hr:Adz.patRead g.L g.pl (i+1)=.ok (p,i1)):
 Calls Tryz.prog 169 #[.pointer (some ⟨pp,0,none⟩),.pointer (some ⟨cb,0,none⟩)] w fun e w'=>e=.returned (.pointer none)∧HeadAt w' cb B (cg++ [⟨2,0,p⟩])∧Cur g w' (Adz.blanks g.L i1)∧ae (fun b=>b=g.c∨B≤b) w w':=by
 have q0:=hp.at0;have bM:cb≠g.c:=hc.typ.ne h.tc (by decide);have gH:pp≠cb:=hp.typ.ne hc.typ (by decide);have cR:=hc.typ.lt;have uG:Adz.peek g.L i≠36:=fun e=>by rw[e] at pj;exact absurd pj (by decide)
 obtain⟨i0,dZ,fQ,eJ,eF⟩:=info_parts pB;have c1:=km g pp w i h hp pj;have HR:Hid _:=hr;clear hr;go_enter Tryz.func169,Tryz.ntmps169;go_wp2_with fail;refine c1.mono ?_;rintro e w1 ⟨rfl,n1,da⟩;have o1:ae (·=g.c) w w1:=by rw[da];exact(ae.refl _ w).drewN n1
 have h1:Cur g w1 i:=by rw[da];exact h.drewN n1
 have l1:=hp.moved o1;have m1:=hc.keeps o1 h.spares bM;clear da c1;have q1:=l1.at0;have MK:=l1.lt;go_wp2_with fail;have oa:ae (fun _=>False) w1 (w1.alloc (.cells #[.int .i64 0,.int .i64 0,.slice none 0 0,.int .i64 0] 186)):=(ae.refl _ w1).alloc _;have ka:=ai.new w1 #[.int .i64 0,.int .i64 0,.slice none 0 0,.int .i64 0] 186;have ta:=aq.new w1 #[.int .i64 0,.int .i64 0,.slice none 0 0,.int .i64 0] 186 (0,0);have nu:w1.heap.size≠g.c:=by have:=h1.lt;omega
 have Kx:cb<w1.heap.size:=m1.typ.lt;have ek:=h1.alloc (.cells #[.int .i64 0,.int .i64 0,.slice none 0 0,.int .i64 0] 186);have vR:=l1.alloc (.cells #[.int .i64 0,.int .i64 0,.slice none 0 0,.int .i64 0] 186);generalize w1.alloc (.cells #[.int .i64 0,.int .i64 0,.slice none 0 0,.int .i64 0] 186)=wa at*
 refine(aH g wa i 36 ek uG).mono ?_;rintro e w2 ⟨rfl,n2,rfl⟩;have q2:=vR.at0;go_wp2_with fail;refine(aC g _ i 47 (ek.drewN n2) pj (by omega)).mono ?_;rintro e w2 ⟨rfl,h2,aK⟩;have o2:ae (·=g.c) w1 w2:=(oa.drewN n2).trans aK (fun _ e=>e.elim) (fun _ _ e=>e);have k2:ai w2 w1.heap.size [.int .i64 0,.int .i64 0,.slice none 0 0,.int .i64 0]:=(ka.drewN n2).keeps aK nu;have t2:aq w2 w1.heap.size 186:=(ta.drewN n2).keeps aK nu;have l2:Lead g pp w2:=(vR.drewN n2).moved aK;clear oa ka ta ek vR q2;have j0:=(k2 0 _ rfl).1;have f0:=(k2 0 _ rfl).2;have oS:=af w2 w1.heap.size 0 (.int .i64 2);have k3:=k2.set 0 (.int .i64 2);have h3:Cur g (w2.setCell ⟨w1.heap.size,0,none⟩ (.int .i64 2)) (i+1):=h2.keeps oS nu.symm (fun hn=>(h2.tr hn).ne t2 (by decide)) (h2.tp.ne t2 (by decide));have l3:Lead g pp (w2.setCell ⟨w1.heap.size,0,none⟩ (.int .i64 2)):=l2.keeps oS (by omega);have t3:aq (w2.setCell ⟨w1.heap.size,0,none⟩ (.int .i64 2)) w1.heap.size 186:=t2.set;have o3:ae (fun b=>b=g.c∨b=w1.heap.size) w1 (w2.setCell ⟨w1.heap.size,0,none⟩ (.int .i64 2)):=o2.trans oS (fun _ e=>Or.inl e) (fun _ _ e=>Or.inr e);have q3:=l3.at0;go_wp2_with fail;generalize w2.setCell ⟨w1.heap.size,0,none⟩ (.int .i64 2)=w3 at*
 refine(gX g w3 (i+1) h3 p i1 HR.out).mono ?_;rintro e w4 ⟨iv,rfl,zn,h4,o4⟩;obtain⟨gI,G0,KT⟩:=zn;obtain⟨ia,ic,rfl⟩:=ak G0;have k4:=k3.keeps o4 nu;have t4:=t3.keeps o4 nu;have j2:=(k4 2 _ rfl).1;have f2:=(k4 2 _ rfl).2;have j3:=(k4 3 _ rfl).1;have f3:=(k4 3 _ rfl).2;have vS:ae (·=w1.heap.size) w4 ((w4.setCell ⟨w1.heap.size,2,none⟩ (.slice ia p.items.length ic)).setCell ⟨w1.heap.size,3,none⟩ (.int .i64 p.groups)):=aW (af _ _ _ _) (af _ _ _ _);have k5:=(k4.set 2 (.slice ia p.items.length ic)).set 3 (.int .i64 p.groups);have jO:Cur g ((w4.setCell ⟨w1.heap.size,2,none⟩ (.slice ia p.items.length ic)).setCell ⟨w1.heap.size,3,none⟩ (.int .i64 p.groups)) i1:=h4.keeps vS nu.symm (fun hn=>(h4.tr hn).ne t4 (by decide)) (h4.tp.ne t4 (by decide));have xi:ae (·=g.c) w1 ((w4.setCell ⟨w1.heap.size,2,none⟩ (.slice ia p.items.length ic)).setCell ⟨w1.heap.size,3,none⟩ (.int .i64 p.groups)):=((o3.trans o4 (fun _ e=>e) (fun _ _ e=>Or.inl e):ae (fun b=>b=g.c∨b=w1.heap.size) w1 w4).trans vS (fun _ e=>e) (fun _ _ e=>Or.inr e)).mono (fun b hb e=>by rcases e with e | e;exact e;omega);have KU:bN ((w4.setCell ⟨w1.heap.size,2,none⟩ (.slice ia p.items.length ic)).setCell ⟨w1.heap.size,3,none⟩ (.int .i64 p.groups)) (.slice ia p.items.length ic) p.items:=bN.keeps ⟨gI,G0,KT⟩ vS (fun b hb=>hb.ne t4 (by decide)) (fun b hb=>hb.ne t4 (by decide));have SE:Hid _:=KU;have m5:=m1.keeps xi h1.spares bM;have l5:=l1.moved xi;clear KU G0 KT
 have xD:Hid _:=k5;have E4:Hid _:=m5;have xC:Hid _:=jO;have E3:Hid _:=l5;have JC:Hid _:=xi;clear k5 m5 jO l5 xi vS k4 h4 o4 k3 h3 l3 t3 o3 oS k2 t2 h2 l2 o2 j0 f0;go_wp2_with fail;have zg:w1.heap.size≠cb:=by omega
 have E7:Hid (aq ((w4.setCell ⟨w1.heap.size,2,none⟩ (.slice ia p.items.length ic)).setCell ⟨w1.heap.size,3,none⟩ (.int .i64 p.groups)) w1.heap.size 186):=t4.set.set;generalize (w4.setCell ⟨w1.heap.size,2,none⟩ (.slice ia p.items.length ic)).setCell ⟨w1.heap.size,3,none⟩ (.int .i64 p.groups)=u at*
 clear j2 f2 j3 f3 t4;obtain⟨av,jw,mx,cD,hit⟩:=E4.out.cells;obtain⟨aa,ac,rfl⟩:=ak cD;have x0:=(xD.out 0 _ rfl).1;have x1:=(xD.out 1 _ rfl).1;have x2:=(xD.out 2 _ rfl).1;have x3:=(xD.out 3 _ rfl).1;have y1:=(mx 1 _ rfl).1;have y2:=(mx 1 _ rfl).2;have yg:=E4.out.typ;have lr:cb<u.heap.size:=yg.lt;have aJ:(Value.slice aa cg.length ac).ownBlock≠some cb:=aG cD yg (by decide);have p7:∀o:Obj,(u.alloc o).cell? ⟨cb,1,none⟩=some (.slice aa cg.length ac):=fun o=>by rw[World.cell?_alloc_past _ _ _ lr];exact y1
 have p6:∀o:Obj,(u.alloc o).frozen? ⟨cb,1,none⟩=false:=fun o=>by rw[World.frozen?_alloc_past _ _ _ lr];exact y2
 have Jy:Hid _:=mx;have Jv:Hid _:=hit;clear mx hit
 go_region_law
  ((refine step_append_lies _ (by rfl) _ _ _ (by rfl) B 186 i0 _ 4 48 Tryz.underlying157 dZ fQ eJ eF rfl (by omega) (.slice aa cg.length ac) cg.length (cA cg jw) (by rfl) ((cD.alloc _).drew)
     ⟨u.heap.size,0,none⟩ 1 1 [.int .i64 2,.int .i64 0,.slice ia p.items.length ic,.int .i64 p.groups] (by rfl) (by rfl) (World.news_of_block (cs:= #[.int .i64 2,.int .i64 0,.slice ia p.items.length ic,.int .i64 p.groups]) (t:=186) (fr:=(0,0)) (heap_alloc_new u _)) (by simp[Value.oneCell'])
     (by omega) (by unfold maxLen;omega) (by omega) (by simp;omega) (u.heap.size+1) (by simp) ?_;intro g1 cap w6 br aI bJ eG;have kc:=(aI.cell_far ⟨cb,1,none⟩ (by simp;omega) (Ne.symm aJ)).trans (p7 _);have kf:=(aI.frozen_far ⟨cb,1,none⟩ (by simp;omega) (Ne.symm aJ)).trans (p6 _)))
 all_goals
  have hv:(Value.slice (some ⟨g1,0,none⟩) (cg.length+1) cap).ownBlock≠some cb:=by
   rcases bJ with h | h
   ·intro e
    simp[Value.ownBlock] at e;exact aJ (by rw[h,e])
   ·intro e
    simp[Value.ownBlock] at e;omega
  obtain⟨u1,u2,u3,u4⟩:=bg (((ae.refl _ u).alloc _).drew) aI kc br hv lr aJ;have h6:=HeadAt.moreP yg Jy.out cD Jv.out ⟨2,0,p⟩ (.slice ia p.items.length ic) SE.out u1 u2 u3 u4
  have n6:∀ {b:Nat} {T:TypeId},aq u b T→T≠167→T≠186→¬(b=cb∨(Value.slice aa cg.length ac).ownBlock=some b):=fun hb n1 n2 e=>by
   rcases e with e | e
   ·subst e;exact n1 (hb.one yg)
   ·exact n2 (hb.one (aq.of_row cD e))
  have p8:=xC.out.keeps u3 (n6 xC.out.tc (by decide) (by decide)) (fun hn=>n6 (xC.out.tr hn) (by decide) (by decide)) (n6 xC.out.tp (by decide) (by decide));have l6:=E3.out.keeps u3 (n6 E3.out.typ (by decide) (by decide));have q6:=l6.at0
  have JD:Hid (ae (fun b=>b=g.c∨B≤b) w (w6.setCell ⟨cb,1,none⟩ (.slice (some ⟨g1,0,none⟩) (cg.length+1) cap))):=((o1.trans JC.out (fun _ e=>e) (fun _ _ e=>e):ae (·=g.c) w u).trans u3 (fun _ e=>Or.inl e) (fun b hb e=>by
   rcases e with e | e
   ·exact Or.inr (by omega)
   ·exact Or.inr (cD.lt b e).1))
  have H6:Hid _:=h6;clear h6 u1 u2 u3 u4 kc kf;generalize w6.setCell ⟨cb,1,none⟩ (.slice (some ⟨g1,0,none⟩) (cg.length+1) cap)=w7 at*
  go_wp2_with fail;refine(bO g w7 i1 p8).mono ?_;rintro e w8 ⟨rfl,GM,zx⟩;go_wp2;go_ret;exact⟨rfl,H6.out.keeps zx p8.spares bM,GM,JD.out.trans zx (fun _ e=>e) (fun _ _ e=>Or.inl e)⟩
end
end Go.Proofs.YtbiobhghnldckaaGreatDoor
