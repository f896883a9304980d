/- Proved: a label is set, and asked for, whatever labels are there, or what is wrong is told. Conditions: the parser lies in memory as 'Par' says, no name stands twice among the labels. -/
import Derived.Test.YtbiobhghnldckaaGreatDoorS25
namespace Go.Proofs.YtbiobhghnldckaaGreatDoor
set_option linter.unusedVariables false
set_option maxRecDepth 100000
set_option maxHeartbeats 6400000
section
open Go.RowKit
attribute [local go_sem ↓] Go.wp_at_zero Go.wp_at_succ
theorem vZ {w:World}{mb lb:Nat}{labs:List Adz.Lab} (hm:iF w mb) (hl:dv w lb labs):¬mb=lb:=fun e=>by
 subst e;unfold iF at hm;unfold dv at hl;have e2:=hm.symm.trans hl;injection e2 with e3;injection e3 with e4 e5;have e6:=congrArg (fun a:Array MapEntry=>(a[0]?).map (·.key)) e4
 cases labs with
 | nil=>simp [aj,aF,Adz.behTable] at e6
 | cons x labs=>simp [aj,bI,aF,fg,Adz.behTable] at e6
theorem Par.labeledA {g:CG}{pp base:Nat}{w w':World}{s:Adz.Ps} (h:Par g pp base w s) {lb:Nat} (zq:base≤lb+1) (cR:w.cell? ⟨pp,4,none⟩=some (.map (some lb))) (hl:dv w lb s.labs) {labs:List Adz.Lab} (fi:dv w' lb labs) (o:ae (·=lb) w w'):Par g pp base w' {s with labs:=labs}:=by
 obtain⟨mb,m1,m2⟩:=h.map;obtain⟨qv,xs,c1,c2,c3⟩:=h.cmds;obtain⟨ov,o1,o2⟩:=h.op;have key:∀ {b:Nat} {T:TypeId},aq w b T→¬b=lb:=fun t e=>dO t hl e.symm;have sp:Spares w (·=lb):=⟨fun b t=>key t,fun b t=>key t,fun b t=>key t,fun b t=>key t,fun b t=>key t⟩;have n0:=key h.lead.typ;have UM:¬mb=lb:=vZ m2 hl
 exact⟨h.cur.keeps o (key h.cur.tc) (fun hn=>key (h.cur.tr hn)) (key h.cur.tp),h.lead.keeps o n0,⟨mb,o.keeps m1 n0,aN m2 o UM⟩,⟨qv,xs,o.keeps c1 n0,ag c2 o (fun b hb=>key (aq.of_row c2 hb)),c3.keeps o sp⟩,
  ⟨ov,o.keeps o1 n0,ag o2 o (fun b hb=>key (aq.of_row o2 hb))⟩,⟨lb,zq,o.keeps cR n0,fi⟩,o.keepsFrozen c1 h.f2 n0,o.keepsFrozen o1 h.f3 n0,Nat.le_trans h.bs o.size,h.pb,h.few⟩
theorem j5 (labs:List Adz.Lab) (nm:List UInt8):(Adz.useOf labs nm).name=nm:=by
 unfold Adz.useOf
 cases hf:labs.find? (fun x=>x.name==nm) with
 | none=>rfl
 | some x=>simpa using List.find?_some hf
theorem oy (pp lb:Nat) (w:World) (eX:pp<w.heap.size) (labs:List Adz.Lab) (cR:w.cell? ⟨pp,4,none⟩=some (.map (some lb))) (hl:dv w lb labs) (nm:List UInt8):
 Calls Tryz.prog 173 #[.pointer (some ⟨pp,0,none⟩),.string ⟨nm.toArray⟩] w fun e w'=>e=.returned (.agg #[.int .i64 (Adz.useOf labs nm).set,.int .i64 (Adz.useOf labs nm).asked])∧ae (fun _=>False) w w':=by
 have DP:dv (w.alloc (.cells #[.int .i64 0,.int .i64 0] 176)) lb labs:=aN hl ((ae.refl (fun _=>False) w).alloc _) id;have zr:=yj _ lb labs nm DP;have cC:(w.alloc (.cells #[.int .i64 0,.int .i64 0] 176)).cell? ⟨pp,4,none⟩=some (.map (some lb)):=by rw[World.cell?_alloc_past _ _ _ eX];exact cR
 unfold Adz.useOf;clear hl DP cR
 rcases zr with ⟨x,hf,kD,_⟩ |⟨hf,kD,_⟩
 ·rw[hf]
  simp only;clear hf;generalize (⟨nm.toArray⟩:ByteArray)=PH at*
  go_enter Tryz.func173,Tryz.ntmps173;go_wp2;refine bodyPost_ret (v:=.agg #[.int .i64 x.set,.int .i64 x.asked]) (mQ rfl ((ai.new w #[.int .i64 x.set,.int .i64 x.asked] 176).keeps ((ae.refl (fun _=>False) _).alloc _) id)) rfl ?_;exact⟨rfl,((ae.refl _ w).alloc _).alloc _⟩
 ·rw[hf]
  simp only;clear hf;generalize (⟨nm.toArray⟩:ByteArray)=PH at*
  go_enter Tryz.func173,Tryz.ntmps173;go_wp2;refine bodyPost_ret (v:=.agg #[.int .i64 (-1),.int .i64 (-1)]) (mQ rfl ((ai.new w #[.int .i64 (-1),.int .i64 (-1)] 176).keeps ((ae.refl (fun _=>False) _).alloc _) id)) rfl ?_;exact⟨rfl,((ae.refl _ w).alloc _).alloc _⟩
theorem eE {L pl:List Int}{s:Adz.Ps}{c c':Adz.Cmd}{at_:Int}{i i':Nat}{ec:List Adz.Lab} (hr:Adz.setLabel L pl s c at_ i=.ok (c',ec,i')):
 Adz.isLetter (Adz.peek L i)=true∧(Adz.lettersOf L i).length≤8∧(Adz.useOf s.labs (Adz.enc (Adz.lettersOf L i))).set= -1∧c'= {c with name:=Adz.enc (Adz.lettersOf L i)}∧ec=Adz.putLab s.labs {Adz.useOf s.labs (Adz.enc (Adz.lettersOf L i)) with set:=s.cmds.length}∧i'=i+(Adz.lettersOf L i).length:=by
 unfold Adz.setLabel Adz.nameOf at hr
 cases hl:Adz.isLetter (Adz.peek L i) with
 | false=>rw [hl] at hr;simp at hr
 | true=>
  rw[hl] at hr;simp only[Bool.not_true,Bool.false_eq_true,if_false] at hr;by_cases h8:(Adz.lettersOf L i).length>8
  ·rw[if_pos h8] at hr;cases hr
  ·rw[if_neg h8] at hr
   simp only at hr;by_cases hs:(Adz.useOf s.labs (Adz.enc (Adz.lettersOf L i))).set= -1
   ·rw[if_neg (by simp[hs])] at hr
    simp only[Except.ok.injEq,Prod.mk.injEq] at hr;obtain⟨e1,e2,e3⟩:=hr;exact⟨rfl,by omega,hs,e1.symm,e2.symm,e3.symm⟩
   ·rw[if_pos (by simpa using hs)] at hr;cases hr
theorem nz {L pl:List Int}{s:Adz.Ps}{c:Adz.Cmd}{at_:Int}{i:Nat}{f:Adz.Flt} (hr:Adz.setLabel L pl s c at_ i=.error f):
 Adz.isLetter (Adz.peek L i)=false∧f=Adz.wrong pl i∨Adz.isLetter (Adz.peek L i)=true∧8<(Adz.lettersOf L i).length∧f=(4,Adz.place pl i)∨Adz.isLetter (Adz.peek L i)=true∧(Adz.lettersOf L i).length≤8∧(Adz.useOf s.labs (Adz.enc (Adz.lettersOf L i))).set≠ -1∧f=(7,at_):=by
 unfold Adz.setLabel Adz.nameOf at hr
 cases hl:Adz.isLetter (Adz.peek L i) with
 | false=>rw [hl] at hr;simp at hr;exact Or.inl ⟨rfl,hr.symm⟩
 | true=>
  rw[hl] at hr;simp only[Bool.not_true,Bool.false_eq_true,if_false] at hr;by_cases h8:(Adz.lettersOf L i).length>8
  ·rw[if_pos h8] at hr
   simp only[Except.error.injEq] at hr;exact Or.inr (Or.inl ⟨rfl,h8,hr.symm⟩)
  ·rw[if_neg h8] at hr
   simp only at hr;by_cases hs:(Adz.useOf s.labs (Adz.enc (Adz.lettersOf L i))).set= -1
   ·rw[if_neg (by simp[hs])] at hr
    cases hr
   ·rw[if_pos (by simpa using hs)] at hr
    simp only[Except.error.injEq] at hr;exact Or.inr (Or.inr ⟨rfl,by omega,hs,hr.symm⟩)
theorem eo {L pl:List Int}{s:Adz.Ps}{c c':Adz.Cmd}{at_:Int}{i i':Nat}{ec:List Adz.Lab} (hr:Adz.askLabel L pl s c at_ i=.ok (c',ec,i')):
 Adz.isLetter (Adz.peek L (Adz.blanks L i))=false∧c'=c∧ec=s.labs∧i'=Adz.blanks L i∨
 Adz.isLetter (Adz.peek L (Adz.blanks L i))=true∧(Adz.lettersOf L (Adz.blanks L i)).length≤8∧c'= {c with name:=Adz.enc (Adz.lettersOf L (Adz.blanks L i))}∧ec=Adz.putLab s.labs (if (Adz.useOf s.labs (Adz.enc (Adz.lettersOf L (Adz.blanks L i)))).asked== -1 then {Adz.useOf s.labs (Adz.enc (Adz.lettersOf L (Adz.blanks L i))) with asked:=at_} else Adz.useOf s.labs (Adz.enc (Adz.lettersOf L (Adz.blanks L i))))∧i'=Adz.blanks L i+(Adz.lettersOf L (Adz.blanks L i)).length:=by
 unfold Adz.askLabel Adz.nameOf at hr;simp only at hr
 cases hl:Adz.isLetter (Adz.peek L (Adz.blanks L i)) with
 | false=>
  rw[hl] at hr;simp only[Bool.not_false,if_true,Except.ok.injEq,Prod.mk.injEq] at hr;exact Or.inl ⟨rfl,hr.1.symm,hr.2.1.symm,hr.2.2.symm⟩
 | true=>
  rw[hl] at hr;simp only[Bool.not_true,Bool.false_eq_true,if_false] at hr;by_cases h8:(Adz.lettersOf L (Adz.blanks L i)).length>8
  ·rw[if_pos h8] at hr;cases hr
  ·rw[if_neg h8] at hr
   simp only[Except.ok.injEq,Prod.mk.injEq] at hr;exact Or.inr ⟨rfl,by omega,hr.1.symm,hr.2.1.symm,hr.2.2.symm⟩
theorem mT {L pl:List Int}{s:Adz.Ps}{c:Adz.Cmd}{at_:Int}{i:Nat}{f:Adz.Flt} (hr:Adz.askLabel L pl s c at_ i=.error f):
 Adz.isLetter (Adz.peek L (Adz.blanks L i))=true∧8<(Adz.lettersOf L (Adz.blanks L i)).length∧f=(4,Adz.place pl (Adz.blanks L i)):=by
 unfold Adz.askLabel Adz.nameOf at hr;simp only at hr
 cases hl:Adz.isLetter (Adz.peek L (Adz.blanks L i)) with
 | false=>rw [hl] at hr;simp at hr
 | true=>
  rw[hl] at hr;simp only[Bool.not_true,Bool.false_eq_true,if_false] at hr;by_cases h8:(Adz.lettersOf L (Adz.blanks L i)).length>8
  ·rw[if_pos h8] at hr
   simp only[Except.error.injEq] at hr;exact⟨rfl,h8,hr.symm⟩
  ·rw[if_neg h8] at hr;cases hr
theorem tk {g:CG}{pp base:Nat}{u w:World}{s:Adz.Ps}{cb i i':Nat} (h:Par g pp base u s) (o:ae (·=g.c) u w) (hC:Cur g w i) (hi:s.i≤i) (c c':Adz.Cmd) (hc:CmdAt w cb c) (iR:u.heap.size≤cb) (gA:dw s.labs) (at_:Int) (ec:List Adz.Lab) (hr:Adz.setLabel g.L g.pl s c at_ i=.ok (c',ec,i')):
 Calls Tryz.prog 148 #[.pointer (some ⟨pp,0,none⟩),.pointer (some ⟨cb,0,none⟩),.int .i64 at_] w fun e w'=>e=.returned (.pointer none)∧CmdAt w' cb c'∧Par g pp base w' {s with i:=i',labs:=ec}∧w'.cell? ⟨pp,2,none⟩=u.cell? ⟨pp,2,none⟩∧ae (fun b=>b=g.c∨base≤b+1) u w':=by
 obtain⟨aw,h8,dp,rfl,rfl,rfl⟩:=eE hr;have hw:=h.moved hC o hi;have q0:=hw.lead.at0;have cP:=ah g w i hC;have gm:=fun v=>cf (Adz.peek g.L i) v;rw[aw] at gm;have dx:=fun n=>iV g pp cb (w.drewN n) i (hC.drewN n) (hw.lead.drewN n) c (hc.keeps ((ae.refl (·=g.c) w).drewN n) hC.spares (hc.typ.ne hC.tc (by decide)));have FM:=j5 s.labs (Adz.enc (Adz.lettersOf g.L i));have H8:Hid _:=h8;clear hr aw h8;generalize hE:Adz.enc (Adz.lettersOf g.L i)=E at*
 clear hE;generalize hU:Adz.useOf s.labs E=U at*
 obtain⟨un,us,ua⟩:=U;simp only at dp FM;subst dp FM;have HU:Hid _:=hU;clear hU;generalize Adz.peek g.L i=a at*
 go_enter Tryz.func148,Tryz.ntmps148;go_wp2_with fail;refine cP.mono ?_;clear cP;rintro e w1 ⟨rfl,n1,rfl⟩;go_wp2_with fail;refine(gm _).mono ?_;clear gm;rintro e w1 ⟨rfl,rfl⟩;go_wp2_with fail;refine(dx n1).mono ?_;clear dx;rintro e w2 ⟨tD,o2⟩
 rcases tD with ⟨_,rfl,gq,aL⟩ |⟨h8,_⟩
 case inr=>exact absurd H8.out (by omega)
 have zN:ae (·=g.c) u w2:=(o.drewN n1).trans o2 (fun _ e=>e) (fun b hb e=>by rcases e with e | e;exact e;omega);have h2:=h.moved aL zN (by omega);obtain⟨lb,l0,l1,l2⟩:=h2.lab;have fy:dv w2 lb s.labs:=l2;obtain⟨av,iv,rv,fv,tv,kk,dd⟩:=gq.deep;have k4:=(kk 4 _ rfl).1;have qz:=h2.lead.lt;simp only at k4;obtain⟨qv,xs,c1,c2,c3⟩:=h2.cmds;obtain⟨qa,qc,rfl⟩:=ak c2;simp only at c1;have jV:=h.few;have hle:=hC.le;have dy:=hC.small;have nV:=oy pp lb w2 qz s.labs l1 fy un;rw[HU.out] at nV;clear HU;simp only at nV;obtain⟨nm,dx⟩:∃nm,(⟨un.toArray⟩:ByteArray)=nm:=⟨_,rfl⟩;rw[dx] at nV k4;have Gd:Hid _:=dx;clear dx;have Bs:=gq.typ.lt;clear kk dd;go_wp2_with fail;refine nV.mono ?_;clear nV;rintro e w3 ⟨rfl,o3⟩;have RY:=o3.keeps k4 id;have R6:=o3.keeps l1 id;have JS:=o3.keeps c1 id;have Lh:pp<w3.heap.size:=by have:=o3.size;omega
 have KA:cb<w3.heap.size:=by have:=o3.size;omega
 have L1:Hid _:=l1;clear l1 c1 k4;have oa:ae (fun _=>False) w3 (w3.alloc (.cells #[.int .i64 s.cmds.length,.int .i64 ua] 176)).drew:=((ae.refl _ w3).alloc _).drew;obtain⟨w5,B1,qy,o5⟩:=sD (w3.alloc (.cells #[.int .i64 s.cmds.length,.int .i64 ua] 176)).drew lb s.labs ⟨un,s.cmds.length,ua⟩ gA (aN (aN fy o3 id) oa id);simp only at B1;rw[Gd.out] at B1;go_wp2_with fail
 go_region
 have yu:ae (·=lb) w2 w5:=(o3.trans oa (fun _ e=>e.elim) (fun _ _ e=>e.elim):ae (·=lb) w2 _).trans o5 (fun _ e=>e) (fun _ _ e=>e);have DC:Par g pp base w5 {s with i:=i+(Adz.lettersOf g.L i).length,labs:=Adz.putLab s.labs ⟨un,s.cmds.length,ua⟩}:=h2.labeledA l0 L1.out l2 qy yu;have B9:=gq.keeps yu (jZ fy) (fun e=>dO gq.typ fy e.symm);have LM:ae (fun b=>b=g.c∨base≤b+1) u w5:=zN.trans yu (fun _ e=>Or.inl e) (fun b hb e=>Or.inr (by omega));have uH:w5.cell? ⟨pp,2,none⟩=u.cell? ⟨pp,2,none⟩:=(yu.cell (p:=⟨pp,2,none⟩) qz (fun e=>dO h2.lead.typ fy e.symm)).trans (zN.cell (p:=⟨pp,2,none⟩) h.lead.lt h.lead.ne);have JG:Hid _:=uH;clear B1 qy o5 oa uH;go_wp2;go_ret;exact⟨rfl,B9,DC,JG.out,LM⟩
theorem qK {g:CG}{pp base:Nat}{u w:World}{s:Adz.Ps}{cb i:Nat} (h:Par g pp base u s) (o:ae (·=g.c) u w) (hC:Cur g w i) (hi:s.i≤i) (c:Adz.Cmd) (hc:CmdAt w cb c) (iR:u.heap.size≤cb) (at_:Int) (f:Adz.Flt) (hr:Adz.setLabel g.L g.pl s c at_ i=.error f):
 Calls Tryz.prog 148 #[.pointer (some ⟨pp,0,none⟩),.pointer (some ⟨cb,0,none⟩),.int .i64 at_] w fun e w'=>∃v,e=.returned v∧ck w w' v f∧ae (fun b=>b=g.c∨b=cb) w w':=by
 have iD:=nz hr;have hw:=h.moved hC o hi;have q0:=hw.lead.at0;have cP:=ah g w i hC;have gm:=fun v=>cf (Adz.peek g.L i) v;have dx:=fun n=>iV g pp cb (w.drewN n) i (hC.drewN n) (hw.lead.drewN n) c (hc.keeps ((ae.refl (·=g.c) w).drewN n) hC.spares (hc.typ.ne hC.tc (by decide)));clear hr
 rcases iD with ⟨aw,rfl⟩ | iD
 ·rw[aw] at gm
  clear aw;generalize Adz.peek g.L i=a at*
  go_enter Tryz.func148,Tryz.ntmps148;go_wp2_with fail;refine cP.mono ?_;clear cP;rintro e w1 ⟨rfl,n1,rfl⟩;go_wp2_with fail;refine(gm _).mono ?_;clear gm;rintro e w1 ⟨rfl,rfl⟩;go_wp2_with fail;refine(aX g _ i (hC.drewN n1)).mono ?_;rintro e w3 ⟨v,rfl,hf,o3⟩;go_wp2;go_ret;exact⟨v,rfl,hf.back (Nat.le_refl _),((ae.refl (fun b=>b=g.c∨b=cb) w).drewN n1).trans o3 (fun _ e=>e) (fun _ _ e=>e.elim)⟩
 ·have aw:Adz.isLetter (Adz.peek g.L i)=true:=by
   rcases iD with e | e <;> exact e.1
  rw[aw] at gm;clear aw;have Gh:Hid _:=iD;clear iD;generalize FG:Adz.peek g.L i=a at*
  clear FG;go_enter Tryz.func148,Tryz.ntmps148;go_wp2_with fail;refine cP.mono ?_;clear cP;rintro e w1 ⟨rfl,n1,rfl⟩;go_wp2_with fail;refine(gm _).mono ?_;clear gm;rintro e w1 ⟨rfl,rfl⟩;go_wp2_with fail;refine(dx n1).mono ?_;clear dx;rintro e w2 ⟨tD,o2⟩;have Et:ae (fun b=>b=g.c∨b=cb) w w2:=((ae.refl (fun b=>b=g.c∨b=cb) w).drewN n1).trans o2 (fun _ e=>e) (fun _ _ e=>e)
  rcases tD with ⟨h8,rfl,gq,aL⟩ |⟨h8,v,rfl,hf⟩
  case inr=>
   have CT:f=(4,Adz.place g.pl i):=by
    rcases Gh.out with e | e
    ·exact e.2.2
    ·exact absurd e.2.1 (by omega)
   subst CT;obtain⟨fb,rfl,eW,IV⟩:=hf;go_wp2;go_ret;exact⟨_,rfl,⟨fb,rfl,eW,IV⟩,Et⟩
  have Uu:(Adz.useOf s.labs (Adz.enc (Adz.lettersOf g.L i))).set≠ -1∧f=(7,at_):=by
   rcases Gh.out with e | e
   ·exact absurd e.2.1 (by omega)
   ·exact e.2.2
  obtain⟨dp,rfl⟩:=Uu;have zN:ae (·=g.c) u w2:=(o.drewN n1).trans o2 (fun _ e=>e) (fun b hb e=>by rcases e with e | e;exact e;omega);have h2:=h.moved aL zN (by omega);obtain⟨lb,l0,l1,l2⟩:=h2.lab;have fy:dv w2 lb s.labs:=l2;obtain⟨av,iv,rv,fv,tv,kk,dd⟩:=gq.deep;have k4:=(kk 4 _ rfl).1;have qz:=h2.lead.lt;simp only at k4;have nV:=oy pp lb w2 qz s.labs l1 fy (Adz.enc (Adz.lettersOf g.L i));have Nt:((Adz.useOf s.labs (Adz.enc (Adz.lettersOf g.L i))).set== -1)=false:=by simpa using dp
  clear Gh;generalize Adz.useOf s.labs (Adz.enc (Adz.lettersOf g.L i))=U at*
  generalize Adz.enc (Adz.lettersOf g.L i)=E at*
  obtain⟨un,us,ua⟩:=U;simp only at nV Nt;generalize (⟨E.toArray⟩:ByteArray)=nm at*
  have Bs:=gq.typ.lt;clear kk dd dp;go_wp2_with fail;refine nV.mono ?_;clear nV;rintro e w3 ⟨rfl,o3⟩;have eF:=Et.size;have Pt:=o3.size;go_wp2_with fail;refine(aV 7 _ _).mono ?_;rintro e w5 ⟨rfl,rfl⟩;go_wp2;go_ret;refine⟨_,rfl,⟨_,rfl,?_,by simpa using db.new (w3.alloc (.cells #[.int .i64 us,.int .i64 ua] 176)) 7 at_⟩,?_⟩
  ·omega
  ·have ML:ae (fun b=>b=g.c∨b=cb) w w3:=Et.trans o3 (fun _ e=>e) (fun _ _ e=>e.elim)
   first | exact ML.alloc _ | exact(ML.alloc _).alloc _ | exact(ML.drew.alloc _).alloc _ | exact((ML.alloc _).drew).alloc _
theorem rJ {g:CG}{pp base:Nat}{u w:World}{s:Adz.Ps}{cb i i':Nat} (h:Par g pp base u s) (o:ae (·=g.c) u w) (hC:Cur g w i) (hi:s.i≤i) (c c':Adz.Cmd) (hc:CmdAt w cb c) (iR:u.heap.size≤cb) (gA:dw s.labs) (at_:Int) (ec:List Adz.Lab) (hr:Adz.askLabel g.L g.pl s c at_ i=.ok (c',ec,i')):
 Calls Tryz.prog 149 #[.pointer (some ⟨pp,0,none⟩),.pointer (some ⟨cb,0,none⟩),.int .i64 at_] w fun e w'=>e=.returned (.pointer none)∧CmdAt w' cb c'∧Par g pp base w' {s with i:=i',labs:=ec}∧w'.cell? ⟨pp,2,none⟩=u.cell? ⟨pp,2,none⟩∧ae (fun b=>b=g.c∨base≤b+1) u w':=by
 have iD:=eo hr;have hw:=h.moved hC o hi;have q0:=hw.lead.at0;have hle:=Adz.blanks_le g.L i;have Bp:=bO g w i hC;clear hr;generalize Adz.blanks g.L i=i0 at*
 rcases iD with ⟨aw,rfl,rfl,rfl⟩ |⟨aw,h8,rfl,rfl,rfl⟩
 ·have HL:Hid _:=aw
  clear aw;go_enter Tryz.func149,Tryz.ntmps149;go_wp2_with fail;refine Bp.mono ?_;clear Bp;rintro e w0 ⟨rfl,gC,o0⟩;have Cl:ae (·=g.c) u w0:=o.trans o0 (fun _ e=>e) (fun _ _ e=>e);have h0:=h.moved gC Cl (by omega);have mx:=hc.keeps o0 hC.spares (hc.typ.ne hC.tc (by decide));have q1:=h0.lead.at0;have cP:=ah g w0 i' gC;have gm:=fun v=>cf (Adz.peek g.L i') v;rw[HL.out] at gm;generalize Adz.peek g.L i'=a at*
  go_wp2_with fail;refine cP.mono ?_;clear cP;rintro e w1 ⟨rfl,n1,rfl⟩;go_wp2_with fail;refine(gm _).mono ?_;clear gm;rintro e w1 ⟨rfl,rfl⟩;go_wp2;go_ret;exact⟨rfl,mx.keeps ((ae.refl (·=g.c) w0).drewN n1) gC.spares (mx.typ.ne gC.tc (by decide)),h0.moved (gC.drewN n1) ((ae.refl (·=g.c) w0).drewN n1) (Nat.le_refl _),(Cl.drewN n1).cell (p:=⟨pp,2,none⟩) h.lead.lt h.lead.ne,(Cl.drewN n1).mono (fun _ _ e=>Or.inl e)⟩
 have FM:=j5 s.labs (Adz.enc (Adz.lettersOf g.L i0));have H8:Hid _:=h8;have HL:Hid _:=aw;clear aw h8;generalize hE:Adz.enc (Adz.lettersOf g.L i0)=E at*
 have HE:Hid _:=hE;clear hE;generalize hU:Adz.useOf s.labs E=U at*
 obtain⟨un,us,ua⟩:=U;simp only at FM;subst FM;have HU:Hid _:=hU;clear hU;by_cases Pq:ua= -1
 ·subst Pq
  simp only[show ((-1:Int)== -1)=true from rfl,if_true];go_enter Tryz.func149,Tryz.ntmps149;go_wp2_with fail;refine Bp.mono ?_;clear Bp;rintro e w0 ⟨rfl,gC,o0⟩;have Cl:ae (·=g.c) u w0:=o.trans o0 (fun _ e=>e) (fun _ _ e=>e);have h0:=h.moved gC Cl (by omega);have mx:=hc.keeps o0 hC.spares (hc.typ.ne hC.tc (by decide));have q1:=h0.lead.at0;have cP:=ah g w0 i0 gC;have gm:=fun v=>cf (Adz.peek g.L i0) v;rw[HL.out] at gm;generalize Adz.peek g.L i0=a at*
  go_wp2_with fail;refine cP.mono ?_;clear cP;rintro e w1 ⟨rfl,n1,rfl⟩;go_wp2_with fail;refine(gm _).mono ?_;clear gm;rintro e w1 ⟨rfl,rfl⟩;have dx:=iV g pp cb (w0.drewN n1) i0 (gC.drewN n1) (h0.lead.drewN n1) c (mx.keeps ((ae.refl (·=g.c) w0).drewN n1) gC.spares (mx.typ.ne gC.tc (by decide)));rw[HE.out] at dx;clear HE;go_wp2_with fail;refine dx.mono ?_;clear dx;rintro e w2 ⟨tD,o2⟩
  rcases tD with ⟨_,rfl,gq,aL⟩ |⟨h8,_⟩
  case inr=>exact absurd H8.out (by omega)
  have zN:ae (·=g.c) u w2:=(Cl.drewN n1).trans o2 (fun _ e=>e) (fun b hb e=>by rcases e with e | e;exact e;omega);have h2:=h.moved aL zN (by omega);obtain⟨lb,l0,l1,l2⟩:=h2.lab;have fy:dv w2 lb s.labs:=l2;obtain⟨av,iv,rv,fv,tv,kk,dd⟩:=gq.deep;have k4:=(kk 4 _ rfl).1;have qz:=h2.lead.lt;simp only at k4;have nV:=oy pp lb w2 qz s.labs l1 fy un;rw[HU.out] at nV;clear HU;simp only at nV;obtain⟨nm,dx⟩:∃nm,(⟨un.toArray⟩:ByteArray)=nm:=⟨_,rfl⟩;rw[dx] at nV k4;have Gd:Hid _:=dx;clear dx;have Bs:=gq.typ.lt;clear kk dd;go_wp2_with fail;refine nV.mono ?_;clear nV;rintro e w3 ⟨rfl,o3⟩;have RY:=o3.keeps k4 id;have R6:=o3.keeps l1 id;have Lh:pp<w3.heap.size:=by have:=o3.size;omega
  have KA:cb<w3.heap.size:=by have:=o3.size;omega
  have L1:Hid _:=l1;clear l1 k4;have oa:ae (fun _=>False) w3 (w3.alloc (.cells #[.int .i64 us,.int .i64 at_] 176)).drew:=((ae.refl _ w3).alloc _).drew;obtain⟨w5,B1,qy,o5⟩:=sD (w3.alloc (.cells #[.int .i64 us,.int .i64 at_] 176)).drew lb s.labs ⟨un,us,at_⟩ gA (aN (aN fy o3 id) oa id);simp only at B1;rw[Gd.out] at B1;go_wp2_with fail
  go_region
  have yu:ae (·=lb) w2 w5:=(o3.trans oa (fun _ e=>e.elim) (fun _ _ e=>e.elim):ae (·=lb) w2 _).trans o5 (fun _ e=>e) (fun _ _ e=>e);have DC:Par g pp base w5 {s with i:=i0+(Adz.lettersOf g.L i0).length,labs:=Adz.putLab s.labs ⟨un,us,at_⟩}:=h2.labeledA l0 L1.out l2 qy yu;have B9:=gq.keeps yu (jZ fy) (fun e=>dO gq.typ fy e.symm);have LM:ae (fun b=>b=g.c∨base≤b+1) u w5:=zN.trans yu (fun _ e=>Or.inl e) (fun b hb e=>Or.inr (by omega));have uH:w5.cell? ⟨pp,2,none⟩=u.cell? ⟨pp,2,none⟩:=(yu.cell (p:=⟨pp,2,none⟩) qz (fun e=>dO h2.lead.typ fy e.symm)).trans (zN.cell (p:=⟨pp,2,none⟩) h.lead.lt h.lead.ne);have JG:Hid _:=uH;clear B1 qy o5 oa uH;go_wp2;go_ret;exact⟨rfl,B9,DC,JG.out,LM⟩
 ·have Tw:(ua== -1)=false:=by simpa using Pq
  simp only[Tw,Bool.false_eq_true,if_false];go_enter Tryz.func149,Tryz.ntmps149;go_wp2_with fail;refine Bp.mono ?_;clear Bp;rintro e w0 ⟨rfl,gC,o0⟩;have Cl:ae (·=g.c) u w0:=o.trans o0 (fun _ e=>e) (fun _ _ e=>e);have h0:=h.moved gC Cl (by omega);have mx:=hc.keeps o0 hC.spares (hc.typ.ne hC.tc (by decide));have q1:=h0.lead.at0;have cP:=ah g w0 i0 gC;have gm:=fun v=>cf (Adz.peek g.L i0) v;rw[HL.out] at gm;generalize Adz.peek g.L i0=a at*
  go_wp2_with fail;refine cP.mono ?_;clear cP;rintro e w1 ⟨rfl,n1,rfl⟩;go_wp2_with fail;refine(gm _).mono ?_;clear gm;rintro e w1 ⟨rfl,rfl⟩;have dx:=iV g pp cb (w0.drewN n1) i0 (gC.drewN n1) (h0.lead.drewN n1) c (mx.keeps ((ae.refl (·=g.c) w0).drewN n1) gC.spares (mx.typ.ne gC.tc (by decide)));rw[HE.out] at dx;clear HE;go_wp2_with fail;refine dx.mono ?_;clear dx;rintro e w2 ⟨tD,o2⟩
  rcases tD with ⟨_,rfl,gq,aL⟩ |⟨h8,_⟩
  case inr=>exact absurd H8.out (by omega)
  have zN:ae (·=g.c) u w2:=(Cl.drewN n1).trans o2 (fun _ e=>e) (fun b hb e=>by rcases e with e | e;exact e;omega);have h2:=h.moved aL zN (by omega);obtain⟨lb,l0,l1,l2⟩:=h2.lab;have fy:dv w2 lb s.labs:=l2;obtain⟨av,iv,rv,fv,tv,kk,dd⟩:=gq.deep;have k4:=(kk 4 _ rfl).1;have qz:=h2.lead.lt;simp only at k4;have nV:=oy pp lb w2 qz s.labs l1 fy un;rw[HU.out] at nV;clear HU;simp only at nV;obtain⟨nm,dx⟩:∃nm,(⟨un.toArray⟩:ByteArray)=nm:=⟨_,rfl⟩;rw[dx] at nV k4;have Gd:Hid _:=dx;clear dx;have Bs:=gq.typ.lt;clear kk dd;go_wp2_with fail;refine nV.mono ?_;clear nV;rintro e w3 ⟨rfl,o3⟩;have RY:=o3.keeps k4 id;have R6:=o3.keeps l1 id;have Lh:pp<w3.heap.size:=by have:=o3.size;omega
  have KA:cb<w3.heap.size:=by have:=o3.size;omega
  have L1:Hid _:=l1;clear l1 k4;have oa:ae (fun _=>False) w3 (w3.alloc (.cells #[.int .i64 us,.int .i64 ua] 176)).drew:=((ae.refl _ w3).alloc _).drew;obtain⟨w5,B1,qy,o5⟩:=sD (w3.alloc (.cells #[.int .i64 us,.int .i64 ua] 176)).drew lb s.labs ⟨un,us,ua⟩ gA (aN (aN fy o3 id) oa id);simp only at B1;rw[Gd.out] at B1;go_wp2_with fail
  go_region
  have yu:ae (·=lb) w2 w5:=(o3.trans oa (fun _ e=>e.elim) (fun _ _ e=>e.elim):ae (·=lb) w2 _).trans o5 (fun _ e=>e) (fun _ _ e=>e);have DC:Par g pp base w5 {s with i:=i0+(Adz.lettersOf g.L i0).length,labs:=Adz.putLab s.labs ⟨un,us,ua⟩}:=h2.labeledA l0 L1.out l2 qy yu;have B9:=gq.keeps yu (jZ fy) (fun e=>dO gq.typ fy e.symm);have LM:ae (fun b=>b=g.c∨base≤b+1) u w5:=zN.trans yu (fun _ e=>Or.inl e) (fun b hb e=>Or.inr (by omega));have uH:w5.cell? ⟨pp,2,none⟩=u.cell? ⟨pp,2,none⟩:=(yu.cell (p:=⟨pp,2,none⟩) qz (fun e=>dO h2.lead.typ fy e.symm)).trans (zN.cell (p:=⟨pp,2,none⟩) h.lead.lt h.lead.ne);have JG:Hid _:=uH;clear B1 qy o5 oa uH;go_wp2;go_ret;exact⟨rfl,B9,DC,JG.out,LM⟩
theorem qi {g:CG}{pp base:Nat}{u w:World}{s:Adz.Ps}{cb i:Nat} (h:Par g pp base u s) (o:ae (·=g.c) u w) (hC:Cur g w i) (hi:s.i≤i) (c:Adz.Cmd) (hc:CmdAt w cb c) (iR:u.heap.size≤cb) (at_:Int) (f:Adz.Flt) (hr:Adz.askLabel g.L g.pl s c at_ i=.error f):
 Calls Tryz.prog 149 #[.pointer (some ⟨pp,0,none⟩),.pointer (some ⟨cb,0,none⟩),.int .i64 at_] w fun e w'=>∃v,e=.returned v∧ck w w' v f∧ae (fun b=>b=g.c∨b=cb) w w':=by
 obtain⟨aw,h8,rfl⟩:=mT hr;have hw:=h.moved hC o hi;have q0:=hw.lead.at0;have hle:=Adz.blanks_le g.L i;have Bp:=bO g w i hC;clear hr;generalize Adz.blanks g.L i=i0 at*
 have H8:Hid _:=h8;have HL:Hid _:=aw;clear aw h8;go_enter Tryz.func149,Tryz.ntmps149;go_wp2_with fail;refine Bp.mono ?_;clear Bp;rintro e w0 ⟨rfl,gC,o0⟩;have Cl:ae (·=g.c) u w0:=o.trans o0 (fun _ e=>e) (fun _ _ e=>e);have h0:=h.moved gC Cl (by omega);have mx:=hc.keeps o0 hC.spares (hc.typ.ne hC.tc (by decide));have q1:=h0.lead.at0;have cP:=ah g w0 i0 gC;have gm:=fun v=>cf (Adz.peek g.L i0) v;rw[HL.out] at gm;generalize Adz.peek g.L i0=a at*
 go_wp2_with fail;refine cP.mono ?_;clear cP;rintro e w1 ⟨rfl,n1,rfl⟩;go_wp2_with fail;refine(gm _).mono ?_;clear gm;rintro e w1 ⟨rfl,rfl⟩;have dx:=iV g pp cb (w0.drewN n1) i0 (gC.drewN n1) (h0.lead.drewN n1) c (mx.keeps ((ae.refl (·=g.c) w0).drewN n1) gC.spares (mx.typ.ne gC.tc (by decide)));go_wp2_with fail;refine dx.mono ?_;clear dx;rintro e w2 ⟨tD,o2⟩
 rcases tD with ⟨h8,_⟩ |⟨_,v,rfl,hf⟩
 ·exact absurd H8.out (by omega)
 have Et:ae (fun b=>b=g.c∨b=cb) w w2:=(o0.drewN n1).trans o2 (fun _ e=>Or.inl e) (fun _ _ e=>e);obtain⟨fb,rfl,eW,IV⟩:=hf;have hz:=o0.size;go_wp2;go_ret;exact⟨_,rfl,⟨fb,rfl,Nat.le_trans hz eW,IV⟩,Et⟩
end
section
open Go.RowKit
structure OneCmd (w:World) (g:Nat) (c:Adz.Cmd):Prop where
 what:w.cell? ⟨g,0,none⟩=some (.int .i32 115)
 addrs:∃aa ac,w.cell? ⟨g,1,none⟩=some (.slice aa 0 ac)
 neg:w.cell? ⟨g,2,none⟩=some (.bool false)
 sub:SubAt w g 6 c
theorem OneCmd.keeps {S:Nat→Prop}{w w':World}{g:Nat}{c:Adz.Cmd} (h:OneCmd w g c) (o:ae S w w') (h1:∀b,aq w b 167→¬S b) (h2:∀b,aq w b 270→¬S b) (h3:∀b,aq w b 284→¬S b) (h4:∀b,aq w b 240→¬S b):OneCmd w' g c:=by
 obtain⟨aa,ac,ha⟩:=h.addrs;have n:=h1 _ h.sub.typ;exact⟨o.keeps h.what n,⟨aa,ac,o.keeps ha n⟩,o.keeps h.neg n,h.sub.keeps o h1 h2 h3 h4⟩
theorem OneCmd.ed {w w':World}{g eb:Nat}{c:Adz.Cmd} (h:OneCmd w g c) (he:aq w eb 108) (o:ae (fun b=>b=eb∨(aq w b 5∧eb≤b)∨(aq w b 258∧eb≤b)) w w'):OneCmd w' g c:=by
 have k:∀ {T:TypeId},T≠108→T≠5→T≠258→∀b,aq w b T→¬(b=eb∨(aq w b 5∧eb≤b)∨(aq w b 258∧eb≤b)):=fun n1 n2 n3 b hb e=>by
  rcases e with e | e | e
  ·subst e;exact n1 (hb.one he)
  ·exact n2 (hb.one e.1)
  ·exact n3 (hb.one e.1)
 exact h.keeps o (k (by decide) (by decide) (by decide)) (k (by decide) (by decide) (by decide)) (k (by decide) (by decide) (by decide)) (k (by decide) (by decide) (by decide))
theorem Ii (eb g cap:Nat) (w:World) (h0:w.cell? ⟨eb,0,none⟩=some (.slice (some ⟨g,0,none⟩) 1 cap)) (aa:Option Addr) (ac:Nat) (ha:w.cell? ⟨g,1,none⟩=some (.slice aa 0 ac)):
 Calls Tryz.prog 95 #[.pointer (some ⟨eb,0,none⟩),.int .i64 0] w fun e w'=>e=.returned (.bool true)∧w'=w:=by
 go_enter Tryz.func95,Tryz.ntmps95;go_wp2;go_ret;exact⟨rfl,rfl⟩
structure Fine (sp:List Int) (c:Adz.Cmd):Prop where
 k:c.pat.items.length≤1000
 f:∀x∈c.pat.items,x.spans.length≤1000
 n:sp.length≤400
 g:∀x∈c.pat.items,1≤x.group∧x.group≤9∨(x.kind≠2∧x.kind≠3)
 pl:c.repl.length≤1000
 ok:Adz.okRun sp c.nth c.all c.repl (Adz.matches_ sp c.pat.items) 0 0 []
 pr:c.print=false
 less:(Adz.subst sp c).length≤400
theorem IA (c:Adz.Cmd) (g eb:Nat) (w:World) (l:List Value) (out:List UInt8) (h:Ed w eb l out) (hc:OneCmd w g c) (ra:Option Addr) (rc:Nat) (sp:List Int) (h4:l[4]? =some (.slice ra sp.length rc)) (r8:Bool) (h8:l[8]? =some (.bool r8)) (fq:Sl w ra sp) (uI:sp.length≤rc) (hf:Fine sp c):
 Calls Tryz.prog 135 #[.pointer (some ⟨eb,0,none⟩),.pointer (some ⟨g,6,none⟩)] w fun e w'=>(∃v,e=.returned v)∧∃a' c' b8,Ed w' eb ((l.set 4 (.slice a' (Adz.subst sp c).length c')).set 8 (.bool b8)) out∧Sl w' a' (Adz.subst sp c)∧(Adz.subst sp c).length≤c'∧ae (·=eb) w w':=by
 obtain⟨p,a,c0,g1,g2,g3⟩:=h.cells;refine(callsIn_wide.1 (lW c g 6 eb w hc.sub ra rc sp h.typ _ g1 (by rw[List.getElem?_set_ne (by omega),List.getElem?_set_ne (by omega)];exact h4) r8 (by rw[List.getElem?_set_ne (by omega),List.getElem?_set_ne (by omega)];exact h8) hf.pr fq uI hf.k hf.f (by have:=hf.n;omega) hf.g hf.pl hf.ok)).mono ?_;rintro e w' ⟨he,a',c',v8,q1,⟨b8,rfl⟩,q2,q3,q4,q5,q6⟩;refine⟨he,a',c',b8,⟨⟨p,a,c0,?_,g2,?_⟩,q6.trans h.shape,q4,by rw[List.length_set,List.length_set];exact h.len⟩,q2,q3,q5⟩
 ·rwa [List.set_comm _ _ (by omega:14≠4),List.set_comm _ _ (by omega:13≠4),List.set_comm _ _ (by omega:14≠8),List.set_comm _ _ (by omega:13≠8)] at q1
 ·refine ag g3 q5 (fun b hb e=> ?_)
  subst e;exact absurd ((aq.of_row g3 hb).one h.typ) (by decide)
theorem NC (c:Adz.Cmd) (g eb:Nat) (w:World) (l:List Value) (out:List UInt8) (h:Ed w eb l out) (hc:OneCmd w g c) (ra:Option Addr) (rc:Nat) (sp:List Int) (h4:l[4]? =some (.slice ra sp.length rc)) (r8:Bool) (h8:l[8]? =some (.bool r8)) (fq:Sl w ra sp) (uI:sp.length≤rc) (hf:Fine sp c):
 Calls Tryz.prog 96 #[.pointer (some ⟨eb,0,none⟩),.pointer (some ⟨g,0,none⟩)] w fun e w'=>(∃v,e=.returned v)∧∃a' c' b8,Ed w' eb ((l.set 4 (.slice a' (Adz.subst sp c).length c')).set 8 (.bool b8)) out∧Sl w' a' (Adz.subst sp c)∧(Adz.subst sp c).length≤c'∧ae (·=eb) w w':=by
 have q0:=hc.what;have bF:=IA c g eb w l out h hc ra rc sp h4 r8 h8 fq uI hf;go_enter Tryz.func96,Tryz.ntmps96;go_wp2_with fail;refine bF.mono ?_;rintro e w1 ⟨⟨v,rfl⟩,hh⟩;go_wp2;go_end0;exact⟨⟨_,rfl⟩,hh⟩
theorem rU {w w' w2:World}{eb:Nat}{S T:Nat→Prop} (o:ae S w w') (o2:ae T w' w2) (h1:∀b,S b→b=eb∨(aq w b 5∧eb≤b)∨(aq w b 258∧eb≤b)) (h2:∀b,T b→b=eb∨(aq w' b 5∧eb≤b)∨(aq w' b 258∧eb≤b)):ae (fun b=>b=eb∨(aq w b 5∧eb≤b)∨(aq w b 258∧eb≤b)) w w2:=by
 refine o.trans o2 h1 (fun b hb e=> ?_);by_cases hs:S b
 ·exact h1 b hs
 ·have ty:∀ {T:TypeId},aq w' b T→aq w b T:=fun ⟨cur,fz,e⟩=>⟨cur,fz,(o.block b hb hs).symm.trans e⟩
  rcases h2 b e with e | e | e
  ·exact Or.inl e
  ·exact Or.inr (Or.inl ⟨ty e.1,e.2⟩)
  ·exact Or.inr (Or.inr ⟨ty e.1,e.2⟩)
theorem Iz (c:Adz.Cmd) (g cap eb:Nat) (w:World) (l:List Value) (out:List UInt8) (h:Ed w eb l out) (hc:OneCmd w g c) (h0:l[0]? =some (.slice (some ⟨g,0,none⟩) 1 cap)) (tz:l[15]? =some (.int .i64 0)) (h9:l[9]? =some (.int .i64 0)) (st:Nat) (J5:l[12]? =some (.int .i64 st)) (bZ:st<5000) (ha:Option Addr) (m jq:Nat) (h5:l[5]? =some (.slice ha m jq)) (hm:m≤400)
 (ra:Option Addr) (rc:Nat) (sp:List Int) (h4:l[4]? =some (.slice ra sp.length rc)) (r8:Bool) (h8:l[8]? =some (.bool r8)) (fq:Sl w ra sp) (uI:sp.length≤rc) (hf:Fine sp c):
 Calls Tryz.prog 71 #[.pointer (some ⟨eb,0,none⟩)] w fun e w'=>(∃v,e=.returned v)∧∃a' c' b8,Ed w' eb ((((l.set 12 (.int .i64 ((st:Int)+1))).set 9 (.int .i64 1)).set 4 (.slice a' (Adz.subst sp c).length c')).set 8 (.bool b8)) out∧Sl w' a' (Adz.subst sp c)∧(Adz.subst sp c).length≤c'∧ae (fun b=>b=eb∨(aq w b 5∧eb≤b)∨(aq w b 258∧eb≤b)) w w':=by
 go_enter Tryz.func71,Tryz.ntmps71;go_wp2_with fail;refine(gi eb w l out h tz ra ha sp.length m rc jq h4 h5 hf.n hm).mono ?_;rintro e w1 ⟨⟨v1,rfl⟩,o1⟩;have uo:=h.keeps o1 id (fun _ _=>id);go_wp2_with fail;refine(rQ eb w1 l out uo tz st J5 bZ).mono ?_;rintro e w2 ⟨⟨v2,rfl⟩,qV,o2⟩;have g15:(l.set 12 (.int .i64 ((st:Int)+1)))[15]? =some (.int .i64 0):=by rw[List.getElem?_set_ne (by omega)];exact tz
 have g9:(l.set 12 (.int .i64 ((st:Int)+1)))[9]? =some (.int .i64 0):=by rw[List.getElem?_set_ne (by omega)];exact h9
 have g0:(l.set 12 (.int .i64 ((st:Int)+1)))[0]? =some (.slice (some ⟨g,0,none⟩) 1 cap):=by rw[List.getElem?_set_ne (by omega)];exact h0
 have Fc:=(qV.get 15 (by omega) _ g15).1;have c9:=qV.get 9 (by omega) _ g9;have q9:=c9.1;have f9:=c9.2;have c0:=(qV.get 0 (by omega) _ g0).1;clear c9;go_wp2_with fail;refine(bP eb _ 0 Fc).mono ?_;rintro e w3 ⟨rfl,rfl⟩;have qp:=qV.set 9 (by omega) (.int .i64 1);have o3:=af w3 eb 9 (.int .i64 1);have tF:ae (fun b=>b=eb∨(aq w b 5∧eb≤b)∨(aq w b 258∧eb≤b)) w (w3.setCell ⟨eb,9,none⟩ (.int .i64 1)):=(o1.trans (aW o2 o3) (fun _ e=>e.elim) (fun _ _ e=>Or.inl e));have dJ:=hc.ed h.typ tF;go_wp2_with fail
 have uL:=fq.keeps tF (fun b o e=>by
  rcases fq with ⟨e2,_⟩ |⟨rb,ro,e2,ht,_⟩
  ·rw[e2] at e;cases e
  ·rw[e2] at e;injection e with e;injection e with e1 e2;subst e1
   intro e3
   rcases e3 with e3 | e3 | e3
   ·subst e3;exact absurd (ht.one h.typ) (by decide)
   ·exact absurd (ht.one e3.1) (by decide)
   ·exact absurd (ht.one e3.1) (by decide))
 generalize w3.setCell ⟨eb,9,none⟩ (.int .i64 1)=u at*
 obtain⟨aa,ac,Rj⟩:=dJ.addrs;have k0:((l.set 12 (.int .i64 ((st:Int)+1))).set 9 (.int .i64 1))[0]? =some (.slice (some ⟨g,0,none⟩) 1 cap):=by rw[List.getElem?_set_ne (by omega)];exact g0
 have QG:=(qp.get 0 (by omega) _ k0).1;have mY:∀k,Calls Tryz.prog 95 #[.pointer (some ⟨eb,0,none⟩),.int .i64 0] (u.drewN k) fun e w'=>e=.returned (.bool true)∧w'=u.drewN k:=fun k=>Ii eb g cap (u.drewN k) QG aa ac Rj;have sq:=dJ.neg
 go_quiet ((go_at_call 95;exact(mY _).mono (fun e w1 ⟨he,da⟩=>⟨he,_,da⟩)))
 have oq:ae (fun _=>False) u (u.drewN nq):=(ae.refl _ u).drewN nq;have Ba:=qp.keeps oq id (fun _ _=>id);have eu:=dJ.keeps oq (fun _ _=>id) (fun _ _=>id) (fun _ _=>id) (fun _ _=>id);have wY:=uL.keeps oq (fun _ _ _=>id);generalize u.drewN nq=u4 at*
 have k4:((l.set 12 (.int .i64 ((st:Int)+1))).set 9 (.int .i64 1))[4]? =some (.slice ra sp.length rc):=by rw[List.getElem?_set_ne (by omega),List.getElem?_set_ne (by omega)];exact h4
 have k8:((l.set 12 (.int .i64 ((st:Int)+1))).set 9 (.int .i64 1))[8]? =some (.bool r8):=by rw[List.getElem?_set_ne (by omega),List.getElem?_set_ne (by omega)];exact h8
 have bF:=NC c g eb u4 _ out Ba eu ra rc sp k4 r8 k8 wY uI hf;have VF:=tF.trans oq (fun _ e=>e) (fun _ _ e=>e.elim);clear mY QG Rj sq qp dJ uL tF o3 oq c0 q9 f9 Fc;go_wp2_with fail;refine bF.mono ?_;rintro e w5 ⟨⟨v5,rfl⟩,a',c',b8,r1,r2,r3,r4⟩;go_wp2;go_end0;exact⟨⟨_,rfl⟩,a',c',b8,r1,r2,r3,rU VF r4 (fun _ e=>e) (fun b e=>Or.inl e)⟩
def Adz.told (q:Bool) (out:List UInt8) (sp:List Int):List UInt8:=if q then out else (out++(runesBytes sp).data.toList)++ [10]
theorem xI (c:Adz.Cmd) (g cap eb:Nat) (w:World) (l:List Value) (out:List UInt8) (h:Ed w eb l out) (hc:OneCmd w g c) (h0:l[0]? =some (.slice (some ⟨g,0,none⟩) 1 cap)) (q:Bool) (h1:l[1]? =some (.bool q)) (tz:l[15]? =some (.int .i64 0)) (st:Nat) (J5:l[12]? =some (.int .i64 st)) (bZ:st<5000) (ha:Option Addr) (m jq:Nat) (h5:l[5]? =some (.slice ha m jq)) (hm:m≤400) (qa:Option Addr) (qc:Nat) (h6:l[6]? =some (.slice qa 0 qc))
 (lb lo n lc k:Nat) (s:ByteArray) (h2:l[2]? =some (.slice (some ⟨lb,lo,none⟩) n lc)) (h3:l[3]? =some (.int .i64 k)) (hk:k<n) (hn:n≤4000) (hl:w.cell? ⟨lb,lo+k,none⟩=some (.string s)) (hs:s.size≤3000) (r8:Bool) (h8:l[8]? =some (.bool r8)) (hf:Fine (Adz.runes s) c) (hlen:out.length+(runesBytes (Adz.subst (Adz.runes s) c)).size+1≤8000):
 Calls Tryz.prog 46 #[.pointer (some ⟨eb,0,none⟩)] w fun e w'=>(∃v,e=.returned v)∧∃l',Ed w' eb l' (Adz.told q out (Adz.subst (Adz.runes s) c))∧l'[15]? =some (.int .i64 0)∧l'[3]? =some (.int .i64 ((k:Int)+1))∧l'[2]? =l[2]? ∧l'[11]? =l[11]? ∧ae (fun b=>b=eb∨(aq w b 5∧eb≤b)∨(aq w b 258∧eb≤b)) w w':=by
 have hL:=h.len;have FH:=EB eb w l out h lb lo n lc k s h2 h3 r8 h8 hk hn hl hs;generalize Adz.runes s=sp at*
 obtain⟨v4,h4⟩:∃v,l[4]? =some v:=⟨_,List.getElem?_eq_getElem (by omega)⟩;obtain⟨v9,h9⟩:∃v,l[9]? =some v:=⟨_,List.getElem?_eq_getElem (by omega)⟩;obtain⟨v10,dQ⟩:∃v,l[10]? =some v:=⟨_,List.getElem?_eq_getElem (by omega)⟩;go_enter Tryz.func46,Tryz.ntmps46;go_wp2_with fail;refine FH.mono ?_;clear FH;rintro e w1 ⟨b,rc,rfl,D3,uI,uo,o1⟩;generalize DP:(l.set 3 (.int .i64 ((k:Int)+1))).set 8 (.bool false)=l1 at*
 have gt:∀j v,j≠3→j≠8→l[j]? =some v→l1[j]? =some v:=fun j v n1 n2 hv=>by rw[←DP,List.getElem?_set_ne (by omega),List.getElem?_set_ne (by omega)];exact hv
 have g3:l1[3]? =some (.int .i64 ((k:Int)+1)):=by rw[←DP,List.getElem?_set_ne (by omega),List.getElem?_set_self (by omega)]
 have g8:l1[8]? =some (.bool false):=by rw[←DP,List.getElem?_set_self (by rw[List.length_set];omega)]
 have p4:=uo.get 4 (by omega) _ (gt 4 _ (by omega) (by omega) h4);have q4:=p4.1;have f4:=p4.2;have qV:=uo.set 4 (by omega) (.slice (some ⟨b,0,none⟩) sp.length rc);have p9:=qV.get 9 (by omega) _ ((List.getElem?_set_ne (by omega)).trans (gt 9 _ (by omega) (by omega) h9));have q9:=p9.1;have f9:=p9.2;have qp:=qV.set 9 (by omega) (.int .i64 0);have PQ:=qp.get 10 (by omega) _ ((List.getElem?_set_ne (by omega)).trans ((List.getElem?_set_ne (by omega)).trans (gt 10 _ (by omega) (by omega) dQ)));have VN:=PQ.1;have f10:=PQ.2;have Ba:=qp.set 10 (by omega) (.bool false);have o4:ae (·=eb) w _:=aW (aW (aW o1 (af w1 eb 4 (.slice (some ⟨b,0,none⟩) sp.length rc))) (af _ eb 9 (.int .i64 0))) (af _ eb 10 (.bool false))
 have nb:b≠eb:=by
  rcases D3 with ⟨e,_⟩ |⟨rb,ro,e,ht,_⟩
  ·cases e
  ·injection e with e;injection e with e1 e2;subst e1;exact ht.ne uo.typ (by decide)
 have wY:=((D3.keeps (af w1 eb 4 (.slice (some ⟨b,0,none⟩) sp.length rc)) (fun b' o e=>by injection e with e;injection e with e1 e2;subst e1;exact nb)).keeps (af _ eb 9 (.int .i64 0)) (fun b' o e=>by injection e with e;injection e with e1 e2;subst e1;exact nb)).keeps (af _ eb 10 (.bool false)) (fun b' o e=>by injection e with e;injection e with e1 e2;subst e1;exact nb);clear p4 p9 PQ;go_wp2_with fail;clear q4 f4 q9 f9 VN f10 uo qV qp;generalize ((w1.setCell ⟨eb,4,none⟩ (.slice (some ⟨b,0,none⟩) sp.length rc)).setCell ⟨eb,9,none⟩ (.int .i64 0)).setCell ⟨eb,10,none⟩ (.bool false)=w4 at*
 generalize rf:((l1.set 4 (.slice (some ⟨b,0,none⟩) sp.length rc)).set 9 (.int .i64 0)).set 10 (.bool false)=l4 at*
 have Kf:l1.length=16:=by rw[←DP,List.length_set,List.length_set];exact hL
 have gu:∀j v,j≠3→j≠8→j≠4→j≠9→j≠10→l[j]? =some v→l4[j]? =some v:=fun j v n1 n2 n3 n4 n5 hv=>by rw[←rf,List.getElem?_set_ne (by omega),List.getElem?_set_ne (by omega),List.getElem?_set_ne (by omega)];exact gt j v n1 n2 hv
 have e3:l4[3]? =some (.int .i64 ((k:Int)+1)):=by rw[←rf,List.getElem?_set_ne (by omega),List.getElem?_set_ne (by omega),List.getElem?_set_ne (by omega)];exact g3
 have e8:l4[8]? =some (.bool false):=by rw[←rf,List.getElem?_set_ne (by omega),List.getElem?_set_ne (by omega),List.getElem?_set_ne (by omega)];exact g8
 have e4:l4[4]? =some (.slice (some ⟨b,0,none⟩) sp.length rc):=by rw[←rf,List.getElem?_set_ne (by omega),List.getElem?_set_ne (by omega),List.getElem?_set_self (by omega)]
 have e9:l4[9]? =some (.int .i64 0):=by rw[←rf,List.getElem?_set_ne (by omega),List.getElem?_set_self (by rw[List.length_set];omega)]
 have JV:l4[10]? =some (.bool false):=by rw[←rf,List.getElem?_set_self (by rw[List.length_set,List.length_set];omega)]
 have Sj:ae (fun b=>b=eb∨(aq w b 5∧eb≤b)∨(aq w b 258∧eb≤b)) w w4:=o4.mono (fun _ _ e=>Or.inl e);have eu:=hc.ed h.typ Sj
 go_loopg [] 1 (fun k wr=>(k=1∧wr=w4)∨(k=0∧∃a' c' b8 l5,l5=(((l4.set 12 (.int .i64 ((st:Int)+1))).set 9 (.int .i64 1)).set 4 (.slice a' (Adz.subst sp c).length c')).set 8 (.bool b8)∧Hid (Ed wr eb l5 out)∧Hid (Sl wr a' (Adz.subst sp c))∧Hid (ae (fun b=>b=eb∨(aq w b 5∧eb≤b)∨(aq w b 258∧eb≤b)) w wr)))
 case atStart=>exact Or.inl ⟨rfl,rfl⟩
 case round=>
  rcases hrel with ⟨rfl,rfl⟩ |⟨rfl,a',c',b8,l5,qy,xT,qA,o5⟩
  ·have d15:=(Ba.get 15 (by omega) _ (gu 15 _ (by omega) (by omega) (by omega) (by omega) (by omega) tz)).1
   have d9:=(Ba.get 9 (by omega) _ e9).1;have d0:=(Ba.get 0 (by omega) _ (gu 0 _ (by omega) (by omega) (by omega) (by omega) (by omega) h0)).1;have hg:∀k,Calls Tryz.prog 44 #[.pointer (some ⟨eb,0,none⟩)] (wr.drewN k) fun e w'=>e=.returned (.bool true)∧w'=wr.drewN k:=fun k=>bP eb (wr.drewN k) 0 d15;go_wp2_with fail
   go_quiet ((go_at_call 44;exact(hg _).mono (fun e w1 ⟨he,da⟩=>⟨he,_,da⟩)))
   have oq:ae (fun _=>False) wr (wr.drewN nq):=(ae.refl _ wr).drewN nq;have GC:=Ba.keeps oq id (fun _ _=>id);have GQ:=eu.keeps oq (fun _ _=>id) (fun _ _=>id) (fun _ _=>id) (fun _ _=>id);have Hn:=wY.keeps oq (fun _ _ _=>id);have PO:=Sj.trans oq (fun _ e=>e) (fun _ _ e=>e.elim);generalize wr.drewN nq=u at*
   have bF:=Iz c g cap eb u l4 out GC GQ (gu 0 _ (by omega) (by omega) (by omega) (by omega) (by omega) h0) (gu 15 _ (by omega) (by omega) (by omega) (by omega) (by omega) tz) e9 st (gu 12 _ (by omega) (by omega) (by omega) (by omega) (by omega) J5) bZ ha m jq (gu 5 _ (by omega) (by omega) (by omega) (by omega) (by omega) h5) hm (some ⟨b,0,none⟩) rc sp e4 false e8 Hn uI hf;clear d15 d9 d0 hg oq;go_wp2_with fail;refine bF.mono ?_;rintro e w5 ⟨⟨v5,rfl⟩,a',c',b8,r1,r2,r3,r4⟩;go_wp2;go_roundg 0
   case measure=>omega
   case rel=>exact Or.inr ⟨rfl,a',c',b8,_,rfl,r1,r2,rU PO r4 (fun _ e=>e) (fun _ e=>e)⟩
  ·have Bb:Ed wr eb l5 out:=xT
   have gw:∀j v,j≠3→j≠8→j≠4→j≠9→j≠10→j≠12→l[j]? =some v→l5[j]? =some v:=fun j v n1 n2 n3 n4 n5 n6 hv=>by rw[qy,List.getElem?_set_ne (by omega),List.getElem?_set_ne (by omega),List.getElem?_set_ne (by omega),List.getElem?_set_ne (by omega)];exact gu j v n1 n2 n3 n4 n5 hv
   have CO:=Ba.len;have i9:l5[9]? =some (.int .i64 1):=by rw[qy,List.getElem?_set_ne (by omega),List.getElem?_set_ne (by omega),List.getElem?_set_self (by rw[List.length_set];omega)]
   have i4:l5[4]? =some (.slice a' (Adz.subst sp c).length c'):=by rw[qy,List.getElem?_set_ne (by omega),List.getElem?_set_self (by rw[List.length_set,List.length_set];omega)]
   have i3:l5[3]? =some (.int .i64 ((k:Int)+1)):=by rw[qy,List.getElem?_set_ne (by omega),List.getElem?_set_ne (by omega),List.getElem?_set_ne (by omega),List.getElem?_set_ne (by omega)];exact e3
   have Vp:l5[10]? =some (.bool false):=by rw[qy,List.getElem?_set_ne (by omega),List.getElem?_set_ne (by omega),List.getElem?_set_ne (by omega),List.getElem?_set_ne (by omega)];exact JV
   have D7:=gw 15 _ (by omega) (by omega) (by omega) (by omega) (by omega) (by omega) tz;have d15:=(Bb.get 15 (by omega) _ D7).1;have d9:=(Bb.get 9 (by omega) _ i9).1;have d0:=(Bb.get 0 (by omega) _ (gw 0 _ (by omega) (by omega) (by omega) (by omega) (by omega) (by omega) h0)).1;have hg:∀k,Calls Tryz.prog 44 #[.pointer (some ⟨eb,0,none⟩)] (wr.drewN k) fun e w'=>e=.returned (.bool true)∧w'=wr.drewN k:=fun k=>bP eb (wr.drewN k) 0 d15;go_wp2_with fail
   go_quiet ((go_at_call 44;exact(hg _).mono (fun e w1 ⟨he,da⟩=>⟨he,_,da⟩)))
   have oq:ae (fun _=>False) wr (wr.drewN nq):=(ae.refl _ wr).drewN nq;have GC:=Bb.keeps oq id (fun _ _=>id);have Hn:=qA.out.keeps oq (fun _ _ _=>id);have PO:=o5.out.trans oq (fun _ e=>e) (fun _ _ e=>e.elim);generalize wr.drewN nq=u at*
   clear d15 d9 d0 hg oq qy Bb xT qA o5;have d15:=(GC.get 15 (by omega) _ D7).1;have d10:=(GC.get 10 (by omega) _ Vp).1;have eL:l5.length=16:=GC.len;have f2:(l5.set 6 (.slice none 0 0))[2]? =l[2]? :=by rw[List.getElem?_set_ne (by omega),h2];exact gw 2 _ (by omega) (by omega) (by omega) (by omega) (by omega) (by omega) h2
   have f11:(l5.set 6 (.slice none 0 0))[11]? =l[11]? :=by
    rw[List.getElem?_set_ne (by omega)];obtain⟨v11,QK⟩:∃v,l[11]? =some v:=⟨_,List.getElem?_eq_getElem (by omega)⟩;rw[QK];exact gw 11 _ (by omega) (by omega) (by omega) (by omega) (by omega) (by omega) QK
   have f3:(l5.set 6 (.slice none 0 0))[3]? =some (.int .i64 ((k:Int)+1)):=by rw[List.getElem?_set_ne (by omega)];exact i3
   have f15:(l5.set 6 (.slice none 0 0))[15]? =some (.int .i64 0):=by rw[List.getElem?_set_ne (by omega)];exact D7
   have fO:Calls Tryz.prog 72 #[.pointer (some ⟨eb,0,none⟩)] u fun e w'=>(∃v,e=.returned v)∧Ed w' eb (l5.set 6 (.slice none 0 0)) (Adz.told q out (Adz.subst sp c))∧ae (fun b=>b=eb∨(aq u b 5∧eb≤b)) u w':=by
    cases q with
    | false=>exact Gv eb u l5 out GC D7 (gw 1 _ (by omega) (by omega) (by omega) (by omega) (by omega) (by omega) h1) a' ha qa m c' jq qc _ i4 Hn (gw 5 _ (by omega) (by omega) (by omega) (by omega) (by omega) (by omega) h5) (gw 6 _ (by omega) (by omega) (by omega) (by omega) (by omega) (by omega) h6) hf.less hm hlen
    | true=>exact yU eb u l5 out GC D7 (gw 1 _ (by omega) (by omega) (by omega) (by omega) (by omega) (by omega) h1) a' ha qa _ m c' jq qc i4 (gw 5 _ (by omega) (by omega) (by omega) (by omega) (by omega) (by omega) h5) (gw 6 _ (by omega) (by omega) (by omega) (by omega) (by omega) (by omega) h6) hf.less hm
   go_wp2_with fail;refine(bP eb _ 0 d15).mono ?_;rintro e w6 ⟨rfl,rfl⟩;go_wp2_with fail;refine fO.mono ?_;rintro e w7 ⟨⟨v7,rfl⟩,TX,o7⟩;go_wp2;go_end0;exact⟨⟨_,rfl⟩,_,TX,f15,f3,f2,f11,rU PO o7 (fun _ e=>e) (fun b e=>e.imp id Or.inl)⟩
end
end Go.Proofs.YtbiobhghnldckaaGreatDoor
