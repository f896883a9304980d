/- Proved: adzeref's text and flags. Conditions: the Scan and the command lie in memory as 'Scn' and 'CmB' say. -/
import Derived.Test.YtbiobhghnldckaaGreatDoorS10
namespace Go.Proofs.YtbiobhghnldckaaGreatDoor
set_option linter.unusedVariables false
set_option maxRecDepth 100000
set_option maxHeartbeats 6400000
section
open Go.RowKit
attribute [local go_sem ↓] Go.wp_at_zero Go.wp_at_succ
structure CmB (w:World) (cb:Nat) (what:Int) (at_:Nat) (tx:Value) (all print:Bool) (nth:Int):Prop where
 typ:aq w cb 87
 cells:∃vs:List Value,vs.length=22∧ai w cb vs∧vs[9]? =some (.int .i64 what)∧vs[10]? =some (.int .i64 (at_:Int))∧vs[11]? =some tx∧vs[15]? =some (.bool all)∧vs[16]? =some (.bool print)∧vs[17]? =some (.int .i64 nth)
theorem CmB.keeps {S:Nat→Prop}{w w':World}{cb:Nat}{what:Int}{at_:Nat}{tx:Value}{all print:Bool}{nth:Int} (h:CmB w cb what at_ tx all print nth) (o:ae S w w') (hs:¬S cb):CmB w' cb what at_ tx all print nth:=by
 obtain⟨vs,h0,h1,h2⟩:=h.cells;exact⟨h.typ.keeps o hs,⟨vs,h0,h1.keeps o hs,h2⟩⟩
theorem CmB.drewN {w:World}{cb:Nat}{what:Int}{at_:Nat}{tx:Value}{all print:Bool}{nth:Int} (h:CmB w cb what at_ tx all print nth) (n:Nat):CmB (w.drewN n) cb what at_ tx all print nth:=h.keeps ((ae.refl (fun _=>False) w).drewN n) id
theorem CmB.at {w:World}{cb:Nat}{what:Int}{at_:Nat}{tx:Value}{all print:Bool}{nth:Int} (h:CmB w cb what at_ tx all print nth) (j:Nat) (hj:j<22):∃v,w.cell? ⟨cb,j,none⟩=some v∧w.frozen? ⟨cb,j,none⟩=false:=by
 obtain⟨vs,h0,h1,_⟩:=h.cells;have hl:j<vs.length:=by omega
 exact⟨vs[j],h1 j _ (List.getElem?_eq_getElem hl)⟩
theorem CmB.known {w:World}{cb:Nat}{what:Int}{at_:Nat}{tx:Value}{all print:Bool}{nth:Int} (h:CmB w cb what at_ tx all print nth):
 w.cell? ⟨cb,9,none⟩=some (.int .i64 what)∧w.cell? ⟨cb,10,none⟩=some (.int .i64 (at_:Int))∧w.cell? ⟨cb,11,none⟩=some tx∧w.cell? ⟨cb,15,none⟩=some (.bool all)∧w.cell? ⟨cb,16,none⟩=some (.bool print)∧w.cell? ⟨cb,17,none⟩=some (.int .i64 nth):=by
 obtain⟨vs,h0,h1,a,b,c,d,e,f⟩:=h.cells;exact⟨(h1 _ _ a).1,(h1 _ _ b).1,(h1 _ _ c).1,(h1 _ _ d).1,(h1 _ _ e).1,(h1 _ _ f).1⟩
theorem CmB.free {w:World}{cb:Nat}{what:Int}{at_:Nat}{tx:Value}{all print:Bool}{nth:Int} (h:CmB w cb what at_ tx all print nth):∀j,j<22→w.frozen? ⟨cb,j,none⟩=false:=fun j hj=>by
 obtain⟨v,_,h⟩:=h.at j hj;exact h
theorem CmB.set {w:World}{cb:Nat}{what:Int}{at_:Nat}{tx:Value}{all print:Bool}{nth:Int} (h:CmB w cb what at_ tx all print nth) (j:Nat) (v:Value) {what':Int}{at':Nat}{tx':Value}{all' print':Bool}{nth':Int}
 (e9:(if j=9 then v else .int .i64 what)=.int .i64 what') (JV:(if j=10 then v else .int .i64 (at_:Int))=.int .i64 (at':Int)) (Gs:(if j=11 then v else tx)=tx') (CK:(if j=15 then v else .bool all)=.bool all') (TK:(if j=16 then v else .bool print)=.bool print') (TL:(if j=17 then v else .int .i64 nth)=.int .i64 nth'):
 CmB (w.setCell ⟨cb,j,none⟩ v) cb what' at' tx' all' print' nth':=by
 obtain⟨vs,h0,h1,a,b,c,d,e,f⟩:=h.cells
 have key:∀(k:Nat) (x y:Value),k<22→vs[k]? =some x→(if j=k then v else x)=y→(vs.set j v)[k]? =some y:=by
  intro k x y hk hx hy;rw[List.getElem?_set];by_cases jt:j=k
  ·rw[if_pos jt] at hy ⊢
   rw[if_pos (by omega),hy]
  ·rw[if_neg jt] at hy ⊢
   rw[hx,hy]
 exact⟨h.typ.set,⟨vs.set j v,by simpa using h0,h1.set j v,key 9 _ _ (by decide) a e9,key 10 _ _ (by decide) b JV,key 11 _ _ (by decide) c Gs,key 15 _ _ (by decide) d CK,key 16 _ _ (by decide) e TK,key 17 _ _ (by decide) f TL⟩⟩
theorem Scn.cmdSet {g:SG}{w w1:World}{s:SS}{cb:Nat} (h:Scn g w s) (fF:cb≠g.x) (cR:g.L≠ []→cb≠g.lb) (jT:cb≠g.pb) (o:ae (fun _=>False) w w1) (j:Nat) (v:Value):Scn g (w1.setCell ⟨cb,j,none⟩ v) s:=
 (h.keeps o id (fun _=>id) id).keeps (af _ _ _ _) fF.symm (fun e=>(cR e).symm) jT.symm
theorem ee {g:SG}{w wr w1:World}{cb:Nat} (h:ae (·=g.x) w wr) (o:ae (fun _=>False) wr w1) (j:Nat) (v:Value):ae (fun b=>b=g.x∨b=cb) w (w1.setCell ⟨cb,j,none⟩ v):=
 (h.trans o (fun _ e=>e) (fun _ _ e=>e.elim):ae (·=g.x) w w1).trans (af _ _ _ _) (fun _ e=>Or.inl e) (fun _ _ e=>Or.inr e)
theorem Rf.line_go {L:List Int}{s:SS} (h1:¬Rf.now L s<0) (h2:Rf.now L s≠10):Rf.line L s=Rf.line L {s with i:=s.i+1}:=by
 have he:=Rf.now_e h1;unfold Rf.now at h1 h2;rw[if_pos he] at h1 h2;unfold Rf.line;simp only[if_pos he];have hl:s.i<L.length:=Adz.lt_of_peek (by omega);unfold Adz.lineOf;rw[Adz.drop_peek hl,List.takeWhile_cons,if_pos (by simpa using h2),List.length_cons];congr 1;omega
theorem Rf.line_stop {L:List Int}{s:SS} (hg:∀j,j<L.length→0≤Adz.peek L j) (h:Rf.now L s<0∨Rf.now L s=10):Rf.line L s=s:=by
 unfold Rf.line;by_cases he:s.e=0
 ·rw[if_pos he]
  unfold Rf.now at h;rw[if_pos he] at h
  have:Adz.lineOf L s.i= []:=by
   unfold Adz.lineOf;by_cases hl:s.i<L.length
   ·have:=hg _ hl
    have dQ:Adz.peek L s.i=10:=by omega
    rw[Adz.drop_peek hl,List.takeWhile_cons,if_neg (by rw[dQ];decide)]
   ·rw[List.drop_of_length_le (by omega)]
    rfl
  rw[this]
  rfl
 ·rw[if_neg he]
theorem vq (g:SG) (w:World) (s:SS) (h:Scn g w s) (cb:Nat) (what:Int) (at_:Nat) (tx:Value) (all print:Bool) (nth:Int) (hc:CmB w cb what at_ tx all print nth) (fF:cb≠g.x) (cR:g.L≠ []→cb≠g.lb) (jT:cb≠g.pb):
 Calls Tryz.prog 108 #[.pointer (some ⟨g.x,0,none⟩),.pointer (some ⟨cb,0,none⟩)] w fun e w'=>e=.returned (.tuple #[])∧Scn g w' (Rf.text g.L g.pl s)∧ae (fun b=>b=g.x∨b=cb) w w':=by
 have hle:=h.le;have dy:=h.small;have dK:=az g w s h;obtain⟨s2,fm⟩:∃s2,(if Rf.now g.L s=32∨Rf.now g.L s=9 then {(if 0≤Rf.now g.L s∧Rf.now g.L s≠32∧Rf.now g.L s≠9∧Rf.now g.L s≠10 then Rf.no g.pl s 3 s.i else s) with i:=(if 0≤Rf.now g.L s∧Rf.now g.L s≠32∧Rf.now g.L s≠9∧Rf.now g.L s≠10 then Rf.no g.pl s 3 s.i else s).i+1} else (if 0≤Rf.now g.L s∧Rf.now g.L s≠32∧Rf.now g.L s≠9∧Rf.now g.L s≠10 then Rf.no g.pl s 3 s.i else s))=s2:=⟨_,rfl⟩;have hT:Rf.text g.L g.pl s=Rf.line g.L s2:=by rw[←fm];rfl
 rw[hT];obtain⟨T,j6⟩:∃T,Rf.line g.L s2=T:=⟨_,rfl⟩;rw[j6];have HT:Hid _:=j6;clear hT j6;obtain⟨la,pc,k1,k2⟩:=h.cells;have c2:=(k1 2 _ rfl).1;have f2:=(k1 2 _ rfl).2;clear k1 k2;have JB:Hid ((¬Rf.now g.L s<0)→s.i<g.L.length):=fun e=>(cr h e).2.1;have iQ:Rf.now g.L s=32∨Rf.now g.L s=9∨(0≤Rf.now g.L s∧Rf.now g.L s≠32∧Rf.now g.L s≠9∧Rf.now g.L s≠10)∨Rf.now g.L s<0∨Rf.now g.L s=10:=by omega
 have JB:Hid ((¬Rf.now g.L s<0)→s.i<g.L.length):=fun e=>(cr h e).2.1;have iQ:Rf.now g.L s=32∨Rf.now g.L s=9∨(0≤Rf.now g.L s∧Rf.now g.L s≠32∧Rf.now g.L s≠9∧Rf.now g.L s≠10)∨Rf.now g.L s<0∨Rf.now g.L s=10:=by omega
 go_enter Tryz.func108,Tryz.ntmps108;go_wp2_with fail;refine dK.mono ?_;rintro e w1 ⟨rfl,n1,rfl⟩
 rcases iQ with hr | hr | hr | hr | hr
 all_goals first
  | (have aw:s.i<g.L.length:=JB.out (by omega)
     have e2:s2= {s with i:=s.i+1}:=by
      rw[←fm];simp only[hr]
      rfl
     have bZ:=(h.drewN n1).step aw;have oz:ae (·=g.x) w ((w.drewN n1).setCell ⟨g.x,2,none⟩ (.int .i64 ((s.i:Int)+1))):=((ae.refl (·=g.x) w).drewN n1).trans bZ.2 (fun _ e=>e) (fun _ _ e=>e);have hz:Scn g ((w.drewN n1).setCell ⟨g.x,2,none⟩ (.int .i64 ((s.i:Int)+1))) s2:=by rw[e2];exact bZ.1
     rw[hr];have CS:=hc.keeps oz fF;clear hr fm bZ e2 dK aw JB;go_upto_region 5 with (fail)
     generalize (w.drewN n1).setCell ⟨g.x,2,none⟩ (.int .i64 ((s.i:Int)+1))=wz at*)
  | (obtain⟨r0,r1,r2,r3⟩:=hr
     have e2:s2=Rf.no g.pl s 3 s.i:=by
      rw[←fm,if_neg (by omega),if_pos ⟨r0,r1,r2,r3⟩]
     have eO:=aB g (w.drewN n1) s (h.drewN n1) 3 s.i hle;rw[←e2] at eO;have b1:(Rf.now g.L s==32)=false:=by simpa using r1
     have b2:(Rf.now g.L s==9)=false:=by simpa using r2
     have b3:(Rf.now g.L s==10)=false:=by simpa using r3
     have Df:(Rf.now g.L s !=32)=true:=by unfold bne;rw[b1];rfl
     have Dg:(Rf.now g.L s !=9)=true:=by unfold bne;rw[b2];rfl
     have AL:(Rf.now g.L s !=10)=true:=by unfold bne;rw[b3];rfl
     clear fm e2 r1 r2 r3 dK JB;generalize Rf.now g.L s=rr at*
     go_wp2_with fail;refine eO.mono ?_;rintro e wz ⟨rfl,hz,o2⟩;have oz:ae (·=g.x) w wz:=((ae.refl (·=g.x) w).drewN n1).trans o2 (fun _ e=>e) (fun _ _ e=>e);have CS:=hc.keeps oz fF;clear eO o2;go_upto_region 5 with (fail)
     clear b1 b2 b3 Df Dg AL)
  | (have e2:s2=s:=by
      rw[←fm,if_neg (by omega),if_neg (by omega)]
     have oz:ae (·=g.x) w (w.drewN n1):=(ae.refl (·=g.x) w).drewN n1;have hz:Scn g (w.drewN n1) s2:=by rw[e2];exact h.drewN n1
     have CS:=hc.keeps oz fF;have b1:(Rf.now g.L s==32)=false:=by simp;omega
     have b2:(Rf.now g.L s==9)=false:=by simp;omega
     first
      | (have b3:(Rf.now g.L s==10)=true:=by rw[hr];rfl
         have AL:(Rf.now g.L s !=10)=false:=by unfold bne;rw[b3];rfl
         rw[hr])
      | skip
     clear fm e2 dK JB
     try generalize Rf.now g.L s=rr at*
     go_upto_region 5 with (fail)
     clear b1 b2;generalize w.drewN n1=wz at*)
 all_goals
  have ON:=hz.le;obtain⟨la,pc,k1,k2⟩:=hz.cells;have TB:=(k1 2 _ rfl).1;clear k1 k2 c2 f2;go_wp2_with fail;clear TB
  go_loopg [] (g.L.length - s2.i) (fun k wr=>∃sj:SS,k+sj.i=g.L.length∧Hid (s2.i≤sj.i∧Rf.line g.L sj=T)∧Hid (Scn g wr sj)∧Hid (ae (·=g.x) w wr)∧Hid (CmB wr cb what at_ tx all print nth))
  case atStart=>exact ⟨s2,by omega,⟨Nat.le_refl _,HT.out⟩,hz,oz,CS⟩
  case round=>
   obtain⟨sj,hk,hS,hC,hO,hM⟩:=hrel;have aU:Scn g wr sj:=hC;have bQ:ae (·=g.x) w wr:=hO;have fN:CmB wr cb what at_ tx all print nth:=hM;have HK:Hid _:=hk;clear hC hO hk hM hz oz CS;obtain⟨la,pc,k1,k2⟩:=aU.cells;have QA:=(k1 2 _ rfl).1;have Wf:=(k1 2 _ rfl).2;clear k1 k2;have gU:=aU.le;have BA:=aU.good;have kE:=az g wr sj aU;have pf:=fun n=>az g (wr.drewN n) sj (aU.drewN n);have HJ:Hid (s2.i≤sj.i):=hS.out.1;by_cases BC:¬Rf.now g.L sj<0∧Rf.now g.L sj≠10
   ·have aw:=(cr aU BC.1).2.1
    have fy:=hS.out.2;rw[Rf.line_go BC.1 BC.2] at fy;have CH:Hid _:=fy;have HF:Hid _:=fun n=>(aU.drewN n).step aw;have r0:0≤Rf.now g.L sj:=by omega
    have b3:(Rf.now g.L sj==10)=false:=by simpa using BC.2
    have AL:(Rf.now g.L sj !=10)=true:=by unfold bne;rw[b3];rfl
    have HM:Hid _:=fN;clear BC fy hS HT fN BA;generalize Rf.now g.L sj=r at*
    have HW:Hid _:=pf;clear pf;go_wp2_with fail;refine kE.mono ?_;rintro e w1 ⟨rfl,n1,rfl⟩;go_wp2_with fail;refine(HW.out n1).mono ?_;rintro e w2 ⟨rfl,n2,rfl⟩;go_wp2;go_roundg (gk - 1)
    case measure=>have:=HK.out;omega
    case rel=>exact ⟨{sj with i:=sj.i+1},by have:=HK.out;show gk - 1+(sj.i+1)=_;omega,⟨by have:=HJ.out;show s2.i≤sj.i+1;omega,CH.out⟩,(HF.out _).1,(bQ.drewN _).trans (HF.out _).2 (fun _ e=>e) (fun _ _ e=>e),(HM.out.drewN _).keeps (HF.out _).2 fF⟩
   ·have bZ:Rf.now g.L sj<0∨Rf.now g.L sj=10:=by omega
    have fy:=hS.out.2;rw[Rf.line_stop BA bZ] at fy;subst fy;clear BC hS HT BA
    rcases bZ with hr | hr
    ·generalize Rf.now g.L sj=r at*
     have IN:(g.L= [])∨(g.L≠ []∧g.lc=s2.i)∨(g.L≠ []∧¬g.lc=s2.i):=by
      by_cases e1:g.L= []
      ·exact Or.inl e1
      ·by_cases e2:g.lc=s2.i
       ·exact Or.inr (Or.inl ⟨e1,e2⟩)
       ·exact Or.inr (Or.inr ⟨e1,e2⟩)
     obtain⟨LB,LP,q1,q2⟩:=aU.cells;have d0:=(q1 0 _ rfl).1;have RB:=aU.cap;have so:=aU.cap0;have wP:(s2.i:Int)≤(sj.i:Int):=by have:=HJ.out;omega
     have ct:(sj.i:Int)≤(g.lc:Int):=by omega
     obtain⟨tv,t1⟩:=fN.at 11 (by decide);have t2:=t1.2;have t1:=t1.1;have HO:Hid _:=bQ;have AH:Hid _:=aU;clear fN
     rcases IN with hL |⟨hL,DR⟩ |⟨hL,DR⟩
     ·have iS:=q2.1 hL
      subst iS;have e2:sj.i=0:=by rw[hL] at gU;simpa using gU
      have e3:g.L.length=0:=by rw[hL];rfl
      have e4:g.lc=0:=so hL;have e1:s2.i=0:=by omega
      clear q1 q2 so;rw[e2] at QA;rw[e3,e4] at d0;go_wp2_with fail;refine kE.mono ?_;rintro e w1 ⟨rfl,n1,rfl⟩;go_wp2_with fail
      go_region
      go_wp2;go_end0;refine⟨rfl,Scn.cmdSet AH.out fF cR jT ?_ _ _,ee HO.out ?_ _ _⟩
      all_goals first
       | exact(ae.refl _ _).drewN _
       | exact((ae.refl _ _).drewN _).drew
       | exact(((ae.refl _ _).drewN _).drewN _).drew
       | exact((ae.refl _ _).drewN _).drewN _
     ·have iS:=q2.2 hL
      subst iS;clear q1 q2 so;go_wp2_with fail;refine kE.mono ?_;rintro e w1 ⟨rfl,n1,rfl⟩;go_wp2_with fail
      go_region
      go_wp2;go_end0;refine⟨rfl,Scn.cmdSet AH.out fF cR jT ?_ _ _,ee HO.out ?_ _ _⟩
      all_goals first
       | exact(ae.refl _ _).drewN _
       | exact((ae.refl _ _).drewN _).drew
       | exact(((ae.refl _ _).drewN _).drewN _).drew
       | exact((ae.refl _ _).drewN _).drewN _
     ·have iS:=q2.2 hL
      subst iS;clear q1 q2 so;go_wp2_with fail;refine kE.mono ?_;rintro e w1 ⟨rfl,n1,rfl⟩;go_wp2_with fail
      go_region
      go_wp2;go_end0;refine⟨rfl,Scn.cmdSet AH.out fF cR jT ?_ _ _,ee HO.out ?_ _ _⟩
      all_goals first
       | exact(ae.refl _ _).drewN _
       | exact((ae.refl _ _).drewN _).drew
       | exact(((ae.refl _ _).drewN _).drewN _).drew
       | exact((ae.refl _ _).drewN _).drewN _
    ·rw[hr] at kE pf
     have HW:Hid _:=pf;clear pf hr
     have IN:(g.L= [])∨(g.L≠ []∧g.lc=s2.i)∨(g.L≠ []∧¬g.lc=s2.i):=by
      by_cases e1:g.L= []
      ·exact Or.inl e1
      ·by_cases e2:g.lc=s2.i
       ·exact Or.inr (Or.inl ⟨e1,e2⟩)
       ·exact Or.inr (Or.inr ⟨e1,e2⟩)
     obtain⟨LB,LP,q1,q2⟩:=aU.cells;have d0:=(q1 0 _ rfl).1;have RB:=aU.cap;have so:=aU.cap0;have wP:(s2.i:Int)≤(sj.i:Int):=by have:=HJ.out;omega
     have ct:(sj.i:Int)≤(g.lc:Int):=by omega
     obtain⟨tv,t1⟩:=fN.at 11 (by decide);have t2:=t1.2;have t1:=t1.1;have HO:Hid _:=bQ;have AH:Hid _:=aU;clear fN
     rcases IN with hL |⟨hL,DR⟩ |⟨hL,DR⟩
     ·have iS:=q2.1 hL
      subst iS;have e2:sj.i=0:=by rw[hL] at gU;simpa using gU
      have e3:g.L.length=0:=by rw[hL];rfl
      have e4:g.lc=0:=so hL;have e1:s2.i=0:=by omega
      clear q1 q2 so;rw[e2] at QA;rw[e3,e4] at d0;go_wp2_with fail;refine kE.mono ?_;rintro e w1 ⟨rfl,n1,rfl⟩;go_wp2_with fail;refine(HW.out n1).mono ?_;rintro e w1 ⟨rfl,n2,rfl⟩;go_wp2_with fail
      go_region
      go_wp2;go_end0;refine⟨rfl,Scn.cmdSet AH.out fF cR jT ?_ _ _,ee HO.out ?_ _ _⟩
      all_goals first
       | exact(ae.refl _ _).drewN _
       | exact((ae.refl _ _).drewN _).drew
       | exact(((ae.refl _ _).drewN _).drewN _).drew
       | exact((ae.refl _ _).drewN _).drewN _
     ·have iS:=q2.2 hL
      subst iS;clear q1 q2 so;go_wp2_with fail;refine kE.mono ?_;rintro e w1 ⟨rfl,n1,rfl⟩;go_wp2_with fail;refine(HW.out n1).mono ?_;rintro e w1 ⟨rfl,n2,rfl⟩;go_wp2_with fail
      go_region
      go_wp2;go_end0;refine⟨rfl,Scn.cmdSet AH.out fF cR jT ?_ _ _,ee HO.out ?_ _ _⟩
      all_goals first
       | exact(ae.refl _ _).drewN _
       | exact((ae.refl _ _).drewN _).drew
       | exact(((ae.refl _ _).drewN _).drewN _).drew
       | exact((ae.refl _ _).drewN _).drewN _
     ·have iS:=q2.2 hL
      subst iS;clear q1 q2 so;go_wp2_with fail;refine kE.mono ?_;rintro e w1 ⟨rfl,n1,rfl⟩;go_wp2_with fail;refine(HW.out n1).mono ?_;rintro e w1 ⟨rfl,n2,rfl⟩;go_wp2_with fail
      go_region
      go_wp2;go_end0;refine⟨rfl,Scn.cmdSet AH.out fF cR jT ?_ _ _,ee HO.out ?_ _ _⟩
      all_goals first
       | exact(ae.refl _ _).drewN _
       | exact((ae.refl _ _).drewN _).drew
       | exact(((ae.refl _ _).drewN _).drewN _).drew
       | exact((ae.refl _ _).drewN _).drewN _
theorem xN {g:SG}{w wr:World}{s:SS}{cb:Nat}{what:Int}{at_:Nat}{tx:Value}{a p:Bool}{nth:Int} (hs:Scn g wr s) (fF:cb≠g.x) (cR:g.L≠ []→cb≠g.lb) (jT:cb≠g.pb) (o:ae (fun b=>b=g.x∨b=cb) w wr) (n:Nat) (aw:s.i<g.L.length) (j:Nat) (v:Value) (hc:CmB ((wr.drewN n).setCell ⟨cb,j,none⟩ v) cb what at_ tx a p nth):
 Scn g (((wr.drewN n).setCell ⟨cb,j,none⟩ v).setCell ⟨g.x,2,none⟩ (.int .i64 ((s.i:Int)+1))) {s with i:=s.i+1}∧CmB (((wr.drewN n).setCell ⟨cb,j,none⟩ v).setCell ⟨g.x,2,none⟩ (.int .i64 ((s.i:Int)+1))) cb what at_ tx a p nth∧ae (fun b=>b=g.x∨b=cb) w (((wr.drewN n).setCell ⟨cb,j,none⟩ v).setCell ⟨g.x,2,none⟩ (.int .i64 ((s.i:Int)+1))):=by
 have h1:Scn g ((wr.drewN n).setCell ⟨cb,j,none⟩ v) s:=hs.cmdSet fF cR jT ((ae.refl _ _).drewN n) j v;exact⟨(h1.step aw).1,hc.keeps (af _ _ _ _) fF,((o.drewN n).trans (af _ cb j v) (fun _ e=>e) (fun _ _ e=>Or.inr e)).trans (af _ g.x 2 _) (fun _ e=>e) (fun _ _ e=>Or.inl e)⟩
theorem sW (g:SG) (w:World) (s:SS) (h:Scn g w s) (cb:Nat) (what:Int) (at_:Nat) (tx:Value) (hc:CmB w cb what at_ tx false false 0) (fF:cb≠g.x) (cR:g.L≠ []→cb≠g.lb) (jT:cb≠g.pb):
 Calls Tryz.prog 112 #[.pointer (some ⟨g.x,0,none⟩),.pointer (some ⟨cb,0,none⟩)] w fun e w'=>e=.returned (.tuple #[])∧Scn g w' (Rf.flags g.L g.pl (g.L.length+1) ⟨s,false,false,0⟩).s∧ae (fun b=>b=g.x∨b=cb) w w'∧∃a p n,CmB w' cb what at_ tx a p n:=by
 have eN:=h.le;have dy:=h.small;obtain⟨T,hT⟩:∃T,Rf.flags g.L g.pl (g.L.length+1) ⟨s,false,false,0⟩=T:=⟨_,rfl⟩;rw[hT];have HT:Hid _:=hT;clear hT;go_enter Tryz.func112,Tryz.ntmps112;go_wp2_with fail
 go_loopg [] (g.L.length+1) (fun k wr=>∃(f:Rf.FgS) (m:Nat),Hid (Scn g wr f.s)∧Hid (CmB wr cb what at_ tx f.all f.print f.nth)∧Hid (ae (fun b=>b=g.x∨b=cb) w wr)∧Hid ((f.s.e=0→g.L.length<m+f.s.i∧g.L.length+1≤f.s.i+k)∧Rf.flags g.L g.pl m f=T))
 case atStart=>exact ⟨⟨s,false,false,0⟩,g.L.length+1,h,hc,ae.refl _ _,⟨fun e=>⟨by show g.L.length<g.L.length+1+s.i;omega,by show g.L.length+1≤s.i+(g.L.length+1);omega⟩,HT.out⟩⟩
 case round=>
  obtain⟨f,m,HS,HC,HO,HI⟩:=hrel;have cU:=HS.out;have fN:=HC.out;obtain⟨lD,au⟩:=HI.out;obtain⟨la,pc,k1,k2⟩:=cU.cells;have ce:=(k1 3 _ rfl).1;have c2:=(k1 2 _ rfl).1;have f2:=(k1 2 _ rfl).2;obtain⟨_,_,_,P9,Qa,Sx⟩:=fN.known;have VW:=fN.free 15 (by decide);have VX:=fN.free 16 (by decide);have VY:=fN.free 17 (by decide);clear k1 k2 HI HT;by_cases he:f.s.e=0
  ·obtain⟨wO,vN⟩:=lD he
   have gU:=cU.le;obtain⟨m,rfl⟩:∃m',m=m'+1:=⟨m - 1,by omega⟩;unfold Rf.flags at au;rw[if_pos he] at au;have b0:(f.s.e==0)=true:=by simpa using he
   have HQ:Hid (1≤gk∧g.L.length<m+1+f.s.i∧g.L.length+1≤f.s.i+gk):=⟨by omega,wO,vN⟩;have du:=bR g wr f.s cU;have dK:=fun n=>az g (wr.drewN n) f.s (cU.drewN n);clear lD wO vN he;by_cases qo:Rf.now g.L f.s=103∧f.all=false
   ·rw[if_pos qo] at au
    have bG:Hid _:=au;have aw:=(cr cU (by omega)).2.1;have qu:Adz.isDigit (Rf.now g.L f.s)=false:=by rw[qo.1];decide
    rw[qu] at du;simp only[qo.1] at dK;rw[qo.2] at P9;have HN:Hid _:=dK;clear dK au qo qu cU fN;go_wp2_with fail;refine du.mono ?_;rintro e w1 ⟨rfl,n1,rfl⟩;go_wp2_with fail;refine(HN.out n1).mono ?_;rintro e w2 ⟨rfl,n2,rfl⟩;go_wp2;have hq:=xN HS.out fF cR jT HO.out (n1+n2) aw 15 (.bool true) ((HC.out.drewN (n1+n2)).set 15 (.bool true) rfl rfl rfl rfl rfl rfl);go_roundg (gk - 1)
    case measure=>have:=HQ.out.1;omega
    case rel=>exact ⟨{f with all:=true,s:= {f.s with i:=f.s.i+1}},m,hq.1,hq.2.1,hq.2.2,⟨fun e=>by have:=HQ.out;exact⟨by show g.L.length<m+(f.s.i+1);omega,by show g.L.length+1≤f.s.i+1+(gk - 1);omega⟩,bG.out⟩⟩
   ·rw[if_neg qo] at au
    by_cases rW:Rf.now g.L f.s=112∧f.print=false
    ·rw[if_pos rW] at au
     have bG:Hid _:=au;have aw:=(cr cU (by omega)).2.1;have qu:Adz.isDigit (Rf.now g.L f.s)=false:=by rw[rW.1];decide
     rw[qu] at du;simp only[rW.1] at dK;rw[rW.2] at Qa;have HN:Hid _:=dK;clear dK au qo rW qu cU fN;go_wp2_with fail;refine du.mono ?_;rintro e w1 ⟨rfl,n1,rfl⟩;go_wp2_with fail;refine(HN.out n1).mono ?_;rintro e w2 ⟨rfl,n2,rfl⟩;go_wp2_with fail;refine(HN.out _).mono ?_;rintro e w3 ⟨rfl,n3,rfl⟩;go_wp2;have hq:=xN HS.out fF cR jT HO.out (n1+n2+n3) aw 16 (.bool true) ((HC.out.drewN (n1+n2+n3)).set 16 (.bool true) rfl rfl rfl rfl rfl rfl);go_roundg (gk - 1)
     case measure=>have:=HQ.out.1;omega
     case rel=>exact ⟨{f with print:=true,s:= {f.s with i:=f.s.i+1}},m,hq.1,hq.2.1,hq.2.2,⟨fun e=>by have:=HQ.out;exact⟨by show g.L.length<m+(f.s.i+1);omega,by show g.L.length+1≤f.s.i+1+(gk - 1);omega⟩,bG.out⟩⟩
    ·rw[if_neg rW] at au
     by_cases hd:Adz.isDigit (Rf.now g.L f.s)=true∧f.nth=0
     ·rw[if_pos hd] at au
      have bG:Hid _:=au;have Hk:=Adz.digit_range hd.1;have b1:(Rf.now g.L f.s==103)=false:=by simp;omega
      have b2:(Rf.now g.L f.s==112)=false:=by simp;omega
      have GJ:Hid _:=Rf.number_adv (pl:=g.pl) hd.1;rw[hd.1] at du;rw[hd.2] at Sx;have zw:=fun n=>jP g (wr.drewN n) f.s (cU.drewN n);generalize (Rf.number g.L g.pl f.s).1=nn at*
      generalize (Rf.number g.L g.pl f.s).2=sn at*
      have HN:Hid _:=dK;have SM:Hid _:=zw;clear dK zw au qo rW hd cU fN Hk;generalize Rf.now g.L f.s=r at*
      go_wp2_with fail;refine du.mono ?_;rintro e w1 ⟨rfl,n1,rfl⟩;go_wp2_with fail;refine(HN.out n1).mono ?_;rintro e w2 ⟨rfl,n2,rfl⟩;go_wp2_with fail;refine(HN.out _).mono ?_;rintro e w3 ⟨rfl,n3,rfl⟩;go_wp2_with fail;refine(SM.out _).mono ?_;rintro e w4 ⟨rfl,h4,o4⟩;have eu:CmB w4 cb what at_ tx f.all f.print f.nth:=(HC.out.drewN _).keeps o4 fF;have VU:=eu.known.2.2.2.2.2;have VZ:=eu.free 17 (by decide);have o5:ae (fun b=>b=g.x∨b=cb) w w4:=(HO.out.drewN _).trans o4 (fun _ e=>e) (fun _ _ e=>Or.inl e);clear P9 Qa Sx VW VX VY;go_wp2;go_roundg (gk - 1)
      case measure=>have:=HQ.out.1;omega
      case rel=>exact ⟨{f with nth:=nn,s:=sn},m,h4.cmdSet fF cR jT (ae.refl _ _) 17 _,eu.set 17 (.int .i64 nn) rfl rfl rfl rfl rfl rfl,o5.trans (af _ _ _ _) (fun _ e=>e) (fun _ _ e=>Or.inr e),⟨fun e=>by have h9:f.s.i<sn.i:=(GJ.out e).2;have:=HQ.out;exact⟨by show g.L.length<m+sn.i;omega,by show g.L.length+1≤sn.i+(gk - 1);omega⟩,bG.out⟩⟩
     ·rw[if_neg hd] at au
      subst au
      have iQ:(Rf.now g.L f.s=103∧f.all=true)∨(Rf.now g.L f.s=112∧f.print=true)∨(Rf.now g.L f.s≠103∧Rf.now g.L f.s≠112∧Adz.isDigit (Rf.now g.L f.s)=true∧f.nth≠0)∨(Rf.now g.L f.s≠103∧Rf.now g.L f.s≠112∧Adz.isDigit (Rf.now g.L f.s)=false):=by
       by_cases e1:Rf.now g.L f.s=103
       ·left
        exact⟨e1,by cases hx:f.all with | true=>rfl | false=>exact absurd ⟨e1,hx⟩ qo⟩
       ·by_cases e2:Rf.now g.L f.s=112
        ·right;left
         exact⟨e2,by cases hx:f.print with | true=>rfl | false=>exact absurd ⟨e2,hx⟩ rW⟩
        ·cases e3:Adz.isDigit (Rf.now g.L f.s) with
         | false=>exact Or.inr (Or.inr (Or.inr ⟨e1,e2,rfl⟩))
         | true=>exact Or.inr (Or.inr (Or.inl ⟨e1,e2,rfl,fun e4=>hd ⟨e3,e4⟩⟩))
      clear qo rW hd
      rcases iQ with ⟨e1,e2⟩ |⟨e1,e2⟩ |⟨e1,e2,e3,e4⟩ |⟨e1,e2,e3⟩
      ·rw[show Adz.isDigit (Rf.now g.L f.s)=false by rw[e1];decide] at du
       simp only[e1] at dK;rw[e2] at P9;have HN:Hid _:=dK;clear dK e1 e2 cU fN;go_wp2_with fail;refine du.mono ?_;rintro e w1 ⟨rfl,n1,rfl⟩;go_wp2_with fail;refine(HN.out n1).mono ?_;rintro e w2 ⟨rfl,n2,rfl⟩;go_wp2_with fail;refine(HN.out _).mono ?_;rintro e w3 ⟨rfl,n3,rfl⟩;go_wp2
       (try simp only[Exit.inBlock,Exit.then])
       refine bodyPost_ret (results_none rfl _ _ _) rfl ?_;exact⟨rfl,HS.out.drewN _,HO.out.drewN _,_,_,_,HC.out.drewN _⟩
      ·rw[show Adz.isDigit (Rf.now g.L f.s)=false by rw[e1];decide] at du
       simp only[e1] at dK;rw[e2] at Qa;have HN:Hid _:=dK;clear dK e1 e2 cU fN;go_wp2_with fail;refine du.mono ?_;rintro e w1 ⟨rfl,n1,rfl⟩;go_wp2_with fail;refine(HN.out n1).mono ?_;rintro e w2 ⟨rfl,n2,rfl⟩;go_wp2_with fail;refine(HN.out _).mono ?_;rintro e w3 ⟨rfl,n3,rfl⟩;go_wp2
       (try simp only[Exit.inBlock,Exit.then])
       refine bodyPost_ret (results_none rfl _ _ _) rfl ?_;exact⟨rfl,HS.out.drewN _,HO.out.drewN _,_,_,_,HC.out.drewN _⟩
      ·rw[e3] at du
       have b1:(Rf.now g.L f.s==103)=false:=by simpa using e1
       have b2:(Rf.now g.L f.s==112)=false:=by simpa using e2
       have b4:(f.nth==0)=false:=by simpa using e4
       have HN:Hid _:=dK;clear dK e1 e2 e3 e4 cU fN;generalize Rf.now g.L f.s=r at*
       go_wp2_with fail;refine du.mono ?_;rintro e w1 ⟨rfl,n1,rfl⟩;go_wp2_with fail;refine(HN.out n1).mono ?_;rintro e w2 ⟨rfl,n2,rfl⟩;go_wp2_with fail;refine(HN.out _).mono ?_;rintro e w3 ⟨rfl,n3,rfl⟩;go_wp2
       (try simp only[Exit.inBlock,Exit.then])
       refine bodyPost_ret (results_none rfl _ _ _) rfl ?_;exact⟨rfl,HS.out.drewN _,HO.out.drewN _,_,_,_,HC.out.drewN _⟩
      ·rw[e3] at du
       have b1:(Rf.now g.L f.s==103)=false:=by simpa using e1
       have b2:(Rf.now g.L f.s==112)=false:=by simpa using e2
       have HN:Hid _:=dK;clear dK e1 e2 e3 cU fN;generalize Rf.now g.L f.s=r at*
       go_wp2_with fail;refine du.mono ?_;rintro e w1 ⟨rfl,n1,rfl⟩;go_wp2_with fail;refine(HN.out n1).mono ?_;rintro e w2 ⟨rfl,n2,rfl⟩;go_wp2_with fail;refine(HN.out _).mono ?_;rintro e w3 ⟨rfl,n3,rfl⟩;go_wp2
       (try simp only[Exit.inBlock,Exit.then])
       refine bodyPost_ret (results_none rfl _ _ _) rfl ?_;exact⟨rfl,HS.out.drewN _,HO.out.drewN _,_,_,_,HC.out.drewN _⟩
  ·have hT:=au
   rw[Rf.flags_er he] at hT;subst hT;have b0:(f.s.e==0)=false:=by simpa using he
   clear au lD he cU fN;go_wp2;go_end0;exact⟨rfl,HS.out,HO.out,_,_,_,HC.out⟩
def JN (g:SG) (w:World) (B:Nat) (labs:List (List Int)):Prop:=∃la lc vs,g.lv=.slice la labs.length lc∧w.ownsRow B 35 1 (.slice la labs.length lc) labs.length vs∧∀(i:Nat) (nm:List Int),labs[i]? =some nm→∃v:Value,vs[i]? =some v∧ff g v nm
theorem JN.keeps {S:Nat→Prop}{g:SG}{w w':World}{B:Nat}{labs:List (List Int)} (h:JN g w B labs) (o:ae S w w') (hs:∀b,g.lv.ownBlock=some b→¬S b):JN g w' B labs:=by
 obtain⟨la,lc,vs,e,h1,h2⟩:=h;exact⟨la,lc,vs,e,ag h1 o (fun b hb=>hs b (by rw[e];exact hb)),h2⟩
theorem ff.len {g:SG}{v:Value}{nm:List Int} (h:ff g v nm):nm.length≤g.L.length:=by
 obtain⟨ra,rc,e,h1⟩:=h;by_cases hn:nm= []
 ·rw[hn];simp
 ·obtain⟨o,_,h2,_⟩:=h1 hn
  omega
theorem kP (g:SG) (w:World) (s:SS) (h:Scn g w s) (B:Nat) (labs:List (List Int)) (hb:JN g w B labs) (Wz:labs.length≤1000) (nv:Value) (nm:List Int) (hn:ff g nv nm):
 Calls Tryz.prog 35 #[.pointer (some ⟨g.x,0,none⟩),nv] w fun e w'=>e=.returned (.bool (labs.contains nm))∧∃n,w'=w.drewN n:=by
 obtain⟨la,lc,vs,JX,cD,bJ⟩:=hb;have dy:=h.small;have Hb:=hn.len;obtain⟨T,hT⟩:∃T,labs.contains nm=T:=⟨_,rfl⟩;rw[hT];have HT:Hid _:=hT;clear hT;obtain⟨na,nc,rfl,_⟩:=id hn
 have c6:w.cell? ⟨g.x,6,none⟩=some (.slice la labs.length lc):=by
  obtain⟨MI,pc,k1,k2⟩:=h.cells;have:=(k1 6 _ rfl).1;rw[JX] at this;exact this
 have HA:Hid _:=bJ;clear bJ JX;go_enter Tryz.func35,Tryz.ntmps35;go_wp2_with fail
 go_loopg [5] labs.length (fun k v wr=>∃j:Nat,v=.int .i64 (j:Int)∧k+j=labs.length∧Hid (∃n,wr=w.drewN n)∧Hid (∀i,i<j→labs[i]? ≠some nm))
 case atStart=>exact ⟨0,rfl,by omega,⟨0,rfl⟩,fun i hi=>absurd hi (Nat.not_lt_zero _)⟩
 case round=>
  obtain⟨j,rfl,hk,sq,hB⟩:=hrel;have HK:Hid _:=hk;clear hk
  have Wc:wr.cell? ⟨g.x,6,none⟩=some (.slice la labs.length lc):=by
   obtain⟨n,hw⟩:=sq.out;rw[hw];exact c6
  by_cases aw:j<labs.length
  ·have d1:(j:Int)<(labs.length:Int):=by omega
   obtain⟨v,hv,fq⟩:=HA.out j _ (List.getElem?_eq_getElem aw)
   obtain⟨lb,rfl⟩:∃lb,la=some ⟨lb,0,none⟩:=by
    rcases cD.2 with ⟨e,h0⟩ |⟨gb,cap,cur,e,_⟩
    ·omega
    ·injection e with e1;exact⟨gb,e1⟩
   obtain⟨va,vc,rfl,_⟩:=id fq
   have x1:wr.cell? ⟨lb,j,none⟩=some (.slice va labs[j].length vc):=by
    obtain⟨n,hw⟩:=sq.out;rw[hw];exact(cD.cellAt j (by omega)).trans hv
   have qf:Scn g wr s:=by
    obtain⟨n,hw⟩:=sq.out;rw[hw];exact h.drewN n
   have kF:=fun n=>vp (wr.drewN n) _ _ _ _ (fq.nums (qf.drewN n)) (hn.nums (qf.drewN n)) (by have:=fq.len;omega) (by omega)
   cases heq:(labs[j]==nm) with
   | true=>
    rw[heq] at kF
    have hf:T=true:=by
     rw[←HT.out];have e1:labs[j]=nm:=eq_of_beq heq;exact List.contains_iff_mem.2 (by rw[←e1];exact List.getElem_mem aw)
    subst hf;have HS:Hid _:=kF;clear kF heq hv fq cD c6;go_wp2_with fail;refine(HS.out 0).mono ?_;rintro e w1 ⟨rfl,n1,rfl⟩;go_wp2;go_ret;exact⟨rfl,by obtain⟨n,hw⟩:=sq.out;exact⟨n+n1,by rw[hw,World.drewN_drewN]⟩⟩
   | false=>
    rw[heq] at kF
    have HX:Hid (∀i,i<j+1→labs[i]? ≠some nm):=fun i hi=>by
     by_cases e:i=j
     ·subst e
      rw[List.getElem?_eq_getElem aw];intro e2;injection e2 with e2;rw[e2] at heq;simp at heq
     ·exact hB.out i (by omega)
    have HS:Hid _:=kF;clear kF heq hv fq cD c6 hB;go_wp2_with fail;refine(HS.out 0).mono ?_;rintro e w1 ⟨rfl,n1,rfl⟩;go_wp2;go_roundg (gk - 1)
    case measure=>have:=HK.out;omega
    case rel=>exact ⟨j+1,by simp,by have:=HK.out;omega,(by obtain⟨n,hw⟩:=sq.out;exact⟨n+n1,by rw[hw,World.drewN_drewN]⟩:∃n,_=w.drewN n),HX.out⟩
  ·have d1:¬(j:Int)<(labs.length:Int):=by omega
   have hf:T=false:=by
    rw[←HT.out]
    cases hc:labs.contains nm with
    | false=>rfl
    | true=>
     obtain⟨i,hi,e⟩:=List.getElem_of_mem (List.contains_iff_mem.1 hc);exact absurd (by rw[List.getElem?_eq_getElem hi,e]) (hB.out i (by omega))
   subst hf;clear hB;go_wp2;go_ret;exact⟨rfl,sq.out⟩
end
end Go.Proofs.YtbiobhghnldckaaGreatDoor
