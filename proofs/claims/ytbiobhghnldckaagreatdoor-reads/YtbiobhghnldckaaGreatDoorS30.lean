/- Proved: goals are set, whatever labels are there; the end of a script. Conditions: the parser lies in memory as 'Par' says; every name that is asked for stands among the labels. -/
import Derived.Test.YtbiobhghnldckaaGreatDoorS29
import Derived.Lib.Strings
namespace Go.Proofs.YtbiobhghnldckaaGreatDoor
set_option linter.unusedVariables false
set_option maxRecDepth 100000
set_option maxHeartbeats 6400000
section
open Go.RowKit
attribute [local go_sem ↓] Go.wp_at_zero Go.wp_at_succ
def cw (labs:List Adz.Lab) (n:Nat) (c:Adz.Cmd):Adz.Cmd:=if (Adz.behindKind c.what).getD 0=4 then {c with goal:=if c.name.isEmpty=true then (n:Int) else (Adz.useOf labs c.name).set} else c
def eB (F:Adz.Cmd→Adz.Cmd) (cs:List Adz.Cmd) (j:Nat):List Adz.Cmd:=(cs.take j).map F++cs.drop j
theorem uV (F:Adz.Cmd→Adz.Cmd) (cs:List Adz.Cmd) (j:Nat) (hj:j≤cs.length):(eB F cs j).length=cs.length:=by
 simp[eB];omega
theorem yn (F:Adz.Cmd→Adz.Cmd) (cs:List Adz.Cmd) (j:Nat) (hj:j<cs.length) (h:j<(eB F cs j).length):(eB F cs j)[j]=cs[j]:=by
 have:(eB F cs j)[j]? =some cs[j]:=by
  unfold eB;rw[List.getElem?_append_right (by simp;omega)];simp;rw[show j - min j cs.length=0 by omega,Nat.add_zero,List.getElem?_eq_getElem hj]
 exact(List.getElem?_eq_some_iff.1 this).2
theorem jx (F:Adz.Cmd→Adz.Cmd) (cs:List Adz.Cmd) (j:Nat) (hj:j<cs.length):eB F cs (j+1)=(eB F cs j).set j (F cs[j]):=by
 unfold eB;rw[←List.take_append_getElem hj,List.map_append,List.map_cons,List.map_nil,List.append_assoc];rw[List.set_append_right _ _ (by simp;omega)];congr 1;rw[show j - ((cs.take j).map F).length=0 by simp;omega,List.drop_eq_getElem_cons hj]
 rfl
theorem zL (F:Adz.Cmd→Adz.Cmd) (cs:List Adz.Cmd) (j:Nat) (hj:j<cs.length) (h:F cs[j]=cs[j]):eB F cs (j+1)=eB F cs j:=by
 have hl:=uV F cs j (by omega);rw[jx F cs j hj,h];have:=yn F cs j hj (by omega);rw[←this,List.set_getElem_self]
theorem th {g:CG}{pp base:Nat}{w:World}{s:Adz.Ps} (h:Par g pp base w s) (hk:∀c∈s.cmds,(Adz.behindKind c.what).getD 0=4→c.name= []∨∃x,s.labs.find? (fun x=>x.name==c.name)=some x):
 Calls Tryz.prog 80 #[.pointer (some ⟨pp,0,none⟩)] w fun e w'=>e=.returned (.tuple #[])∧Par g pp base w' {s with cmds:=s.cmds.map (cw s.labs s.cmds.length)}∧ae (fun b=>base≤b) w w':=by
 obtain⟨qv,xs,c1,c2,c3⟩:=h.cmds;obtain⟨mb,m1,m2⟩:=h.map;obtain⟨qa,qc,rfl⟩:=ak c2;have jV:=h.few;have hle:=h.cur.le;have dy:=h.cur.small;have HK:Hid _:=hk;clear hk;go_enter Tryz.func80,Tryz.ntmps80;go_wp2_with fail;clear c1 c2 c3 m1 m2
 go_loopg [9] s.cmds.length (fun k v wr=>∃j:Nat,v=.int .i64 j∧j≤s.cmds.length∧Hid (j+k=s.cmds.length∧Par g pp base wr {s with cmds:=eB (cw s.labs s.cmds.length) s.cmds j}∧ae (fun b=>base≤b) w wr))
 case atStart=>exact ⟨0,rfl,by omega,⟨by omega,h,ae.refl _ _⟩⟩
 case round=>
  obtain⟨j,rfl,mi,H0⟩:=hrel;have HJ:Hid _:=H0.out.1;have H:Hid _:=H0.out.2;clear H0;by_cases aw:j<s.cmds.length
  ·have hP:=H.out.1
   have DS:=uV (cw s.labs s.cmds.length) s.cmds j mi;have yd:=yn (cw s.labs s.cmds.length) s.cmds j aw (by omega);obtain⟨qv,xs,c1,c2,c3⟩:=hP.cmds;obtain⟨mb,m1,m2⟩:=hP.map;obtain⟨qa,qc,rfl⟩:=ak c2
   obtain⟨qb,rfl⟩:∃qb,qa=some ⟨qb,0,none⟩:=by
    rcases c2.2 with ⟨e,h0⟩ |⟨gb,cap,cur,e,_⟩
    ·have:(eB (cw s.labs s.cmds.length) s.cmds j).length=0:=h0
     omega
    ·injection e with e1;exact⟨gb,e1⟩
   simp only at c1 c2 c3
   have hw:wr.cell? ⟨qb,j*14,none⟩=some (.int .i32 (s.cmds[j]).what):=by
    rw[c2.cellAt (j*14) (by omega),l9 c3 j (by omega),yd]
   rw[DS] at c1;by_cases h4:(Adz.behindKind (s.cmds[j]).what).getD 0=4
   ·rcases HK.out s.cmds[j] (List.getElem_mem _) h4 with jU | GU
    ·skip
     have Fy:cw s.labs s.cmds.length s.cmds[j]= {s.cmds[j] with goal:=(s.cmds.length:Int)}:=by
      unfold cw;rw[if_pos h4,if_pos (by simp[jU])]
     have cU:=jx (cw s.labs s.cmds.length) s.cmds j aw
     have kD:∀m,(Instr.lookup 115 (.map (some mb)) (.int .i32 (s.cmds[j]).what) false).run Tryz.prog (wr.drewN m)=.ok (.int .i64 4) (wr.drewN m):=fun m=>by
      rw[←h4];exact bj (wr.drewN m) mb _ m2
     have fC:wr.cell? ⟨qb,j*14+5,none⟩=some (.int .i64 (s.cmds[j]).goal):=by
      obtain⟨_,_,_,_,_,e⟩:=dX 5 (by omega) c3 j (by omega);rw[c2.cellAt (j*14+5) (by omega),e,yd]
      rfl
     have DU:wr.cell? ⟨qb,j*14+4,none⟩=some (.string ⟨#[]⟩):=by
      obtain⟨_,_,_,_,_,e⟩:=dX 4 (by omega) c3 j (by omega);rw[c2.cellAt (j*14+4) (by omega),e,yd];show some (Value.string ⟨(s.cmds[j]).name.toArray⟩)=_;rw[jU]
     have Bx:=oj c2 (j*14+5)
     have mX:(eB (cw s.labs s.cmds.length) s.cmds j).set j {(eB (cw s.labs s.cmds.length) s.cmds j)[j]'(by omega) with goal:=(s.cmds.length:Int)}=eB (cw s.labs s.cmds.length) s.cmds (j+1):=by
      rw[cU,Fy,yd]
     have cu:Hid _:=mX;have AG:Hid _:=DS;have Fm:=fun m=>(hP.moved (hP.cur.drewN m) ((ae.refl _ wr).drewN m) (Nat.le_refl _):Par g pp base (wr.drewN m) {s with cmds:=eB (cw s.labs s.cmds.length) s.cmds j});have E6:Hid _:=Fm;have dj:(j:Int)<(s.cmds.length:Int):=by omega
     generalize (s.cmds[j]).what=wh at*
     generalize (s.cmds[j]).goal=g0 at*
     clear c2 c3 jU Fy cU mX yd Fm h4;go_wp2_with fail
     go_quiet (fail)
     go_wp2_with fail;have DD:=E6.out nq;obtain⟨CQ,o2,I9⟩:=DD.goaled (qb:=qb) (qc:=qc) (by rw[AG.out];exact c1) j (by rw[AG.out];exact aw) (s.cmds.length:Int)
     have R9:((wr.drewN nq).setCell ⟨qb,j*14+5,none⟩ (.int .i64 (s.cmds.length:Int))).cell? ⟨qb,j*14+4,none⟩=some (.string ⟨#[]⟩):=by
      rw[World.cell?_setCell_other _ _ _ _ (by simp)];exact DU
     have oa:ae (fun b=>base≤b) w ((wr.drewN nq).setCell ⟨qb,j*14+5,none⟩ (.int .i64 (s.cmds.length:Int))):=(H.out.2.drewN nq).trans o2 (fun _ e=>e) (fun _ _ e=>e);have IF:Hid _:=CQ;clear CQ c1 DU fC Bx kD hw m1 m2 hP E6 H o2 DD;generalize (wr.drewN nq).setCell ⟨qb,j*14+5,none⟩ (.int .i64 (s.cmds.length:Int))=w2 at*
     go_wp2;go_roundg (gk - 1)
     case measure=>have:=HJ.out;omega
     case rel=>
      refine⟨j+1,by go_num,by omega,⟨by have:=HJ.out;omega,?_,oa⟩⟩;rw[←cu.out];exact IF.out
    ·by_cases jU:(s.cmds[j]).name= []
     ·skip
      have Fy:cw s.labs s.cmds.length s.cmds[j]= {s.cmds[j] with goal:=(s.cmds.length:Int)}:=by
       unfold cw;rw[if_pos h4,if_pos (by simp[jU])]
      have cU:=jx (cw s.labs s.cmds.length) s.cmds j aw
      have kD:∀m,(Instr.lookup 115 (.map (some mb)) (.int .i32 (s.cmds[j]).what) false).run Tryz.prog (wr.drewN m)=.ok (.int .i64 4) (wr.drewN m):=fun m=>by
       rw[←h4];exact bj (wr.drewN m) mb _ m2
      have fC:wr.cell? ⟨qb,j*14+5,none⟩=some (.int .i64 (s.cmds[j]).goal):=by
       obtain⟨_,_,_,_,_,e⟩:=dX 5 (by omega) c3 j (by omega);rw[c2.cellAt (j*14+5) (by omega),e,yd]
       rfl
      have DU:wr.cell? ⟨qb,j*14+4,none⟩=some (.string ⟨#[]⟩):=by
       obtain⟨_,_,_,_,_,e⟩:=dX 4 (by omega) c3 j (by omega);rw[c2.cellAt (j*14+4) (by omega),e,yd];show some (Value.string ⟨(s.cmds[j]).name.toArray⟩)=_;rw[jU]
      have Bx:=oj c2 (j*14+5)
      have mX:(eB (cw s.labs s.cmds.length) s.cmds j).set j {(eB (cw s.labs s.cmds.length) s.cmds j)[j]'(by omega) with goal:=(s.cmds.length:Int)}=eB (cw s.labs s.cmds.length) s.cmds (j+1):=by
       rw[cU,Fy,yd]
      have cu:Hid _:=mX;have AG:Hid _:=DS;have Fm:=fun m=>(hP.moved (hP.cur.drewN m) ((ae.refl _ wr).drewN m) (Nat.le_refl _):Par g pp base (wr.drewN m) {s with cmds:=eB (cw s.labs s.cmds.length) s.cmds j});have E6:Hid _:=Fm;have dj:(j:Int)<(s.cmds.length:Int):=by omega
      generalize (s.cmds[j]).what=wh at*
      generalize (s.cmds[j]).goal=g0 at*
      clear c2 c3 jU Fy cU mX yd Fm h4;go_wp2_with fail
      go_quiet (fail)
      go_wp2_with fail;have DD:=E6.out nq;obtain⟨CQ,o2,I9⟩:=DD.goaled (qb:=qb) (qc:=qc) (by rw[AG.out];exact c1) j (by rw[AG.out];exact aw) (s.cmds.length:Int)
      have R9:((wr.drewN nq).setCell ⟨qb,j*14+5,none⟩ (.int .i64 (s.cmds.length:Int))).cell? ⟨qb,j*14+4,none⟩=some (.string ⟨#[]⟩):=by
       rw[World.cell?_setCell_other _ _ _ _ (by simp)];exact DU
      have oa:ae (fun b=>base≤b) w ((wr.drewN nq).setCell ⟨qb,j*14+5,none⟩ (.int .i64 (s.cmds.length:Int))):=(H.out.2.drewN nq).trans o2 (fun _ e=>e) (fun _ _ e=>e);have IF:Hid _:=CQ;clear CQ c1 DU fC Bx kD hw m1 m2 hP E6 H o2 DD;generalize (wr.drewN nq).setCell ⟨qb,j*14+5,none⟩ (.int .i64 (s.cmds.length:Int))=w2 at*
      go_wp2;go_roundg (gk - 1)
      case measure=>have:=HJ.out;omega
      case rel=>
       refine⟨j+1,by go_num,by omega,⟨by have:=HJ.out;omega,?_,oa⟩⟩;rw[←cu.out];exact IF.out
     obtain⟨x,OA⟩:=GU
     have Fy:cw s.labs s.cmds.length s.cmds[j]= {s.cmds[j] with goal:=x.set}:=by
      unfold cw;rw[if_pos h4,if_neg (by simpa using jU)];unfold Adz.useOf;rw[OA]
     have cU:=jx (cw s.labs s.cmds.length) s.cmds j aw
     have kD:∀m,(Instr.lookup 115 (.map (some mb)) (.int .i32 (s.cmds[j]).what) false).run Tryz.prog (wr.drewN m)=.ok (.int .i64 4) (wr.drewN m):=fun m=>by
      rw[←h4];exact bj (wr.drewN m) mb _ m2
     have fC:wr.cell? ⟨qb,j*14+5,none⟩=some (.int .i64 (s.cmds[j]).goal):=by
      obtain⟨_,_,_,_,_,e⟩:=dX 5 (by omega) c3 j (by omega);rw[c2.cellAt (j*14+5) (by omega),e,yd]
      rfl
     have DU:wr.cell? ⟨qb,j*14+4,none⟩=some (.string ⟨(s.cmds[j]).name.toArray⟩):=by
      obtain⟨_,_,_,_,_,e⟩:=dX 4 (by omega) c3 j (by omega);rw[c2.cellAt (j*14+4) (by omega),e,yd]
      rfl
     have Bx:=oj c2 (j*14+5)
     have mX:((eB (cw s.labs s.cmds.length) s.cmds j).set j {(eB (cw s.labs s.cmds.length) s.cmds j)[j]'(by omega) with goal:=(s.cmds.length:Int)}).set j {(((eB (cw s.labs s.cmds.length) s.cmds j).set j {(eB (cw s.labs s.cmds.length) s.cmds j)[j]'(by omega) with goal:=(s.cmds.length:Int)})[j]'(by rw[List.length_set];omega)) with goal:=x.set}=eB (cw s.labs s.cmds.length) s.cmds (j+1):=by
      rw[List.set_set,List.getElem_set_self,cU,Fy,yd]
     have cu:Hid _:=mX;have AG:Hid _:=DS;have Fm:=fun m=>(hP.moved (hP.cur.drewN m) ((ae.refl _ wr).drewN m) (Nat.le_refl _):Par g pp base (wr.drewN m) {s with cmds:=eB (cw s.labs s.cmds.length) s.cmds j});have E6:Hid _:=Fm;have dj:(j:Int)<(s.cmds.length:Int):=by omega
     obtain⟨lb,l0,l1,l2⟩:=hP.lab;have zq:dv wr lb s.labs:=l2
     have aJ:(⟨(s.cmds[j]).name.toArray⟩:ByteArray).toList.isEmpty=false:=by
      rw[ByteArray.toList_mk];simpa using jU
     have SB:Hid (∃l,(⟨(s.cmds[j]).name.toArray⟩:ByteArray)=⟨l.toArray⟩∧s.labs.find? (fun x=>x.name==l)=some x):=⟨_,rfl,OA⟩;clear jU OA;have Ql:Hid _:=zq;generalize (s.cmds[j]).what=wh at*
     generalize (s.cmds[j]).goal=g0 at*
     generalize (⟨(s.cmds[j]).name.toArray⟩:ByteArray)=nm at*
     clear c2 c3 Fy cU mX yd Fm zq l2 h4;go_wp2_with fail
     go_quiet (fail)
     go_wp2_with fail;have DD:=E6.out nq;obtain⟨CQ,o2,I9⟩:=DD.goaled (qb:=qb) (qc:=qc) (by rw[AG.out];exact c1) j (by rw[AG.out];exact aw) (s.cmds.length:Int);have fy:=Ql.out
     have Hb:¬lb=qb:=fun e=>by
      obtain⟨qv,xs,JS,Fe,_⟩:=DD.cmds;rw[show ({s with cmds:=eB (cw s.labs s.cmds.length) s.cmds j}:Adz.Ps).cmds.length=s.cmds.length from AG.out] at Fe
      have:qv=.slice (some ⟨qb,0,none⟩) s.cmds.length qc:=by
       have e2:(wr.drewN nq).cell? ⟨pp,2,none⟩=some (.slice (some ⟨qb,0,none⟩) s.cmds.length qc):=c1;rw[e2] at JS;injection JS with JS;exact JS.symm
      subst this;exact dO (aq.of_row Fe rfl) (show(wr.drewN nq).heap[lb]? =_ from fy) e
     have zp:dv ((wr.drewN nq).setCell ⟨qb,j*14+5,none⟩ (.int .i64 (s.cmds.length:Int))) lb s.labs:=aN (show(wr.drewN nq).heap[lb]? =_ from fy) (af _ qb (j*14+5) _) Hb;have Ty:((wr.drewN nq).setCell ⟨qb,j*14+5,none⟩ (.int .i64 (s.cmds.length:Int))).cell? ⟨pp,2,none⟩=some (.slice (some ⟨qb,0,none⟩) s.cmds.length qc):=(af _ qb (j*14+5) _).keeps (show(wr.drewN nq).cell? ⟨pp,2,none⟩=_ from c1) (fun e=>I9 e.symm);have vR:((wr.drewN nq).setCell ⟨qb,j*14+5,none⟩ (.int .i64 (s.cmds.length:Int))).cell? ⟨pp,4,none⟩=some (.map (some lb)):=(af _ qb (j*14+5) _).keeps (show(wr.drewN nq).cell? ⟨pp,4,none⟩=_ from l1) (fun e=>I9 e.symm)
     have R9:((wr.drewN nq).setCell ⟨qb,j*14+5,none⟩ (.int .i64 (s.cmds.length:Int))).cell? ⟨qb,j*14+4,none⟩=some (.string nm):=by
      rw[World.cell?_setCell_other _ _ _ _ (by simp)];exact DU
     have Wh:((wr.drewN nq).setCell ⟨qb,j*14+5,none⟩ (.int .i64 (s.cmds.length:Int))).cell? ⟨qb,j*14+5,none⟩=some (.int .i64 (s.cmds.length:Int)):=World.cell?_setCell_same _ _ _ (show(wr.drewN nq).cell? ⟨qb,j*14+5,none⟩=_ from fC)
     have Wg:((wr.drewN nq).setCell ⟨qb,j*14+5,none⟩ (.int .i64 (s.cmds.length:Int))).frozen? ⟨qb,j*14+5,none⟩=false:=by
      rw[World.frozen?_setCell];exact Bx
     have oa:ae (fun b=>base≤b) w ((wr.drewN nq).setCell ⟨qb,j*14+5,none⟩ (.int .i64 (s.cmds.length:Int))):=(H.out.2.drewN nq).trans o2 (fun _ e=>e) (fun _ _ e=>e);clear c1 l1 DU fC Bx kD hw m1 m2 hP E6 Ql H o2 DD fy;generalize (wr.drewN nq).setCell ⟨qb,j*14+5,none⟩ (.int .i64 (s.cmds.length:Int))=w2 at*
     have kD:∀m,(Instr.lookup 117 (.map (some lb)) (.string nm) false).run Tryz.prog (w2.drewN m)=.ok (.agg #[.int .i64 x.set,.int .i64 x.asked]) (w2.drewN m):=fun m=>by
      obtain⟨l,e1,e2⟩:=SB.out;subst e1
      rcases yj (w2.drewN m) lb s.labs l zp with ⟨y,hy,_,iT⟩ |⟨hy,_⟩
      ·rw[e2] at hy;injection hy with hy;subst hy;exact iT
      ·rw[e2] at hy;cases hy
     have K6:=kD 1;rw[show w2.drewN 1=w2.drew from rfl] at K6;have Uv:=fun u=>yX u x.set x.asked
     go_region
     obtain⟨Fl,o3,_⟩:=CQ.goaled (qb:=qb) (qc:=qc) (by rw[List.length_set,AG.out];exact Ty) j (by rw[List.length_set,AG.out];exact aw) x.set;have IF:Hid _:=Fl;clear Fl kD K6 Uv;go_wp2;go_roundg (gk - 1)
     case measure=>have:=HJ.out;omega
     case rel=>
      refine⟨j+1,by go_num,by omega,⟨by have:=HJ.out;omega,?_,(oa.trans o3 (fun _ e=>e) (fun _ _ e=>e)).drew⟩⟩;rw[←cu.out];exact IF.out.moved (IF.out.cur.drewN 1) ((ae.refl _ _).drewN 1) (Nat.le_refl _)
   ·have HS:Hid _:=zL (cw s.labs s.cmds.length) s.cmds j aw (if_neg h4)
    generalize (s.cmds[j]).what=wh at*
    have kD:∀m,(Instr.lookup 115 (.map (some mb)) (.int .i32 wh) false).run Tryz.prog (wr.drewN m)=.ok (.int .i64 ((Adz.behindKind wh).getD 0)) (wr.drewN m):=fun m=>bj (wr.drewN m) mb wh m2;have hb:(((Adz.behindKind wh).getD 0) !=4)=true:=by simpa[bne] using h4
    generalize (Adz.behindKind wh).getD 0=kd at*
    clear c2 c3 h4 yd DS;go_wp2_with fail
    go_quiet (fail)
    go_wp2;go_roundg (gk - 1)
    case measure=>have:=HJ.out;omega
    case rel=>
     refine⟨j+1,by go_num,by omega,⟨by have:=HJ.out;omega,?_,H.out.2.drewN nq⟩⟩;rw[HS.out];exact hP.moved (hP.cur.drewN nq) ((ae.refl _ wr).drewN nq) (Nat.le_refl _)
  ·have OI:j=s.cmds.length:=by omega
   subst OI;go_wp2;go_end0;refine⟨rfl,?_,H.out.2⟩;have:=H.out.1;unfold eB at this;rw[List.take_length,List.drop_length,List.append_nil] at this;exact this
structure FinHyp (s:Adz.Ps):Prop where
 pos:∀x∈s.labs,x.set= -1→0≤x.asked
 ask:∀c∈s.cmds,(Adz.behindKind c.what).getD 0=4→c.name= []∨∃x,s.labs.find? (fun x=>x.name==c.name)=some x
theorem tj (labs:List Adz.Lab) (cs:List Adz.Cmd):Adz.setGoals labs cs=cs.map (cw labs cs.length):=by
 unfold Adz.setGoals;apply List.map_congr_left;intro c _;unfold cw;by_cases h:Adz.behindKind c.what=some 4
 ·have e1:(Adz.behindKind c.what==some 4)=true:=by simp[h]
  have e2:(Adz.behindKind c.what).getD 0=4:=by simp[h]
  rw[if_pos e1,if_pos e2]
 ·have e1:¬(Adz.behindKind c.what==some 4)=true:=by simpa using h
  have e2:¬(Adz.behindKind c.what).getD 0=4:=fun e=>h (by
   cases hb:Adz.behindKind c.what with
   | none=>rw [hb] at e;cases e
   | some k=>rw [hb] at e;simp at e;rw[e])
  rw[if_neg e1,if_neg e2]
theorem wG {g:CG}{pp base:Nat}{w:World}{s:Adz.Ps} (h:Par g pp base w s) (hf:FinHyp s) (cs:List Adz.Cmd) (hr:Adz.finish g.pl s=.ok cs):
 Calls Tryz.prog 53 #[.pointer (some ⟨pp,0,none⟩)] w fun e w'=>e=.returned (.pointer none)∧ae (fun b=>base≤b) w w'∧∃qv xs,w'.cell? ⟨pp,2,none⟩=some qv∧w'.ownsRow base 167 14 qv cs.length xs∧di w' cs xs:=by
 unfold Adz.finish at hr;by_cases nS:s.opens.length>0
 ·rw[if_pos nS] at hr;cases hr
 rw[if_neg nS] at hr;simp only at hr;by_cases hm:Adz.missing s.labs= -1
 case neg=>rw [if_pos (by simpa using hm)] at hr;cases hr
 rw[if_neg (by simp[hm])] at hr;simp only[Except.ok.injEq] at hr;rw[tj] at hr;subst hr;have BP:s.opens= []:=List.eq_nil_of_length_eq_zero (by omega);obtain⟨ov,o1,o2⟩:=h.op;rw[BP] at o2;obtain⟨oa,oc,rfl⟩:=ak o2;simp only[List.length_nil] at o1;have vQ:=mA h hf.pos;have HM:Hid _:=hm;clear hm nS;go_enter Tryz.func53,Tryz.ntmps53;go_wp2_with fail;refine vQ.mono ?_;clear vQ;rintro e w1 ⟨tD,bq⟩
 rcases tD with ⟨_,rfl⟩ |⟨aJ,_⟩
 case inr=>exact absurd HM.out aJ
 have h1:=h.moved (h.cur.keeps bq id (fun _=>id) id) (bq.mono (fun _ _ e=>e.elim)) (Nat.le_refl _);go_wp2_with fail;refine(th h1 hf.ask).mono ?_;rintro e w2 ⟨rfl,h2,o2⟩;obtain⟨qv,xs,q1,q2,q3⟩:=h2.cmds;have Q1:Hid _:=q1;clear q1;go_wp2;go_ret;exact⟨rfl,bq.trans o2 (fun _ e=>e.elim) (fun _ _ e=>e),qv,xs,Q1.out,q2,q3⟩
theorem wF {g:CG}{pp base:Nat}{w:World}{s:Adz.Ps} (h:Par g pp base w s) (gV:PsOk s) (hf:FinHyp s) (f:Adz.Flt) (hr:Adz.finish g.pl s=.error f):
 Calls Tryz.prog 53 #[.pointer (some ⟨pp,0,none⟩)] w fun e w'=>∃v,e=.returned v∧ck w w' v f∧ae (fun _=>False) w w':=by
 unfold Adz.finish at hr;have q0:=h.lead.at0;by_cases nS:s.opens.length>0
 ·rw[if_pos nS] at hr
  simp only[Except.error.injEq] at hr;subst hr;obtain⟨ov,o1,o2⟩:=h.op;obtain⟨oa,oc,rfl⟩:=ak o2;have h5:=gV.few;have OD:(0:Int)<(s.opens.length:Int):=by omega
  have qf:=aX g w s.i h.cur;generalize s.opens.length=n at*
  clear o2;go_enter Tryz.func53,Tryz.ntmps53;go_wp2_with fail;refine qf.mono ?_;rintro e w3 ⟨v,rfl,hf,o3⟩;go_wp2;go_ret;exact⟨v,rfl,hf,o3⟩
 ·rw[if_neg nS] at hr
  simp only at hr;by_cases hm:Adz.missing s.labs= -1
  ·rw[if_neg (by simp[hm])] at hr;cases hr
  ·rw[if_pos (by simpa using hm)] at hr
   simp only[Except.error.injEq] at hr;subst hr;have BP:s.opens= []:=List.eq_nil_of_length_eq_zero (by omega);obtain⟨ov,o1,o2⟩:=h.op;rw[BP] at o2;obtain⟨oa,oc,rfl⟩:=ak o2;simp only[List.length_nil] at o1;have vQ:=mA h hf.pos;have HM:Hid _:=hm;clear hm nS o2;go_enter Tryz.func53,Tryz.ntmps53;go_wp2_with fail;refine vQ.mono ?_;clear vQ;rintro e w1 ⟨tD,bq⟩
   rcases tD with ⟨hm,_⟩ |⟨_,v,rfl,⟨fb,rfl,eW,Fx⟩⟩
   ·exact absurd hm HM.out
   go_wp2;go_ret;exact⟨_,rfl,⟨fb,rfl,eW,Fx⟩,bq⟩
end
section
open Go.RowKit
theorem lL {labs:List Adz.Lab}{nm:List UInt8}:(∃x∈labs,x.name=nm)↔∃x,labs.find? (fun x=>x.name==nm)=some x:=by
 constructor
 ·rintro⟨x,h1,h2⟩
  cases hf:labs.find? (fun x=>x.name==nm) with
  | some y=>exact ⟨y,rfl⟩
  | none=>exact absurd h2 (by simpa using List.find?_eq_none.1 hf x h1)
 ·rintro⟨x,h⟩
  exact⟨x,List.mem_of_find?_eq_some h,by simpa using List.find?_some h⟩
theorem pO {labs:List Adz.Lab}{y x:Adz.Lab} (h:x∈Adz.putLab labs y):x∈labs∨x=y:=by
 unfold Adz.putLab at h;split at h
 ·obtain⟨z,hz,e⟩:=List.mem_map.1 h
  split at e
  ·exact Or.inr e.symm
  ·exact Or.inl (e ▸ hz)
 ·rcases List.mem_append.1 h with h | h
  ·exact Or.inl h
  ·exact Or.inr (by simpa using h)
theorem xl {labs:List Adz.Lab}{y:Adz.Lab}:∃x∈Adz.putLab labs y,x.name=y.name:=by
 unfold Adz.putLab;split
 ·rename_i h
  obtain⟨z,hz,e⟩:=List.any_eq_true.1 h;exact⟨y,List.mem_map.2 ⟨z,hz,by rw[if_pos e]⟩,rfl⟩
 ·exact⟨y,List.mem_append_right _ (by simp),rfl⟩
theorem kN {labs:List Adz.Lab}{y:Adz.Lab}{nm:List UInt8} (h:∃x∈labs,x.name=nm):∃x∈Adz.putLab labs y,x.name=nm:=by
 obtain⟨x,hx,hn⟩:=h;unfold Adz.putLab;split
 ·by_cases e:x.name=y.name
  ·exact⟨y,List.mem_map.2 ⟨x,hx,by rw[if_pos (by simp[e])]⟩,e.symm.trans hn⟩
  ·exact⟨x,List.mem_map.2 ⟨x,hx,by rw[if_neg (by simpa using e)]⟩,hn⟩
 ·exact⟨x,List.mem_append_left _ hx,hn⟩
theorem wo {L pl:List Int}{s:Adz.Ps}{c c':Adz.Cmd}{at_:Int}{i i':Nat}{os:List Int}{ls:List Adz.Lab} (bJ:0≤at_) (hs:FinHyp s) (k:Int) (hk:Adz.behindKind c.what=some k) (tB:c.name= []) (hr:Adz.behind L pl s c at_ i=.ok (c',os,ls,i')):
 (∀x∈ls,x.set= -1→0≤x.asked)∧(∀nm,(∃x∈s.labs,x.name=nm)→∃x∈ls,x.name=nm)∧(k=4→c'.name= []∨∃x∈ls,x.name=c'.name):=by
 unfold Adz.behind at hr;rw[hk] at hr
 rcases jY hk with rfl | rfl | rfl | rfl | rfl | rfl | rfl
 ·simp only[Except.ok.injEq,Prod.mk.injEq] at hr
  obtain⟨rfl,rfl,rfl,rfl⟩:=hr;exact⟨hs.pos,fun _ h=>h,fun e=>by cases e⟩
 ·simp only[Except.ok.injEq,Prod.mk.injEq] at hr
  obtain⟨rfl,rfl,rfl,rfl⟩:=hr;exact⟨hs.pos,fun _ h=>h,fun e=>by cases e⟩
 ·simp only at hr
  split at hr
  ·cases hr
  ·simp only[Except.ok.injEq,Prod.mk.injEq] at hr
   obtain⟨rfl,rfl,rfl,rfl⟩:=hr;exact⟨hs.pos,fun _ h=>h,fun e=>by cases e⟩
 ·simp only at hr
  cases ht:Adz.setLabel L pl s c at_ i with
  | error f=>rw [ht] at hr;cases hr
  | ok q=>
   obtain⟨c2,l2,i2⟩:=q;rw[ht] at hr;simp only[Except.ok.injEq,Prod.mk.injEq] at hr;obtain⟨rfl,rfl,rfl,rfl⟩:=hr;obtain⟨_,_,_,rfl,rfl,rfl⟩:=eE ht;refine⟨fun x hx B2=> ?_,fun nm h=>kN h,fun e=>by cases e⟩
   rcases pO hx with h | rfl
   ·exact hs.pos x h B2
   ·simp only at B2
    omega
 ·simp only at hr
  cases ht:Adz.askLabel L pl s c at_ i with
  | error f=>rw [ht] at hr;cases hr
  | ok q=>
   obtain⟨c2,l2,i2⟩:=q;rw[ht] at hr;simp only[Except.ok.injEq,Prod.mk.injEq] at hr;obtain⟨rfl,rfl,rfl,rfl⟩:=hr
   rcases eo ht with ⟨_,rfl,rfl,rfl⟩ |⟨_,_,rfl,rfl,rfl⟩
   ·exact⟨hs.pos,fun _ h=>h,fun _=>Or.inl tB⟩
   ·have FM:=j5 s.labs (Adz.enc (Adz.lettersOf L (Adz.blanks L i)))
    have au:(Adz.useOf s.labs (Adz.enc (Adz.lettersOf L (Adz.blanks L i)))).asked≠ -1→Adz.useOf s.labs (Adz.enc (Adz.lettersOf L (Adz.blanks L i)))∈s.labs:=fun e=>by
     unfold Adz.useOf at e ⊢
     cases hf:s.labs.find? (fun x=>x.name==Adz.enc (Adz.lettersOf L (Adz.blanks L i))) with
     | none=>rw [hf] at e;exact absurd rfl e
     | some y=>exact List.mem_of_find?_eq_some hf
    simp only;generalize Adz.useOf s.labs (Adz.enc (Adz.lettersOf L (Adz.blanks L i)))=U at*
    generalize Adz.enc (Adz.lettersOf L (Adz.blanks L i))=E at*
    refine⟨fun x hx B2=> ?_,fun nm h=>kN h,fun _=>Or.inr ?_⟩
    ·rcases pO hx with h | rfl
     ·exact hs.pos x h B2
     ·by_cases e:U.asked= -1
      ·rw[if_pos (by simp[e])]
       exact bJ
      ·rw[if_neg (by simpa using e)] at B2 ⊢
       exact hs.pos U (au e) B2
    ·have:=xl (labs:=s.labs) (y:=if U.asked== -1 then {U with asked:=at_} else U)
     obtain⟨x,h1,h2⟩:=this;refine⟨x,h1,h2.trans ?_⟩;split
     ·exact FM
     ·exact FM
 ·simp only at hr
  split at hr
  ·cases hr
  ·simp only[Except.ok.injEq,Prod.mk.injEq] at hr
   obtain⟨rfl,rfl,rfl,rfl⟩:=hr;exact⟨hs.pos,fun _ h=>h,fun e=>by cases e⟩
 ·simp only at hr
  split at hr
  ·cases hr
  ·simp only[Except.ok.injEq,Prod.mk.injEq] at hr
   obtain⟨rfl,rfl,rfl,rfl⟩:=hr;exact⟨hs.pos,fun _ h=>h,fun e=>by cases e⟩
theorem zi {L pl:List Int}{i i':Nat}{c:Adz.Cmd} (h:Adz.head L pl i=.ok (c,i')):c.name= []:=by
 unfold Adz.head at h;split at h
 ·cases h
 ·split at h <;>
  ·simp only[Except.ok.injEq,Prod.mk.injEq] at h
   obtain⟨rfl,rfl⟩:=h
   rfl
theorem behind_what {L pl:List Int}{s:Adz.Ps}{c c':Adz.Cmd}{at_:Int}{i i':Nat}{os:List Int}{ls:List Adz.Lab} (hr:Adz.behind L pl s c at_ i=.ok (c',os,ls,i')):c'.what=c.what:=by
 unfold Adz.behind at hr;split at hr
 ·simp only[Except.ok.injEq,Prod.mk.injEq] at hr
  rw[hr.1]
 ·split at hr
  ·cases hr
  ·rename_i ht
   simp only[Except.ok.injEq,Prod.mk.injEq] at hr;rw[←hr.1];exact(kW ht).2
 ·split at hr
  ·cases hr
  ·rename_i ht
   simp only[Except.ok.injEq,Prod.mk.injEq] at hr;obtain⟨_,_,_,e,_⟩:=eE ht;rw[←hr.1,e]
 ·split at hr
  ·cases hr
  ·rename_i ht
   simp only[Except.ok.injEq,Prod.mk.injEq] at hr
   rcases eo ht with ⟨_,e,_⟩ |⟨_,_,e,_⟩ <;> rw[←hr.1,e]
 ·split at hr
  ·cases hr
  ·rename_i ht
   simp only[Except.ok.injEq,Prod.mk.injEq] at hr;rw[←hr.1];exact fW ht
 ·split at hr
  ·cases hr
  ·rename_i ht
   simp only[Except.ok.injEq,Prod.mk.injEq] at hr;rw[←hr.1];exact(iN ht).2.1
 ·simp only[Except.ok.injEq,Prod.mk.injEq] at hr
  rw[hr.1]
theorem uc {L pl:List Int}{s s':Adz.Ps} (eX:∀i,0≤Adz.place pl i) (hs:FinHyp s) (hr:Adz.command L pl s=.ok s'):FinHyp s':=by
 unfold Adz.command at hr
 cases hh:Adz.head L pl s.i with
 | error f=>rw [hh] at hr;cases hr
 | ok q=>
 obtain⟨c0,i1⟩:=q;rw[hh] at hr;simp only at hr
 cases hw:Adz.what L pl s c0 i1 with
 | error f=>rw [hw] at hr;cases hr
 | ok q=>
 obtain⟨c1,i2⟩:=q;rw[hw] at hr;simp only at hr;obtain⟨k,hk,_,_,_,rfl,rfl⟩:=ie hw
 cases hb:Adz.behind L pl s {c0 with what:=Adz.peek L i1} (Adz.place pl i1) (i1+1) with
 | error f=>rw [hb] at hr;cases hr
 | ok q=>
 obtain⟨c,os,ls,i3⟩:=q;rw[hb] at hr;simp only at hr;have dx:c0.name= []:=zi hh;obtain⟨f1,f2,f3⟩:=wo (c:= {c0 with what:=Adz.peek L i1}) (eX i1) hs k hk dx hb;have Oo:c.what=Adz.peek L i1:=behind_what hb
 have key:∀i4,FinHyp {i:=i4,cmds:=s.cmds++ [c],opens:=os,labs:=ls}:=fun i4=>⟨f1,fun d hd h4=>by
  rcases List.mem_append.1 hd with hd | hd
  ·rcases hs.ask d hd h4 with e | e
   ·exact Or.inl e
   ·exact Or.inr (lL.1 (f2 _ (lL.2 e)))
  ·have:d=c:=by simpa using hd
   subst this;rw[Oo,hk] at h4
   rcases f3 h4 with e | e
   ·exact Or.inl e
   ·exact Or.inr (lL.1 e)⟩
 split at hr
 ·simp only[Except.ok.injEq] at hr
  subst hr;exact key i3
 ·split at hr
  ·cases hr
  ·rename_i i4 _
   simp only[Except.ok.injEq] at hr;subst hr;exact key i4
theorem xP {L pl:List Int}{s s':Adz.Ps} (eX:∀i,0≤Adz.place pl i) (hs:FinHyp s) (hr:Adz.gapOrCommand L pl s=.ok s'):FinHyp s':=by
 unfold Adz.gapOrCommand at hr;simp only at hr;split at hr
 ·simp only[Except.ok.injEq] at hr
  subst hr;exact⟨hs.pos,hs.ask⟩
 ·split at hr
  ·split at hr
   ·cases hr
   ·rename_i k _
    simp only[Except.ok.injEq] at hr;subst hr;refine⟨hs.pos,fun c hc h4=> ?_⟩;obtain⟨j,hj⟩:=List.getElem?_of_mem hc
    have hg:∃c0∈s.cmds,c.what=c0.what∧c.name=c0.name:=by
     unfold Adz.setGoal at hj;rw[List.getElem?_modify] at hj
     cases h0:s.cmds[j]? with
     | none=>rw [h0] at hj;cases hj
     | some c0=>
      rw[h0] at hj;refine⟨c0,List.mem_of_getElem? h0,?_⟩;by_cases e:k.toNat=j
      ·simp[e] at hj;subst hj;exact⟨rfl,rfl⟩
      ·simp[e] at hj;subst hj;exact⟨rfl,rfl⟩
    obtain⟨c0,h1,h2,h3⟩:=hg;rw[h2] at h4;rw[h3];exact hs.ask c0 h1 h4
  ·exact uc eX hs hr
end
section
open Go.RowKit
attribute [local go_sem ↓] Go.wp_at_zero Go.wp_at_succ
def tN (s:ByteArray) (L pl:List Int):Prop:=∀w:World,
 Calls Tryz.prog 49 #[.string s] w fun e w'=>∃g:CG,g.L=L∧g.pl=pl∧e=.returned (.tuple #[.pointer (some ⟨g.c,0,none⟩),.pointer none])∧Cur g w' 0∧ae (fun _=>False) w w'∧w.heap.size≤g.c∧g.L.length≤g.rcap
theorem pN:PsOk ⟨0,[],[],[]⟩:=⟨by simp[dw],by simp,by simp⟩
theorem kt:FinHyp ⟨0,[],[],[]⟩:=⟨by simp,by simp⟩
theorem sU (s:ByteArray) (L pl:List Int) (bW:tN s L pl) (dy:s.size≤500) (eX:∀i,0≤Adz.place pl i) (cs:List Adz.Cmd) (hr:Adz.readAll L pl=.ok cs) (w:World):
 Calls Tryz.prog 32 #[.string s] w fun e w'=>∃pb,e=.returned (.tuple #[.pointer (some ⟨pb,0,none⟩),.pointer none])∧vV w' pb cs∧ae (fun _=>False) w w'∧w.heap.size≤pb:=by
 unfold Adz.readAll at hr
 cases hg:Adz.gaps L pl (L.length+1) ⟨0,[],[],[]⟩ with
 | error f=>rw [hg] at hr;cases hr
 | ok sf=>
 rw[hg] at hr;simp only at hr;have mY:= @run_makeMap Tryz.prog;have Bo:decide ((500:Int)<(s.size:Int))=false:=decide_eq_false (by omega);go_enter Tryz.func32,Tryz.ntmps32;go_wp2_with fail;refine(bW w).mono ?_;rintro e w1 ⟨g,rfl,rfl,rfl,cC,bq,fC,ct⟩;go_wp2_with fail;refine(jL w1).mono ?_;rintro e w2 ⟨rfl,rfl⟩;go_wp2_with fail
 have BR:Par g (w1.heap.size+2) (w1.heap.size+2) (((w1.alloc (.map (aF 0 Adz.behTable).toArray 22)).alloc (.map #[] 0)).alloc (.cells #[.pointer (some ⟨g.c,0,none⟩),.map (some w1.heap.size),.slice none 0 0,.slice none 0 0,.map (some (w1.heap.size+1))] 119)) ⟨0,[],[],[]⟩:=by
  have hm:iF ((w1.alloc (.map (aF 0 Adz.behTable).toArray 22)).alloc (.map #[] 0)) w1.heap.size:=aN (heap_alloc_new w1 _) ((ae.refl (fun _=>False) _).alloc _) id
  have hl:((w1.alloc (.map (aF 0 Adz.behTable).toArray 22)).alloc (.map #[] 0)).heap[w1.heap.size+1]? =some (.map #[] 0):=by
   have:=heap_alloc_new (w1.alloc (.map (aF 0 Adz.behTable).toArray 22)) (.map #[] 0);simpa using this
  have:=Par.start ((cC.alloc (.map (aF 0 Adz.behTable).toArray 22)).alloc (.map #[] 0)) w1.heap.size (w1.heap.size+1) hm hl (by simp);simpa using this
 have oo:ae (fun _=>False) w (((w1.alloc (.map (aF 0 Adz.behTable).toArray 22)).alloc (.map #[] 0)).alloc (.cells #[.pointer (some ⟨g.c,0,none⟩),.map (some w1.heap.size),.slice none 0 0,.slice none 0 0,.map (some (w1.heap.size+1))] 119)):=((bq.alloc _).alloc _).alloc _;have BX:=bq.size;generalize ((w1.alloc (.map (aF 0 Adz.behTable).toArray 22)).alloc (.map #[] 0)).alloc (.cells #[.pointer (some ⟨g.c,0,none⟩),.map (some w1.heap.size),.slice none 0 0,.slice none 0 0,.map (some (w1.heap.size+1))] 119)=w3 at*
 have HG:Hid (Adz.gaps g.L g.pl (g.L.length+1) ⟨0,[],[],[]⟩=.ok sf):=hg;have HF:Hid (Adz.finish g.pl sf=.ok cs):=hr;have JE:Hid (∀i,0≤Adz.place g.pl i):=eX;clear hg hr eX bW cC
 go_loopg [] g.L.length (fun k wr=>(∃n sj,k+sj.i=g.L.length∧Hid (g.L.length<n+sj.i∧Adz.gaps g.L g.pl n sj=.ok sf)∧Hid (PsOk sj∧FinHyp sj)∧Hid (Par g (w1.heap.size+2) (w1.heap.size+2) wr sj))∧Hid (ae (fun b=>w.heap.size≤b) w wr))
 case atStart=>exact ⟨⟨g.L.length+1,_,by simp,⟨by simp,HG.out⟩,⟨pN,kt⟩,BR⟩,oo.mono (fun _ _ e=>e.elim)⟩
 case round=>
  obtain⟨⟨n,sj,DO,hG,Dy,hP⟩,hO⟩:=hrel;have bQ:ae (fun b=>w.heap.size≤b) w wr:=hO;have qX:Par g (w1.heap.size+2) (w1.heap.size+2) wr sj:=hP;have Jz:Hid _:=DO;have hle:=qX.cur.le;clear hO hP BR DO;obtain⟨hn,gj⟩:=hG.out
  cases n with
  | zero=>omega
  | succ n=>
  unfold Adz.gaps at gj;by_cases gz:Adz.peek g.L sj.i= -1
  ·rw[if_pos (by simp[gz])] at gj
   simp only[Except.ok.injEq] at gj;subst gj;have HE:Hid _:=gz;clear hG gz;go_wp2_with fail;refine(ah g wr _ qX.cur).mono ?_;rintro e w4 ⟨rfl,n4,rfl⟩;rw[HE.out];go_wp2_with fail;have o4:ae (·=g.c) wr (wr.drewN n4):=(ae.refl _ wr).drewN n4;have h4:=qX.moved (qX.cur.drewN n4) o4 (Nat.le_refl _);refine(wG h4 Dy.out.2 cs HF.out).mono ?_;rintro e w5 ⟨rfl,o5,qv,xs,q1,q2,q3⟩;obtain⟨qa,qc,rfl⟩:=ak q2;go_wp2;go_ret2;have o6:ae (fun _=>False) w w5:=((bQ.drewN n4).trans o5 (fun _ e=>e) (fun b _ e=>by omega):ae (fun b=>w.heap.size≤b) w w5).mono (fun b hb e=>by omega);have oa:ae (fun _=>False) w5 (w5.alloc (.cells #[.slice qa cs.length qc] 101)):=(ae.refl _ w5).alloc _;refine⟨w5.heap.size,rfl,⟨_,xs,(ai.new w5 #[.slice qa cs.length qc] 101).at 0 _ rfl,jf (ag q2 oa (fun _ _=>id)) (Nat.zero_le _),q3.keeps oa ⟨fun _ _=>id,fun _ _=>id,fun _ _=>id,fun _ _=>id,fun _ _=>id⟩,aq.new _ _ _ _⟩,o6.alloc _,o6.size⟩
  ·rw[if_neg (by simpa using gz)] at gj
   cases fC:Adz.gapOrCommand g.L g.pl sj with
   | error f=>rw [fC] at gj;cases gj
   | ok s1=>
   rw[fC] at gj;simp only at gj;have uz:=xP JE.out Dy.out.2 fC
   rcases xQ g (w1.heap.size+2) sj s1 ct Dy.out.1 gz fC with ⟨Bd,BO,eG⟩ | eO
   case inr=>exact absurd qX (eO _ _)
   have M2:Hid _:=gj;have Ge:Hid _:=And.intro BO uz;clear hG gj fC BO uz;obtain⟨aJ,Bz⟩:=Bd;have aK:ae (·=g.c) wr wr:=ae.refl _ _;have Ms:(Adz.peek g.L sj.i== -1)=false:=by simpa using aJ
   have Ks:(Adz.peek g.L sj.i != -1)=true:=by simpa using aJ
   have cP:=ah g wr sj.i qX.cur;generalize Adz.peek g.L sj.i=pk at*
   go_wp2_with fail;refine cP.mono ?_;clear cP;rintro e w4 ⟨rfl,n4,rfl⟩;go_wp2_with fail;have o4:ae (·=g.c) wr (wr.drewN n4):=(ae.refl _ wr).drewN n4;refine(Bz _ _ (qX.moved (qX.cur.drewN n4) o4 (Nat.le_refl _))).mono ?_;rintro e w5 ⟨rfl,h5,o5⟩;have OO:=h5.cur.le;go_wp2;go_roundg (g.L.length - s1.i)
   case measure=>have:=Jz.out;omega
   case rel=>
    refine⟨⟨n,s1,by omega,⟨by omega,M2.out⟩,Ge,h5⟩,?_⟩
    exact(bQ.drewN n4).trans o5 (fun _ e=>e) (fun b _ e=>by
     rcases e with e | e | e
     ·omega
     ·omega
     ·omega)
theorem sT (s:ByteArray) (L pl:List Int) (bW:tN s L pl) (dy:s.size≤500) (eX:∀i,0≤Adz.place pl i) (f:Adz.Flt) (hr:Adz.readAll L pl=.error f) (w:World):
 Calls Tryz.prog 32 #[.string s] w fun e w'=>∃v,e=.returned (.tuple #[.pointer none,v])∧ck w w' v f∧ae (fun _=>False) w w':=by
 have hg:Adz.gaps L pl (L.length+1) ⟨0,[],[],[]⟩=.error f∨∃sf,Adz.gaps L pl (L.length+1) ⟨0,[],[],[]⟩=.ok sf∧Adz.finish pl sf=.error f:=by
  unfold Adz.readAll at hr
  cases hg:Adz.gaps L pl (L.length+1) ⟨0,[],[],[]⟩ with
  | error f'=>rw [hg] at hr;simp only[Except.error.injEq] at hr;subst hr;exact Or.inl rfl
  | ok sf=>rw [hg] at hr;exact Or.inr ⟨sf,rfl,hr⟩
 have mY:= @run_makeMap Tryz.prog;have Bo:decide ((500:Int)<(s.size:Int))=false:=decide_eq_false (by omega);go_enter Tryz.func32,Tryz.ntmps32;go_wp2_with fail;refine(bW w).mono ?_;rintro e w1 ⟨g,rfl,rfl,rfl,cC,bq,fC,ct⟩;go_wp2_with fail;refine(jL w1).mono ?_;rintro e w2 ⟨rfl,rfl⟩;go_wp2_with fail
 have BR:Par g (w1.heap.size+2) (w1.heap.size+2) (((w1.alloc (.map (aF 0 Adz.behTable).toArray 22)).alloc (.map #[] 0)).alloc (.cells #[.pointer (some ⟨g.c,0,none⟩),.map (some w1.heap.size),.slice none 0 0,.slice none 0 0,.map (some (w1.heap.size+1))] 119)) ⟨0,[],[],[]⟩:=by
  have hm:iF ((w1.alloc (.map (aF 0 Adz.behTable).toArray 22)).alloc (.map #[] 0)) w1.heap.size:=aN (heap_alloc_new w1 _) ((ae.refl (fun _=>False) _).alloc _) id
  have hl:((w1.alloc (.map (aF 0 Adz.behTable).toArray 22)).alloc (.map #[] 0)).heap[w1.heap.size+1]? =some (.map #[] 0):=by
   have:=heap_alloc_new (w1.alloc (.map (aF 0 Adz.behTable).toArray 22)) (.map #[] 0);simpa using this
  have:=Par.start ((cC.alloc (.map (aF 0 Adz.behTable).toArray 22)).alloc (.map #[] 0)) w1.heap.size (w1.heap.size+1) hm hl (by simp);simpa using this
 have oo:ae (fun _=>False) w (((w1.alloc (.map (aF 0 Adz.behTable).toArray 22)).alloc (.map #[] 0)).alloc (.cells #[.pointer (some ⟨g.c,0,none⟩),.map (some w1.heap.size),.slice none 0 0,.slice none 0 0,.map (some (w1.heap.size+1))] 119)):=((bq.alloc _).alloc _).alloc _;have BX:=bq.size;generalize ((w1.alloc (.map (aF 0 Adz.behTable).toArray 22)).alloc (.map #[] 0)).alloc (.cells #[.pointer (some ⟨g.c,0,none⟩),.map (some w1.heap.size),.slice none 0 0,.slice none 0 0,.map (some (w1.heap.size+1))] 119)=w3 at*
 have HG:Hid (Adz.gaps g.L g.pl (g.L.length+1) ⟨0,[],[],[]⟩=.error f∨∃sf,Adz.gaps g.L g.pl (g.L.length+1) ⟨0,[],[],[]⟩=.ok sf∧Adz.finish g.pl sf=.error f):=hg;have JE:Hid (∀i,0≤Adz.place g.pl i):=eX;clear hg hr eX bW cC
 go_loopg [] g.L.length (fun k wr=>(∃n sj,k+sj.i=g.L.length∧Hid (g.L.length<n+sj.i∧(Adz.gaps g.L g.pl n sj=.error f∨∃sf,Adz.gaps g.L g.pl n sj=.ok sf∧Adz.finish g.pl sf=.error f))∧Hid (PsOk sj∧FinHyp sj)∧Hid (Par g (w1.heap.size+2) (w1.heap.size+2) wr sj))∧Hid (ae (fun b=>w.heap.size≤b) w wr))
 case atStart=>exact ⟨⟨g.L.length+1,_,by simp,⟨by simp,HG.out⟩,⟨pN,kt⟩,BR⟩,oo.mono (fun _ _ e=>e.elim)⟩
 case round=>
  obtain⟨⟨n,sj,DO,hG,Dy,hP⟩,hO⟩:=hrel;have bQ:ae (fun b=>w.heap.size≤b) w wr:=hO;have qX:Par g (w1.heap.size+2) (w1.heap.size+2) wr sj:=hP;have Jz:Hid _:=DO;have hle:=qX.cur.le;clear hO hP BR DO;obtain⟨hn,gj⟩:=hG.out
  cases n with
  | zero=>omega
  | succ n=>
  unfold Adz.gaps at gj;by_cases gz:Adz.peek g.L sj.i= -1
  ·have Mu:Adz.finish g.pl sj=.error f:=by
    rw[if_pos (by simp[gz])] at gj
    rcases gj with e |⟨sf,e1,e2⟩
    ·cases e
    ·simp only[Except.ok.injEq] at e1
     subst e1;exact e2
   have HE:Hid _:=gz;have SA:Hid _:=Mu;clear hG gz gj Mu;go_wp2_with fail;refine(ah g wr _ qX.cur).mono ?_;rintro e w4 ⟨rfl,n4,rfl⟩;rw[HE.out];go_wp2_with fail;have o4:ae (·=g.c) wr (wr.drewN n4):=(ae.refl _ wr).drewN n4;have h4:=qX.moved (qX.cur.drewN n4) o4 (Nat.le_refl _);refine(wF h4 Dy.out.1 Dy.out.2 f SA.out).mono ?_;rintro e w5 ⟨v,rfl,⟨fb,rfl,eW,Fx⟩,o5⟩;have GS:wr.heap.size≤fb:=eW;have Vo:=bQ.size;go_wp2;go_ret2;have o6:ae (fun _=>False) w w5:=((bQ.drewN n4).trans o5 (fun _ e=>e) (fun b _ e=>e.elim):ae (fun b=>w.heap.size≤b) w w5).mono (fun b hb e=>by omega);exact⟨_,rfl,⟨fb,rfl,by omega,Fx⟩,o6⟩
  ·rw[if_neg (by simpa using gz)] at gj
   cases fC:Adz.gapOrCommand g.L g.pl sj with
   | error f'=>
    rw[fC] at gj
    have Uw:f'=f:=by
     rcases gj with e |⟨sf,e1,e2⟩
     ·simpa using e
     ·cases e1
    subst Uw;have Bd:=Ds g (w1.heap.size+2) sj f' ct Dy.out.1 gz fC;clear hG gj fC;obtain⟨aJ,Bz⟩:=Bd;have aK:ae (·=g.c) wr wr:=ae.refl _ _;have Ms:(Adz.peek g.L sj.i== -1)=false:=by simpa using aJ
    have Ks:(Adz.peek g.L sj.i != -1)=true:=by simpa using aJ
    have cP:=ah g wr sj.i qX.cur;generalize Adz.peek g.L sj.i=pk at*
    go_wp2_with fail;refine cP.mono ?_;clear cP;rintro e w4 ⟨rfl,n4,rfl⟩;go_wp2_with fail;have o4:ae (·=g.c) wr (wr.drewN n4):=(ae.refl _ wr).drewN n4;refine(Bz _ _ (qX.moved (qX.cur.drewN n4) o4 (Nat.le_refl _))).mono ?_;rintro e w5 ⟨v,rfl,⟨fb,rfl,eW,Fx⟩,o5⟩;have GS:wr.heap.size≤fb:=eW;have Vo:=bQ.size;go_wp2;go_ret2
    have o6:ae (fun _=>False) w w5:=((bQ.drewN n4).trans o5 (fun _ e=>e) (fun b _ e=>by
     rcases e with e | e | e
     ·omega
     ·omega
     ·omega):ae (fun b=>w.heap.size≤b) w w5).mono (fun b hb e=>by omega)
    exact⟨_,rfl,⟨fb,rfl,by omega,Fx⟩,o6⟩
   | ok s1=>
   rw[fC] at gj;simp only at gj;have uz:=xP JE.out Dy.out.2 fC
   rcases xQ g (w1.heap.size+2) sj s1 ct Dy.out.1 gz fC with ⟨Bd,BO,eG⟩ | eO
   case inr=>exact absurd qX (eO _ _)
   have M2:Hid _:=gj;have Ge:Hid _:=And.intro BO uz;clear hG gj fC BO uz;obtain⟨aJ,Bz⟩:=Bd;have aK:ae (·=g.c) wr wr:=ae.refl _ _;have Ms:(Adz.peek g.L sj.i== -1)=false:=by simpa using aJ
   have Ks:(Adz.peek g.L sj.i != -1)=true:=by simpa using aJ
   have cP:=ah g wr sj.i qX.cur;generalize Adz.peek g.L sj.i=pk at*
   go_wp2_with fail;refine cP.mono ?_;clear cP;rintro e w4 ⟨rfl,n4,rfl⟩;go_wp2_with fail;have o4:ae (·=g.c) wr (wr.drewN n4):=(ae.refl _ wr).drewN n4;refine(Bz _ _ (qX.moved (qX.cur.drewN n4) o4 (Nat.le_refl _))).mono ?_;rintro e w5 ⟨rfl,h5,o5⟩;have OO:=h5.cur.le;go_wp2;go_roundg (g.L.length - s1.i)
   case measure=>have:=Jz.out;omega
   case rel=>
    refine⟨⟨n,s1,by omega,⟨by omega,M2.out⟩,Ge,h5⟩,?_⟩
    exact(bQ.drewN n4).trans o5 (fun _ e=>e) (fun b _ e=>by
     rcases e with e | e | e
     ·omega
     ·omega
     ·omega)
def nE (s:ByteArray) (f:Adz.Flt):Prop:=∀w:World,
 Calls Tryz.prog 32 #[.string s] w fun e w'=>∃v,e=.returned (.tuple #[.pointer none,v])∧ck w w' v f∧ae (fun _=>False) w w'
theorem zX (s:ByteArray) (h:500<s.size) (hs:s.size≤9223372036854775807):nE s (1,0):=fun w=>by
 have Bo:decide ((500:Int)<(s.size:Int))=true:=decide_eq_true (by omega);have OD:(500:Int)<(s.size:Int):=by omega
 go_enter Tryz.func32,Tryz.ntmps32;go_wp2_with fail;refine(aV 1 _ _).mono ?_;rintro e w5 ⟨rfl,rfl⟩;go_wp2;go_ret2;exact⟨_,rfl,⟨_,rfl,Nat.le_refl _,db.new _ _ _⟩,(ae.refl _ w).alloc _⟩
theorem zO (s:ByteArray) (L pl:List Int) (bW:tN s L pl) (dy:s.size≤500) (eX:∀i,0≤Adz.place pl i) (cs:List Adz.Cmd) (hr:Adz.readAll L pl=.ok cs) (w:World):
 Calls Tryz.prog 28 #[.string s] w fun e w'=>∃sb,e=.returned (.tuple #[.pointer (some ⟨sb,0,none⟩),.int .i64 0,.int .i64 0])∧ScriptAt w' sb cs∧ae (fun _=>False) w w'∧w.heap.size≤sb:=by
 go_enter Tryz.func28,Tryz.ntmps28;go_wp2_with fail;refine(sU s L pl bW dy eX cs hr w).mono ?_;rintro e w1 ⟨pb,rfl,⟨qv,xs,p1,p2,p3,p4⟩,ho,WC⟩;go_wp2;go_ret3;have oa:∀o:Obj,ae (fun _=>False) w1 (w1.alloc o):=fun o=>(ae.refl _ w1).alloc o;exact⟨w1.heap.size,rfl,⟨aq.new _ _ _ _,pb,(ai.new w1 _ _).at 0 _ rfl,qv,xs,(oa _).keeps p1 id,ag p2 (oa _) (fun _ _=>id),p3.keeps (oa _) ⟨fun _ _=>id,fun _ _=>id,fun _ _=>id,fun _ _=>id,fun _ _=>id⟩,p4.alloc _⟩,ho.alloc _,ho.size⟩
theorem lP (s:ByteArray) (f:Adz.Flt) (hr:nE s f) (w:World):
 Calls Tryz.prog 28 #[.string s] w fun e w'=>e=.returned (.tuple #[.pointer none,.int .i64 f.1,.int .i64 f.2])∧ae (fun _=>False) w w':=by
 go_enter Tryz.func28,Tryz.ntmps28;go_wp2_with fail;refine(hr w).mono ?_;rintro e w1 ⟨v,rfl,⟨fb,rfl,eW,h1,h2⟩,ho⟩;go_wp2_with fail
 go_quiet (fail)
 go_wp2;go_ret3;exact⟨rfl,ho.drewN _⟩
theorem vj (s:ByteArray) (L pl:List Int) (bW:tN s L pl) (dy:s.size≤500) (eX:∀i,0≤Adz.place pl i) (f:Adz.Flt) (hr:Adz.readAll L pl=.error f):nE s f:=fun w=>sT s L pl bW dy eX f hr w
theorem uT (w:World) (s p:ByteArray):
 Calls Tryz.prog 141 #[.string s,.string p] w fun e w'=>e=.returned (.bool (Lib.hasPrefix s.data.toList p.data.toList))∧w'=w:=by
 rw[←Lib.hasPrefix_of_take,←Lib.size_eq,←Lib.size_eq];go_enter Tryz.func141,Tryz.ntmps141;go_wp2
 ·rename_i h
  go_ret;refine⟨?_,rfl⟩;show Ending.returned (Value.bool ((s.extract 0 p.size).toList==p.toList))=_;rw[Lib.extract_toList,Lib.toList_data];simp[h]
 ·rename_i h
  go_ret;refine⟨?_,rfl⟩;show Ending.returned (Value.bool false)=_;simp[h]
theorem pV (w:World) (s p:ByteArray):
 Calls Tryz.prog 99 #[.string s,.string p] w fun e w'=>e=.returned (.bool (Lib.hasPrefix s.data.toList p.data.toList))∧w'=w:=by
 go_enter Tryz.func99,Tryz.ntmps99;go_wp2_with fail;refine(uT _ _ _).mono ?_;rintro e w' ⟨rfl,rfl⟩;go_wp2;go_ret;exact⟨rfl,rfl⟩
theorem gy (w:World) (b:ByteArray):
 Calls Tryz.prog 73 #[.string b] w fun e w'=>e=.returned (.bool (Lib.hasPrefix b.data.toList [239,191,189]))∧w'=w:=by
 go_enter Tryz.func73,Tryz.ntmps73;go_wp2_with fail;refine(pV _ _ _).mono ?_;rintro e w' ⟨rfl,rfl⟩;go_wp2;go_ret;exact⟨rfl,rfl⟩
end
end Go.Proofs.YtbiobhghnldckaaGreatDoor
