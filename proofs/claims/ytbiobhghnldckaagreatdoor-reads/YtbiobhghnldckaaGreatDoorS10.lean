/- Proved: adzeref's reader of scripts answers as the program's does: the same fault at the same place, or none. Conditions: no rune is below 0, places grow. -/
import Derived.Test.YtbiobhghnldckaaGreatDoorS9
namespace Go.Proofs.YtbiobhghnldckaaGreatDoor
set_option linter.unusedVariables false
set_option maxRecDepth 100000
set_option maxHeartbeats 6400000
section
namespace Rf
open Adz (Flt)
def cI (L pl:List Int) (m:Nat) (ps:Adz.Ps):Except Flt Adz.Ps:=
 match Adz.gaps L pl m ps with
 | .error f=> .error f
 | .ok s=>if s.opens.length>0 then .error (3,Adz.place pl s.i) else .ok s
theorem qT {L pl:List Int}{m:Nat}{ps:Adz.Ps} (h:Adz.peek L ps.i= -1):cI L pl (m+1) ps=if ps.opens.length>0 then .error (3,Adz.place pl ps.i) else .ok ps:=by
 unfold cI Adz.gaps;simp only[h,beq_self_eq_true,if_true]
theorem er {L pl:List Int}{m:Nat}{ps dC:Adz.Ps} (h:Adz.peek L ps.i≠ -1) (hg:Adz.gapOrCommand L pl ps=.ok dC):cI L pl (m+1) ps=cI L pl m dC:=by
 unfold cI;have b:(Adz.peek L ps.i== -1)=false:=by simpa using h
 conv=>lhs;unfold Adz.gaps
 rw[b];simp only[Bool.false_eq_true,if_false];rw[hg]
theorem A6 {L pl:List Int}{m:Nat}{ps:Adz.Ps}{f:Flt} (h:Adz.peek L ps.i≠ -1) (hg:Adz.gapOrCommand L pl ps=.error f):cI L pl (m+1) ps=.error f:=by
 unfold cI Adz.gaps;have b:(Adz.peek L ps.i== -1)=false:=by simpa using h
 rw[b];simp only[Bool.false_eq_true,if_false];rw[hg]
structure Rel (L pl:List Int) (q:Int) (nest:Nat) (r:RS) (ps:Adz.Ps):Prop where
 s:r.s=⟨ps.i,0,q,(ps.cmds.length:Int)⟩
 le:ps.i≤L.length
 op:ps.opens.length=nest
 lr:LRel pl ps.i r.labs r.jumps ps.labs
 n5:nest≤5
 c40:ps.cmds.length≤40
theorem xR {c:Int}:gap true c=(Adz.isBlank c || c==10 || c==59):=by
 unfold gap Adz.isBlank;simp[Bool.or_assoc]
theorem yZ {L pl:List Int} (ps:Adz.Ps):∀(n j m:Nat),L.length - j≤n→j≤L.length→L.length<m+j→
 ∃m',L.length<m'+(j+((L.drop j).takeWhile (gap true)).length)∧cI L pl m {ps with i:=j}=cI L pl m' {ps with i:=j+((L.drop j).takeWhile (gap true)).length}:=by
 intro n
 induction n with
 | zero=>
  intro j m h1 h2 h3;refine⟨m,by omega,?_⟩;rw[List.drop_of_length_le (by omega)]
  rfl
 | succ n ih=>
  intro j m h1 h2 h3;by_cases hj:j<L.length
  ·rw[Adz.drop_peek hj,List.takeWhile_cons]
   cases gj:gap true (Adz.peek L j) with
   | true=>
    simp only[if_true,List.length_cons]
    cases m with
    | zero=>omega
    | succ m=>
     obtain⟨m',a,b⟩:=ih (j+1) m (by omega) (by omega) (by omega);refine⟨m',by omega,?_⟩;have aJ:Adz.peek L j≠ -1:=fun e=>by rw[e] at gj;revert gj;decide
     have fC:Adz.gapOrCommand L pl {ps with i:=j}=.ok {ps with i:=j+1}:=by
      unfold Adz.gapOrCommand;rw[xR] at gj;simp only[gj,if_true]
     rw[er (by exact aJ) fC,b,show j+(((L.drop (j+1)).takeWhile (gap true)).length+1)=j+1+((L.drop (j+1)).takeWhile (gap true)).length by omega]
   | false=>
    refine⟨m,by simp;omega,?_⟩
    rfl
  ·refine⟨m,by omega,?_⟩
   rw[List.drop_of_length_le (by omega)]
   rfl
theorem EM {L:List Int}:∀(n j:Nat),L.length - j≤n→gap true (Adz.peek L (j+((L.drop j).takeWhile (gap true)).length))=false:=by
 intro n
 induction n with
 | zero=>
  intro j h;rw[Adz.peek_ge (by omega)]
  decide
 | succ n ih=>
  intro j h;by_cases hj:j<L.length
  ·rw[Adz.drop_peek hj,List.takeWhile_cons]
   cases gj:gap true (Adz.peek L j) with
   | true=>
    simp only[if_true,List.length_cons];rw[show j+(((L.drop (j+1)).takeWhile (gap true)).length+1)=j+1+((L.drop (j+1)).takeWhile (gap true)).length by omega];exact ih (j+1) (by omega)
   | false=>exact gj
  ·rw[Adz.peek_ge (by omega)]
   decide
theorem mJ (cs:List Adz.Cmd) (k:Nat) (g:Int):(Adz.setGoal cs k g).length=cs.length:=by
 unfold Adz.setGoal;simp
theorem behind_what {L pl:List Int}{ps:Adz.Ps}{c c3:Adz.Cmd}{a:Int}{i i3:Nat}{os:List Int}{ls:List Adz.Lab} (h:Adz.behind L pl ps c a i=.ok (c3,os,ls,i3)):c3.what=c.what:=by
 unfold Adz.behind at h;split at h
 ·injection h with h;injection h with h1 h2;rw[←h1]
 ·split at h
  ·cases h
  ·rename_i heq
   injection h with h;injection h with h1 h2;unfold Adz.textOf at heq;simp only at heq;split at heq
   ·injection heq with heq;injection heq with heq h4;rw[←h1,←heq]
   ·split at heq
    ·cases heq
    ·injection heq with heq;injection heq with heq h4;rw[←h1,←heq]
 ·split at h
  ·cases h
  ·rename_i heq
   injection h with h;injection h with h1 h2;unfold Adz.setLabel at heq;split at heq
   ·cases heq
   ·split at heq
    ·cases heq
    ·simp only at heq
     split at heq
     ·cases heq
     ·injection heq with heq;injection heq with heq h4;rw[←h1,←heq]
 ·split at h
  ·cases h
  ·rename_i heq
   injection h with h;injection h with h1 h2;unfold Adz.askLabel at heq;simp only at heq;split at heq
   ·injection heq with heq;injection heq with heq h4;rw[←h1,←heq]
   ·split at heq
    ·cases heq
    ·injection heq with heq;injection heq with heq h4;rw[←h1,←heq]
 ·split at h
  ·cases h
  ·rename_i heq
   injection h with h;injection h with h1 h2;unfold Adz.substitution at heq;split at heq
   ·cases heq
   ·split at heq
    ·cases heq
    ·split at heq
     ·cases heq
     ·rw[←h1,Adz.flags_same heq]
 ·split at h
  ·cases h
  ·rename_i heq
   injection h with h;injection h with h1 h2;unfold Adz.exchange at heq;split at heq
   ·cases heq
   ·split at heq
    ·cases heq
    ·split at heq
     ·cases heq
     ·split at heq
      ·cases heq
      ·injection heq with heq;injection heq with heq h4;rw[←h1,←heq]
 ·injection h with h;injection h with h1 h2;rw[←h1]
theorem kq {L pl:List Int} (hg:Good L) (G9:∀a b,a≤b→b≤L.length→Adz.place pl a≤Adz.place pl b) (At:∀a,0≤Adz.place pl a) (q:Int):∀(f nest:Nat) (r:RS) (ps:Adz.Ps),Rel L pl q nest r ps→L.length<f+ps.i→
 ((commands L pl f nest r).s.e≠0→∀m,L.length<m+ps.i→cI L pl m ps=.error ((commands L pl f nest r).s.e,(commands L pl f nest r).s.p))∧
 ((commands L pl f nest r).s.e=0→nest=0→∃dP,Rel L pl q 0 (commands L pl f nest r) dP∧∀m,L.length<m+ps.i→cI L pl m ps=.ok dP)∧
 ((commands L pl f nest r).s.e=0→0<nest→∃dP,Rel L pl q (nest - 1) (commands L pl f nest r) dP∧ps.i<dP.i∧∀m,L.length<m+ps.i→∃m',L.length<m'+dP.i∧cI L pl m ps=cI L pl m' dP)
 | 0,nest,r,ps,hR,hf=>by have:=hR.le;omega
 | f+1,nest,r,ps,hR,hf=>by
  have IH:=fun nest r ps=>kq hg G9 At q f nest r ps;obtain⟨d,hd⟩:∃d,((L.drop ps.i).takeWhile (gap true)).length=d:=⟨_,rfl⟩;have hle:=hR.le;have mi:ps.i+d≤L.length:=by rw[←hd];exact vD _ hle _
  have IZ:gap true (Adz.peek L (ps.i+d))=false:=by rw[←hd];exact EM _ ps.i (Nat.le_refl _)
  have ld:skip L r.s true=⟨ps.i+d,0,q,(ps.cmds.length:Int)⟩:=by
   rw[hR.s];unfold skip;rw[if_pos rfl,hd]
  -- the gaps are stepped over by both
  obtain⟨dC,FF⟩:∃dC:Adz.Ps,dC= {ps with i:=ps.i+d}:=⟨_,rfl⟩
  have KQ:∀m,L.length<m+ps.i→∃m',L.length<m'+(ps.i+d)∧cI L pl m ps=cI L pl m' dC:=by
   intro m hm;obtain⟨m',a,b⟩:=yZ (L:=L) (pl:=pl) ps _ ps.i m (Nat.le_refl _) hle hm;rw[hd] at a b;rw[FF];exact⟨m',a,b⟩
  have IQ:LRel pl (ps.i+d) r.labs r.jumps ps.labs:=hR.lr.mono (by omega)
  -- what is proved of dC serves ps
  suffices H:((commands L pl (f+1) nest r).s.e≠0→∀m,L.length<m+(ps.i+d)→cI L pl m dC=.error ((commands L pl (f+1) nest r).s.e,(commands L pl (f+1) nest r).s.p))∧
   ((commands L pl (f+1) nest r).s.e=0→nest=0→∃dP,Rel L pl q 0 (commands L pl (f+1) nest r) dP∧∀m,L.length<m+(ps.i+d)→cI L pl m dC=.ok dP)∧
   ((commands L pl (f+1) nest r).s.e=0→0<nest→∃dP,Rel L pl q (nest - 1) (commands L pl (f+1) nest r) dP∧ps.i+d<dP.i∧∀m,L.length<m+(ps.i+d)→∃m',L.length<m'+dP.i∧cI L pl m dC=cI L pl m' dP) by
   obtain⟨H1,H2,H3⟩:=H;refine⟨fun h m hm=> ?_,fun h hn=> ?_,fun h hn=> ?_⟩
   ·obtain⟨m',a,b⟩:=KQ m hm
    rw[b];exact H1 h m' a
   ·obtain⟨dP,a,b⟩:=H2 h hn
    refine⟨dP,a,fun m hm=> ?_⟩;obtain⟨m',a1,b1⟩:=KQ m hm;rw[b1];exact b m' a1
   ·obtain⟨dP,a,a0,b⟩:=H3 h hn
    refine⟨dP,a,by omega,fun m hm=> ?_⟩;obtain⟨m',a1,b1⟩:=KQ m hm;rw[b1];exact b m' a1
  have zz:dC.i=ps.i+d:=by rw[FF]
  have DY:dC.opens=ps.opens:=by rw[FF]
  have zy:dC.cmds=ps.cmds:=by rw[FF]
  have eX:dC.labs=ps.labs:=by rw[FF]
  have nS:=hR.op
  have hC:commands L pl (f+1) nest r=if now L (⟨ps.i+d,0,q,(ps.cmds.length:Int)⟩:SS)<0 then {r with s:=if 0<nest then no pl ⟨ps.i+d,0,q,(ps.cmds.length:Int)⟩ 3 L.length else ⟨ps.i+d,0,q,(ps.cmds.length:Int)⟩}
   else if 0<nest∧now L (⟨ps.i+d,0,q,(ps.cmds.length:Int)⟩:SS)=125 then {r with s:=⟨ps.i+d+1,0,q,(ps.cmds.length:Int)⟩}
   else commands L pl f nest (if (head L pl nest ⟨ps.i+d,0,q,(ps.cmds.length:Int)⟩).s.e=0 then (if (head L pl nest ⟨ps.i+d,0,q,(ps.cmds.length:Int)⟩).what=123 then commands L pl f (nest+1) {r with s:= {(head L pl nest ⟨ps.i+d,0,q,(ps.cmds.length:Int)⟩).s with count:=(head L pl nest ⟨ps.i+d,0,q,(ps.cmds.length:Int)⟩).s.count+1}} else behind L pl (head L pl nest ⟨ps.i+d,0,q,(ps.cmds.length:Int)⟩).what (head L pl nest ⟨ps.i+d,0,q,(ps.cmds.length:Int)⟩).at_ {r with s:= {(head L pl nest ⟨ps.i+d,0,q,(ps.cmds.length:Int)⟩).s with count:=(head L pl nest ⟨ps.i+d,0,q,(ps.cmds.length:Int)⟩).s.count+1}}) else {r with s:=(head L pl nest ⟨ps.i+d,0,q,(ps.cmds.length:Int)⟩).s}):=by
   conv=>lhs;unfold commands
   rw[if_pos (by rw[hR.s])];simp only;rw[ld]
  rw[hC,eZ];generalize Wx:ps.i+d=j at*
  by_cases fO:Adz.peek L j= -1
  ·-- the script's end
   have Ry:j=L.length:=by
    rcases c8 hg j with ⟨_,h⟩ |⟨h,_⟩
    ·omega
    ·omega
   rw[if_pos (by rw[fO];decide)];have iw:Adz.peek L dC.i= -1:=by rw[zz];exact fO
   by_cases hn:0<nest
   ·rw[if_pos hn]
    have hE:=de (s:=⟨j,0,q,(ps.cmds.length:Int)⟩) rfl pl 3 L.length (by decide);refine⟨fun _ m hm=> ?_,fun h=>absurd h hE.ne,fun h=>absurd h hE.ne⟩
    cases m with
    | zero=>omega
    | succ m=>
     rw[qT iw,if_pos (by rw[DY,nS];exact hn),zz,Ry];rw[Ry] at hE;rw[hE.1,hE.2.1]
   ·rw[if_neg hn]
    refine⟨fun h=>absurd rfl h,fun _ tB=>⟨dC,⟨by rw[zz,zy],by rw[zz];exact mi,by rw[DY,nS,tB],by rw[zz,eX];exact IQ,by omega,by rw[zy];exact hR.c40⟩,fun m hm=> ?_⟩,fun _ h=>absurd h hn⟩
    cases m with
    | zero=>omega
    | succ m=>
     rw[qT iw,if_neg (by rw[DY,nS];exact hn)]
  ·have h0:0≤Adz.peek L j:=by
    rcases c8 hg j with ⟨h,_⟩ |⟨h,_⟩
    ·exact absurd h fO
    ·exact h
   have UC:=bD h0;have iw:Adz.peek L dC.i≠ -1:=by rw[zz];exact fO
   rw[if_neg (by omega)];have GV:=IZ;rw[xR] at GV
   have GW:(Adz.isBlank (Adz.peek L dC.i) || Adz.peek L dC.i==10 || Adz.peek L dC.i==59)=false:=by rw[zz];exact GV
   have zw:Adz.isBlank (Adz.peek L j)=false:=by
    cases h:Adz.isBlank (Adz.peek L j) with
    | false=>rfl
    | true=>rw [h] at GV;cases GV
   by_cases fu:0<nest∧Adz.peek L j=125
   ·-- a block ends
    rw[if_pos fu];refine⟨fun h=>absurd rfl h,fun _ h=>by omega,fun _ _=> ?_⟩;have aJ:ps.opens≠ []:=fun e=>by rw[e] at nS;simp at nS;omega
    obtain⟨k,hk⟩:∃k,ps.opens.getLast? =some k:=⟨_,List.getLast?_eq_some_getLast aJ⟩
    have fC:Adz.gapOrCommand L pl dC=.ok {dC with i:=dC.i+1,cmds:=Adz.setGoal dC.cmds k.toNat dC.cmds.length,opens:=dC.opens.dropLast}:=by
     unfold Adz.gapOrCommand;simp only[GW,Bool.false_eq_true,if_false];rw[zz,fu.2,DY,hk]
     rfl
    refine⟨{dC with i:=dC.i+1,cmds:=Adz.setGoal dC.cmds k.toNat dC.cmds.length,opens:=dC.opens.dropLast},⟨?_,?_,?_,?_,?_,?_⟩,?_,fun m hm=> ?_⟩
    ·simp only[mJ,zz,zy]
    ·show dC.i+1≤L.length
     omega
    ·show dC.opens.dropLast.length=nest - 1
     rw[DY,List.length_dropLast,nS]
    ·show LRel pl (dC.i+1) r.labs r.jumps dC.labs
     rw[eX];exact IQ.mono (by omega)
    ·have:=hR.n5;omega
    ·show(Adz.setGoal dC.cmds k.toNat dC.cmds.length).length≤40
     rw[mJ,zy];exact hR.c40
    ·show j<dC.i+1
     omega
    ·cases m with
     | zero=>omega
     | succ m=>exact ⟨m,by show L.length<m+(dC.i+1);omega,er iw fC⟩
   ·rw[if_neg fu]
    -- a command
    have Kd:=Bt (pl:=pl) hg nest j mi zw q dC (by rw[DY];exact nS) hR.n5 (by rw[zy];exact hR.c40);rw[zy] at Kd;generalize Wv:head L pl nest ⟨j,0,q,(ps.cmds.length:Int)⟩=H at*
    -- an error of the command
    have qn:∀fl,Adz.gapOrCommand L pl dC=.error fl→∀rr:RS,Er rr.s fl→
     ((commands L pl f nest rr).s.e≠0→∀m,L.length<m+j→cI L pl m dC=.error ((commands L pl f nest rr).s.e,(commands L pl f nest rr).s.p))∧
     ((commands L pl f nest rr).s.e=0→nest=0→∃dP,Rel L pl q 0 (commands L pl f nest rr) dP∧∀m,L.length<m+j→cI L pl m dC=.ok dP)∧
     ((commands L pl f nest rr).s.e=0→0<nest→∃dP,Rel L pl q (nest - 1) (commands L pl f nest rr) dP∧j<dP.i∧∀m,L.length<m+j→∃m',L.length<m'+dP.i∧cI L pl m dC=cI L pl m' dP):=by
     intro fl fC rr hE;rw[mc hE.ne];refine⟨fun _ m hm=> ?_,fun h=>absurd h hE.ne,fun h=>absurd h hE.ne⟩
     cases m with
     | zero=>omega
     | succ m=>rw [A6 iw fC,hE.1,hE.2.1]
    -- the command is read: on from there
    have yv:∀LQ,Adz.gapOrCommand L pl dC=.ok LQ→∀rr:RS,Rel L pl q nest rr LQ→j<LQ.i→
     ((commands L pl f nest rr).s.e≠0→∀m,L.length<m+j→cI L pl m dC=.error ((commands L pl f nest rr).s.e,(commands L pl f nest rr).s.p))∧
     ((commands L pl f nest rr).s.e=0→nest=0→∃dP,Rel L pl q 0 (commands L pl f nest rr) dP∧∀m,L.length<m+j→cI L pl m dC=.ok dP)∧
     ((commands L pl f nest rr).s.e=0→0<nest→∃dP,Rel L pl q (nest - 1) (commands L pl f nest rr) dP∧j<dP.i∧∀m,L.length<m+j→∃m',L.length<m'+dP.i∧cI L pl m dC=cI L pl m' dP):=by
     intro LQ fC rr jB dM;obtain⟨I1,I2,I3⟩:=IH nest rr LQ jB (by omega);refine⟨fun h m hm=> ?_,fun h hn=> ?_,fun h hn=> ?_⟩
     ·cases m with
      | zero=>omega
      | succ m=>rw [er iw fC];exact I1 h m (by omega)
     ·obtain⟨dP,a,b⟩:=I2 h hn
      refine⟨dP,a,fun m hm=> ?_⟩
      cases m with
      | zero=>omega
      | succ m=>rw [er iw fC];exact b m (by omega)
     ·obtain⟨dP,a,a0,b⟩:=I3 h hn
      refine⟨dP,a,by omega,fun m hm=> ?_⟩
      cases m with
      | zero=>omega
      | succ m=>
       obtain⟨m',c1,c2⟩:=b m (by omega);exact⟨m',c1,by rw[er iw fC];exact c2⟩
    by_cases qU:Adz.peek L j=125
    ·-- a bracket that closes nothing
     have tB:nest=0:=by
      by_cases h:0<nest
      ·exact absurd ⟨h,qU⟩ fu
      ·omega
     have BN:dC.opens.getLast? =none:=by
      rw[DY];have:ps.opens= []:=List.eq_nil_of_length_eq_zero (by rw[nS];exact tB);rw[this]
      rfl
     have fC:Adz.gapOrCommand L pl dC=.error (3,Adz.place pl j):=by
      unfold Adz.gapOrCommand;simp only[GW,Bool.false_eq_true,if_false];rw[zz,qU,BN]
      rfl
     have Fi:Adz.head L pl j=.ok ({addrs:= []},j):=by
      have bJ:Adz.atAddress L j=false:=by
       unfold Adz.atAddress;rw[qU]
       rfl
      unfold Adz.head;rw[bJ];simp only[Bool.false_eq_true,if_false];rw[qU]
      rfl
     have GA:Adz.what L pl dC {addrs:= []} j=.error (3,Adz.place pl j):=by
      unfold Adz.what;rw[qU,lJ (by decide)]
      rfl
     have hE:=Kd.2.2 _ _ _ Fi GA;rw[if_neg hE.ne];exact qn _ fC _ hE
    ·have fN:Adz.gapOrCommand L pl dC=Adz.command L pl dC:=by
      unfold Adz.gapOrCommand;simp only[GW,Bool.false_eq_true,if_false];have:(Adz.peek L dC.i==125)=false:=by rw[zz];simpa using qU
      rw[this]
      rfl
     rw[fN] at qn yv;unfold Adz.command at qn yv;rw[zz] at qn yv
     cases Fi:Adz.head L pl j with
     | error fl=>
      have hE:=Kd.2.1 _ Fi;rw[Fi] at qn;rw[if_neg hE.ne];exact qn _ rfl _ hE
     | ok x=>
      obtain⟨c,i1⟩:=x;rw[Fi] at qn yv;simp only at qn yv
      cases GA:Adz.what L pl dC c i1 with
      | error fl=>
       have hE:=Kd.2.2 _ _ _ Fi GA;rw[GA] at qn;rw[if_neg hE.ne];exact qn _ rfl _ hE
      | ok y=>
       obtain⟨c2,i2⟩:=y;rw[GA] at qn yv;simp only at qn yv;obtain⟨e1,e2,e3,e4,e5,e6,e7,e8,e9,JV⟩:=Kd.1 _ _ _ _ Fi GA;rw[e1];rw[if_pos rfl];simp only;by_cases bU:c2.what=123
       ·-- a block begins
        rw[if_pos bU];have hk:Adz.behindKind c2.what=some 1:=by rw[bU];decide
        have hB:Adz.behind L pl dC c2 (Adz.place pl i1) i2=.ok (c2,dC.opens++ [(dC.cmds.length:Int)],dC.labs,i2):=by
         unfold Adz.behind;rw[hk]
         rfl
        rw[hB] at qn yv;simp only[bU,beq_self_eq_true,if_true] at qn yv
        have T7:Rel L pl q (nest+1) {r with s:=⟨i2,0,q,(ps.cmds.length:Int)+1⟩} {i:=i2,cmds:=dC.cmds++ [c2],opens:=dC.opens++ [(dC.cmds.length:Int)],labs:=dC.labs}:=by
         refine⟨?_,e4,?_,?_,?_,?_⟩
         ·simp only[List.length_append,List.length_cons,List.length_nil,zy]
          simp
         ·simp[DY,nS]
         ·show LRel pl i2 r.labs r.jumps dC.labs
          rw[eX];exact IQ.mono (by omega)
         ·have:=JV bU;omega
         ·simp only[List.length_append,List.length_cons,List.length_nil,zy];omega
        obtain⟨I1,I2,I3⟩:=IH (nest+1) _ _ T7 (by show L.length<f+i2;omega)
        have fC:Adz.gapOrCommand L pl dC=.ok {i:=i2,cmds:=dC.cmds++ [c2],opens:=dC.opens++ [(dC.cmds.length:Int)],labs:=dC.labs}:=by
         rw[fN];unfold Adz.command;rw[zz,Fi];simp only;rw[GA];simp only;rw[hB];simp only[bU,beq_self_eq_true,if_true]
        generalize commands L pl f (nest+1) {r with s:=⟨i2,0,q,(ps.cmds.length:Int)+1⟩}=rr at*
        by_cases Li:rr.s.e=0
        ·obtain⟨dP,a,a0,b⟩:=I3 Li (by omega)
         have V6:i2<dP.i:=a0;have a':Rel L pl q nest rr dP:=a;obtain⟨J1,J2,J3⟩:=IH nest rr dP a' (by omega);refine⟨fun h m hm=> ?_,fun h hn=> ?_,fun h hn=> ?_⟩
         ·cases m with
          | zero=>omega
          | succ m=>
           rw[er iw fC];obtain⟨m',c1,Fe⟩:=b m (by show L.length<m+i2;omega);rw[Fe];exact J1 h m' c1
         ·obtain⟨PR,x1,x2⟩:=J2 h hn
          refine⟨PR,x1,fun m hm=> ?_⟩
          cases m with
          | zero=>omega
          | succ m=>
           rw[er iw fC];obtain⟨m',c1,Fe⟩:=b m (by show L.length<m+i2;omega);rw[Fe];exact x2 m' c1
         ·obtain⟨PR,x1,x0,x2⟩:=J3 h hn
          refine⟨PR,x1,by omega,fun m hm=> ?_⟩
          cases m with
          | zero=>omega
          | succ m=>
           obtain⟨m',c1,Fe⟩:=b m (by show L.length<m+i2;omega);obtain⟨VD,d1,d2⟩:=x2 m' c1;exact⟨VD,d1,by rw[er iw fC,Fe];exact d2⟩
        ·rw[mc Li]
         refine⟨fun _ m hm=> ?_,fun h=>absurd h Li,fun h=>absurd h Li⟩
         cases m with
         | zero=>omega
         | succ m=>
          rw[er iw fC];exact I1 Li m (by show L.length<m+i2;omega)
       ·rw[if_neg bU]
        have hB:=wk (pl:=pl) hg G9 At dC c2 e5 bU e6 e7 e8 j i1 i2 e2 (by omega) e4 q ((ps.cmds.length:Int)+1) r.labs r.jumps (by rw[eX];exact IQ)
        cases Gz:Adz.behind L pl dC c2 (Adz.place pl i1) i2 with
        | error fl=>
         rw[Gz] at qn;exact qn _ rfl _ (hB.2.1 _ Gz)
        | ok z=>
         obtain⟨c3,os,ls,i3⟩:=z;rw[Gz] at qn yv;simp only at qn yv
         cases Ml:Adz.tail L pl i3 with
         | error fl=>
          have Av:(c3.what==123)=false:=by
           have hx:=Gz;have:c3.what=c2.what:=behind_what Gz;rw[this];simpa using bU
          rw[Av,Ml] at qn;simp only[Bool.false_eq_true,if_false] at qn;exact qn _ rfl _ (hB.2.2 _ _ _ _ _ Gz Ml)
         | ok i4=>
          obtain⟨b1,b2,b3,b4,b5,b6⟩:=hB.1 _ _ _ _ _ Gz Ml;have Av:(c3.what==123)=false:=by rw[b6];simpa using bU
          rw[Av,Ml] at yv;simp only[Bool.false_eq_true,if_false] at yv;refine yv _ rfl _ ⟨?_,b5,?_,?_,hR.n5,?_⟩ (by show j<i4;omega)
          ·rw[b1]
           simp only[List.length_append,List.length_cons,List.length_nil,zy];simp
          ·show os.length=nest
           rw[b3,DY];exact nS
          ·exact b2
          ·simp only[List.length_append,List.length_cons,List.length_nil,zy];omega
end Rf
namespace Rf
open Adz (Flt)
def cS (first:Int) (u:Adz.Lab):Int:=if u.set== -1 && (first== -1 || decide (u.asked<first)) then u.asked else first
theorem eC:∀(al:List Adz.Lab) (first:Int),(∀u∈al,u.set= -1→0≤u.asked)→(first= -1∨0≤first)→
 (al.foldl cS first= -1∧first= -1∧∀u∈al,u.set≠ -1)∨
 (0≤al.foldl cS first∧(al.foldl cS first=first∨∃u∈al,u.set= -1∧u.asked=al.foldl cS first)∧(first≠ -1→al.foldl cS first≤first)∧∀u∈al,u.set= -1→al.foldl cS first≤u.asked)
 | [],first,_,hf=>by
  rcases hf with h | h
  ·exact Or.inl ⟨h,h,fun u hu=>by cases hu⟩
  ·exact Or.inr ⟨h,Or.inl rfl,fun _=>Int.le_refl _,fun u hu=>by cases hu⟩
 | u::al,first,ha,hf=>by
  have hu:=ha u (List.mem_cons_self ..);have xW:∀v∈al,v.set= -1→0≤v.asked:=fun v hv=>ha v (List.mem_cons_of_mem _ hv);rw[List.foldl_cons];by_cases hs:u.set= -1
  ·have h0:=hu hs
   by_cases aw:first= -1∨u.asked<first
   ·have e:cS first u=u.asked:=by
     unfold cS;rw[if_pos (by simp[hs];exact aw)]
    rw[e]
    rcases eC al u.asked xW (Or.inr h0) with ⟨a,b,c⟩ |⟨a,b,c,d⟩
    ·omega
    ·refine Or.inr ⟨a,Or.inr ?_,fun aJ=> ?_,fun v hv Jb=> ?_⟩
     ·rcases b with b |⟨v,hv,b1,b2⟩
      ·exact⟨u,List.mem_cons_self ..,hs,b.symm⟩
      ·exact⟨v,List.mem_cons_of_mem _ hv,b1,b2⟩
     ·have:=c (by omega)
      rcases aw with h | h
      ·exact absurd h aJ
      ·omega
     ·rcases List.mem_cons.1 hv with h | h
      ·subst h;exact c (by omega)
      ·exact d v h Jb
   ·have hn:first≠ -1∧¬u.asked<first:=⟨fun h=>aw (Or.inl h),fun h=>aw (Or.inr h)⟩
    have e:cS first u=first:=by
     unfold cS;rw[if_neg (by simp[hs];exact⟨hn.1,by omega⟩)]
    rw[e]
    rcases eC al first xW hf with ⟨a,b,c⟩ |⟨a,b,c,d⟩
    ·exact absurd b hn.1
    ·refine Or.inr ⟨a,?_,c,fun v hv Jb=> ?_⟩
     ·rcases b with b |⟨v,hv,b1,b2⟩
      ·exact Or.inl b
      ·exact Or.inr ⟨v,List.mem_cons_of_mem _ hv,b1,b2⟩
     ·rcases List.mem_cons.1 hv with h | h
      ·subst h;have:=c hn.1;omega
      ·exact d v h Jb
  ·have e:cS first u=first:=by
    unfold cS;have:(u.set== -1)=false:=by simpa using hs
    rw[this]
    rfl
   rw[e]
   rcases eC al first xW hf with ⟨a,b,c⟩ |⟨a,b,c,d⟩
   ·refine Or.inl ⟨a,b,fun v hv=> ?_⟩
    rcases List.mem_cons.1 hv with h | h
    ·subst h;exact hs
    ·exact c v h
   ·refine Or.inr ⟨a,?_,c,fun v hv Jb=> ?_⟩
    ·rcases b with b |⟨v,hv,b1,b2⟩
     ·exact Or.inl b
     ·exact Or.inr ⟨v,List.mem_cons_of_mem _ hv,b1,b2⟩
    ·rcases List.mem_cons.1 hv with h | h
     ·subst h;exact absurd Jb hs
     ·exact d v h Jb
theorem pG (al:List Adz.Lab):Adz.missing al=al.foldl cS (-1):=rfl
def AA (labs:List (List Int)) (j:List Int×Nat):Prop:=¬j.1∈labs∧j.1≠ []
theorem pC {pl:List Int}{labs:List (List Int)}{js:List (List Int×Nat)}{s:SS} (h:s.e≠0):jumpsOk pl labs js s=s:=by
 cases js with
 | nil=>rfl
 | cons j js=>unfold jumpsOk;rw[if_neg h]
theorem kK {pl:List Int}{labs:List (List Int)}:∀(js:List (List Int×Nat)) (s:SS),s.e=0→
 ((∀j∈js,¬AA labs j)∧jumpsOk pl labs js s=s)∨
 (∃a j b,js=a++j::b∧(∀x∈a,¬AA labs x)∧AA labs j∧jumpsOk pl labs js s=no pl s 7 j.2)
 | [],s,h=>Or.inl ⟨fun j hj=>(by cases hj),rfl⟩
 | j::js,s,h=>by
  unfold jumpsOk;rw[if_pos h];by_cases hb:AA labs j
  ·have hc:labs.contains j.1=false∧0<j.1.length:=⟨by simpa using hb.1,List.length_pos_iff.2 hb.2⟩
   rw[if_pos hc];have hE:=de h pl 7 j.2 (by decide);rw[pC hE.ne];exact Or.inr ⟨[],j,js,rfl,fun x hx=>(by cases hx),hb,rfl⟩
  ·have hc:¬(labs.contains j.1=false∧0<j.1.length):=fun hc=>hb ⟨by simpa using hc.1,List.length_pos_iff.1 hc.2⟩
   rw[if_neg hc]
   rcases kK js s h with ⟨a,b⟩ |⟨a,j0,b,h1,h2,h3,h4⟩
   ·refine Or.inl ⟨fun x hx=> ?_,b⟩
    rcases List.mem_cons.1 hx with e | e
    ·subst e;exact hb
    ·exact a x e
   ·refine Or.inr ⟨j::a,j0,b,by rw[h1];rfl,fun x hx=> ?_,h3,h4⟩
    rcases List.mem_cons.1 hx with e | e
    ·subst e;exact hb
    ·exact h2 x e
theorem readAll_agr {L pl:List Int} (hg:Good L) (G9:∀a b,a≤b→b≤L.length→Adz.place pl a≤Adz.place pl b) (At:∀a,0≤Adz.place pl a):
 (∀f,Adz.readAll L pl=.error f→Er (readAll L pl) f)∧(∀cs,Adz.readAll L pl=.ok cs→(readAll L pl).e=0∧(readAll L pl).p=0):=by
 have ze:Rel L pl 0 0 {s:=⟨0,0,0,0⟩} ⟨0,[],[],[]⟩:=
  ⟨rfl,Nat.zero_le _,rfl,⟨fun nm _=>⟨fun h=>(by cases h),fun⟨u,hu,_⟩=>(by cases hu)⟩,fun j hj=>(by cases hj),fun u hu=>(by cases hu),fun u hu=>(by cases hu),fun j hj=>(by cases hj),fun j hj=>(by cases hj),List.Pairwise.nil⟩,by omega,by simp⟩
 obtain⟨c1,c2,c3⟩:=kq (pl:=pl) hg G9 At 0 (L.length+1) 0 _ _ ze (by show L.length<L.length+1+0;omega);unfold readAll;simp only;generalize commands L pl (L.length+1) 0 {s:=⟨0,0,0,0⟩}=r at*
 by_cases he:r.s.e=0
 ·obtain⟨dP,hR,KQ⟩:=c2 he rfl
  have hG:=KQ (L.length+1) (by show L.length<L.length+1+0;omega)
  have gj:Adz.gaps L pl (L.length+1) ⟨0,[],[],[]⟩=.ok dP:=by
   unfold cI at hG
   cases h:Adz.gaps L pl (L.length+1) ⟨0,[],[],[]⟩ with
   | error f=>rw [h] at hG;cases hG
   | ok s=>
    rw[h] at hG;simp only at hG;split at hG
    ·cases hG
    ·injection hG with hG
     rw[hG]
  have O1:Adz.readAll L pl=if (Adz.missing dP.labs != -1)=true then .error (7,Adz.missing dP.labs) else .ok (Adz.setGoals dP.labs dP.cmds):=by
   unfold Adz.readAll;rw[gj];simp only;unfold Adz.finish;rw[if_neg (by rw[hR.op];decide)]
  rw[O1];have CV:=hR.lr
  have Bj:∀u∈dP.labs,u.set= -1→0≤u.asked:=by
   intro u hu hs;obtain⟨j,hj,a,b,c⟩:=CV.j2 u hu (Or.inr hs);rw[c];exact At _
  have cl:∀u∈dP.labs,u.set= -1→∃j∈r.jumps,AA r.labs j∧u.asked=Adz.place pl j.2:=by
   intro u hu hs;obtain⟨j,hj,a,b,c⟩:=CV.j2 u hu (Or.inr hs);refine⟨j,hj,⟨fun hm=> ?_,a⟩,c⟩;obtain⟨v,hv,e1,e2⟩:=(CV.known j.1 (CV.lets j hj)).1 hm;have:=CV.uniq v hv u hu (by rw[e1,b]);rw[this] at e2;exact e2 hs
  rcases kK (pl:=pl) (labs:=r.labs) r.jumps r.s he with ⟨a,b⟩ |⟨x,j0,y,h1,h2,h3,h4⟩
  ·have hm:Adz.missing dP.labs= -1:=by
    rw[pG]
    rcases eC dP.labs (-1) Bj (Or.inl rfl) with ⟨m1,_,_⟩ |⟨m1,m2,m3,m4⟩
    ·exact m1
    ·rcases m2 with m2 |⟨u,hu,m5,m6⟩
     ·omega
     ·obtain⟨j,hj,hb,_⟩:=cl u hu m5
      exact absurd hb (a j hj)
   rw[hm,b,hR.s];refine⟨fun f h=>(by cases h),fun cs h=>⟨rfl,rfl⟩⟩
  ·have BG:j0∈r.jumps:=by rw[h1];simp
   have hm:Adz.missing dP.labs=Adz.place pl j0.2∧Adz.missing dP.labs≠ -1:=by
    obtain⟨u,hu,e1,e2,e3⟩:=CV.j1 j0 BG h3.2;have nV:u.set= -1:=Decidable.byContradiction fun aJ=>h3.1 ((CV.known j0.1 (CV.lets j0 BG)).2 ⟨u,hu,e1,aJ⟩);rw[pG]
    rcases eC dP.labs (-1) Bj (Or.inl rfl) with ⟨m1,_,m2⟩ |⟨m1,m2,m3,m4⟩
    ·exact absurd nV (m2 u hu)
    ·have hle:=m4 u hu nV
     refine⟨?_,by omega⟩
     rcases m2 with m2 |⟨v,hv,m5,m6⟩
     ·omega
     ·obtain⟨j,hj,hb,hp⟩:=cl v hv m5
      have OX:j0.2≤j.2:=by
       rw[h1] at hj
       rcases List.mem_append.1 hj with h | h
       ·exact absurd hb (h2 j h)
       ·rcases List.mem_cons.1 h with h | h
        ·rw[h];exact Nat.le_refl _
        ·have:=CV.ord
         rw[h1] at this;exact(List.pairwise_cons.1 (List.pairwise_append.1 this).2.1).1 j h
      have:=G9 j0.2 j.2 OX (by have:=CV.low j hj;have:=hR.le;omega);omega
   have aJ:(Adz.missing dP.labs != -1)=true:=by simpa using hm.2
   rw[if_pos aJ,h4];refine⟨fun f h=> ?_,fun cs h=>(by cases h)⟩;injection h with h;rw[←h,hm.1];exact de he pl 7 j0.2 (by decide)
 ·have hG:=c1 he (L.length+1) (by show L.length<L.length+1+0;omega)
  rw[pC he]
  have O1:Adz.readAll L pl=.error (r.s.e,r.s.p):=by
   unfold Adz.readAll;unfold cI at hG
   cases h:Adz.gaps L pl (L.length+1) ⟨0,[],[],[]⟩ with
   | error f=>
    rw[h] at hG;injection hG with hG;rw[hG]
   | ok s=>
    rw[h] at hG;simp only at hG ⊢;unfold Adz.finish;split at hG
    ·rename_i ho
     rw[if_pos ho];injection hG with hG;rw[←hG]
     rfl
    ·cases hG
  rw[O1];refine⟨fun f h=> ?_,fun cs h=>(by cases h)⟩;injection h with h;rw[←h];exact⟨rfl,rfl,he⟩
end Rf
namespace Rf
def lg (s s':SS):Prop:=s'.e=0→s.e=0∧s.i<s'.i
def Mon (s s':SS):Prop:=s'.e=0→s.e=0∧s.i≤s'.i
theorem lg.mon {s s':SS} (h:lg s s'):Mon s s':=fun e=>⟨(h e).1,Nat.le_of_lt (h e).2⟩
theorem lg.trans {a b c:SS} (h:lg a b) (k:Mon b c):lg a c:=fun e=>⟨(h (k e).1).1,Nat.lt_of_lt_of_le (h (k e).1).2 (k e).2⟩
theorem Mon.adv {a b c:SS} (h:Mon a b) (k:lg b c):lg a c:=fun e=>⟨(h (k e).1).1,Nat.lt_of_le_of_lt (h (k e).1).2 (k e).2⟩
theorem Mon.trans {a b c:SS} (h:Mon a b) (k:Mon b c):Mon a c:=fun e=>⟨(h (k e).1).1,Nat.le_trans (h (k e).1).2 (k e).2⟩
theorem Mon.refl (s:SS):Mon s s:=fun e=>⟨e,Nat.le_refl _⟩
theorem cK (pl:List Int) (s:SS) (x:Int) (a:Nat) (hx:x≠0):(no pl s x a).e≠0:=by
 unfold no;by_cases h:s.e=0
 ·rw[if_pos h];exact hx
 ·rw[if_neg h];exact h
theorem now_e {L:List Int}{s:SS} (h:¬now L s<0):s.e=0:=by
 unfold now at h;by_cases he:s.e=0
 ·exact he
 ·rw[if_neg he] at h;exact absurd (by decide) h
theorem iW (L pl:List Int) (s:SS):lg s (next L pl s).2:=by
 unfold next;by_cases h:now L s<0
 ·rw[if_pos h];exact fun e=>absurd e (cK _ _ _ _ (by decide))
 ·rw[if_neg h];exact fun e=>⟨now_e h,Nat.lt_succ_self _⟩
theorem take_mon (L:List Int) (s:SS) (c:Int):Mon s (take L s c).2:=by
 unfold take;by_cases h:now L s=c
 ·rw[if_pos h];exact fun e=>⟨e,Nat.le_succ _⟩
 ·rw[if_neg h];exact Mon.refl s
theorem iK (L pl may:List Int) (s:SS):lg s (escaped L pl may s).2:=by
 unfold escaped;have hn:=iW L pl s;by_cases h:(next L pl s).1=110
 ·rw[if_pos h];exact hn
 ·rw[if_neg h]
  by_cases hc:may.contains (next L pl s).1=true
  ·simp only[hc,if_true];exact hn
  ·simp only[hc];exact fun e=>absurd e (cK _ _ _ _ (by decide))
theorem lQ (L pl but:List Int) (s:SS):lg s (plain L pl but s).2:=by
 unfold plain;have hn:=iW L pl s;by_cases h:(next L pl s).1=92
 ·rw[if_pos h];exact hn.trans (iK _ _ _ _).mon
 ·rw[if_neg h]
  by_cases hc:but.contains (next L pl s).1=true
  ·simp only[hc,if_true];exact fun e=>absurd e (cK _ _ _ _ (by decide))
  ·simp only[hc];exact hn
theorem CB (L pl:List Int) (lo:Int×SS):Mon lo.2 (upto L pl lo).2:=by
 unfold upto;have ht:=take_mon L lo.2 45;by_cases h:(take L lo.2 45).1=true
 ·rw[if_pos h];exact ht.trans (lQ _ _ _ _).mon
 ·rw[if_neg h];exact ht
theorem member_adv (L pl:List Int) (s:SS):lg s (member L pl s):=by
 unfold member;by_cases h:(upto L pl (plain L pl setBut s)).1<(plain L pl setBut s).1
 ·rw[if_pos h];exact fun e=>absurd e (cK _ _ _ _ (by decide))
 ·rw[if_neg h];exact(lQ _ _ _ _).trans (CB _ _ _)
theorem mz (L pl:List Int):∀(n:Nat) (b:Bool) (s:SS),Mon s (members L pl n b s)
 | 0,b,s=>Mon.refl s
 | n+1,b,s=>by
  unfold members;by_cases he:s.e=0
  ·rw[if_pos he]
   by_cases h:b=true∧now L s=93
   ·rw[if_pos h];exact fun e=>⟨he,Nat.le_succ _⟩
   ·rw[if_neg h];exact(member_adv L pl s).mon.trans (mz L pl n true _)
  ·rw[if_neg he];exact Mon.refl s
theorem Cc (L:List Int) (s:SS):Mon s (many L s):=by
 unfold many;by_cases h:now L s=42∨now L s=43∨now L s=63
 ·rw[if_pos h];exact fun e=>⟨e,Nat.le_succ _⟩
 ·rw[if_neg h];exact Mon.refl s
theorem xu (L pl:List Int) (s:SS):lg s (single L pl s):=by
 unfold single;by_cases h:now L s=46
 ·rw[if_pos h];exact fun e=>⟨e,Nat.lt_succ_self _⟩
 ·rw[if_neg h]
  by_cases h2:now L s=91
  ·rw[if_pos h2]
   have h1:lg s {s with i:=s.i+1}:=fun e=>⟨e,Nat.lt_succ_self _⟩;exact h1.trans ((take_mon _ _ _).trans (mz _ _ _ _ _))
  ·rw[if_neg h2];exact lQ _ _ _ _
theorem zQ (L pl:List Int) (s:SS):lg s (piece L pl s):=(xu L pl s).trans (Cc _ _)
theorem pstep_adv (L pl:List Int) (first:Nat) (t:PS) (h0:t.s.e=0):lg t.s (pstep L pl first t).s:=by
 have st:lg t.s {t.s with i:=t.s.i+1}:=fun e=>⟨e,Nat.lt_succ_self _⟩;unfold pstep;by_cases h1:now L t.s=94∧t.s.i=first
 ·rw[if_pos h1];exact st
 rw[if_neg h1];by_cases h2:now L t.s=40
 ·rw[if_pos h2]
  simp only;split
  ·exact fun e=>absurd e (cK _ _ _ _ (by decide))
  ·exact st
 rw[if_neg h2];by_cases h3:now L t.s=41
 ·rw[if_pos h3]
  by_cases h4:t.opens=0
  ·rw[if_pos h4];exact fun e=>absurd e (cK _ _ _ _ (by decide))
  ·rw[if_neg h4];exact st
 rw[if_neg h3];by_cases h5:now L t.s=36
 ·rw[if_pos h5]
  simp only;split
  ·exact st
  ·exact fun e=>absurd e (cK _ _ _ _ (by decide))
 rw[if_neg h5];exact zQ _ _ _
theorem rstep_adv (L pl:List Int) (g:Nat) (s:SS):lg s (rstep L pl g s):=by
 have hn:=iW L pl s
 have h1:lg s (if (next L pl s).1=10 then no pl (next L pl s).2 3 s.i else (next L pl s).2):=by
  split
  ·exact fun e=>absurd e (cK _ _ _ _ (by decide))
  ·exact hn
 unfold rstep;simp only;generalize (if (next L pl s).1=10 then no pl (next L pl s).2 3 s.i else (next L pl s).2)=s1 at*
 split
 ·exact h1
 ·split
  ·split
   ·exact fun e=>absurd e (cK _ _ _ _ (by decide))
   ·exact h1.trans (fun e=>⟨e,Nat.le_succ _⟩)
  ·split
   ·exact h1.trans (iK _ _ _ _).mon
   ·exact h1
theorem ustep_adv (L pl:List Int) (s:SS):lg s (ustep L pl s).2:=by
 have hn:=iW L pl s
 have h1:lg s (if (next L pl s).1=10 then no pl (next L pl s).2 3 s.i else (next L pl s).2):=by
  split
  ·exact fun e=>absurd e (cK _ _ _ _ (by decide))
  ·exact hn
 unfold ustep;simp only;generalize (if (next L pl s).1=10 then no pl (next L pl s).2 3 s.i else (next L pl s).2)=s1 at*
 split
 ·exact h1.trans (iK _ _ _ _).mon
 ·exact h1
theorem number_adv {L pl:List Int}{s:SS} (h:Adz.isDigit (now L s)=true):lg s (number L pl s).2:=by
 have he:s.e=0:=now_e (L:=L) (by have:=Adz.digit_range h;omega);unfold number;rw[if_pos he];simp only;split
 ·exact fun e=>absurd e (cK _ _ _ _ (by decide))
 ·refine fun e=>⟨he,?_⟩
  have hd:Adz.isDigit (Adz.peek L s.i)=true:=by
   unfold now at h;rw[if_pos he] at h;exact h
  show s.i<s.i+(Adz.digitsOf L s.i).length;rw[Adz.digits_step hd];simp
end Rf
end
end Go.Proofs.YtbiobhghnldckaaGreatDoor
