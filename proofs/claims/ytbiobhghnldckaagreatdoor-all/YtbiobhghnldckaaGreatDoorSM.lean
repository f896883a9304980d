/- Proved: steps on the way to the card. Conditions: as each states. -/
import Derived.ArgAppend
import Derived.BigQuiet
import Derived.BigRegion
import Derived.ChangeMaps5
import Derived.ChangeSame
import Derived.ChangeSlices
import Derived.Deep.AppendLies
import Derived.Deep.Cut
import Derived.Deep.CutBlock
import Derived.Deep.CutRange
import Derived.Deep.DrawnRows
import Derived.Deep.Draws
import Derived.Deep.LoopGhost
import Derived.Deep.MidRow
import Derived.Deep.QuietTactic
import Derived.Deep.RegionHeld3
import Derived.Deep.RegionLaw
import Derived.Deep.RegionWith
import Derived.Deep.Slices
import Derived.HandedShaped
import Derived.LaidMore
import Derived.LaidOnce
import Derived.Laws.Bits64b
import Derived.Laws.Cover4
import Derived.Laws.Externs
import Derived.Laws.IdiomStrings
import Derived.Lay
import Derived.Lib.AppendStr
import Derived.Lib.Builder
import Derived.Lib.DecodeN
import Derived.Lib.LaidU8
import Derived.Lib.LaidU8T
import Derived.Lib.MapLaws
import Derived.Lib.OthersKept
import Derived.Lib.SliceRun
import Derived.Lib.Strings
import Derived.Lib.TrimUEq
import Derived.Lib.UnsafeStr
import Derived.Lib.ValidU
import Derived.LoopIn
import Derived.Maps.RangeRun
import Derived.OpenShut
import Derived.OrdersHeld
import Derived.OwnWalkIn
import Derived.ProofKit
import Derived.RangeFuncBound
import Derived.RangeFuncCalls
import Derived.RangeFuncLeaves
import Derived.RangeFuncNested
import Derived.SevenTiedAt
import Derived.Shelf.Vars
import Derived.ShutString
import Derived.Stop.Joined
import Derived.TacticsInMore
import Derived.WalkKit
import Derived.WalkLawsBesides
import Derived.WalkSmall
import Derived.WideKeyArgs
import GoSem.Core.Utf8
import Derived.Test.YtbiobhghnldckaaGreatDoorProg
namespace Go.Proofs.YtbiobhghnldckaaGreatDoor
open Go.RowKit
set_option linter.unusedVariables false
theorem aU{P:Prop}(h:P:=by simp_all):P:=h
theorem cr{P:Prop}(h:P:=by grind):P:=h
theorem cN{P:Prop}(h:P:=by cases h):P:=h
theorem cZ{P:Prop}(h:P:=by rfl):P:=h
theorem fF{P:Prop}(h:P:=by rw[IntKind.wrap_i64];omega):P:=h
theorem iK{P:Prop}(h:P:=by rw[jr];show w.heap.size+1<_;omega):P:=h
theorem jq{P:Prop}(h:P:=by simp[Value.oneCell']):P:=h
theorem nF{P:Prop}(h:P:=by first|exact(R.refl _ _).drew|exact(R.refl _ _).drewN _|exact R.refl _ _):P:=h
theorem GI{P:Prop}(h:P:=by rw[h,e]):P:=h
theorem pq{P:Prop}(h:P:=by simp[d6.o]):P:=h
theorem lL{P:Prop}(h:P:=by simp[oz.o]):P:=h
theorem lM{P:Prop}(h:P:=by simp only;omega):P:=h
theorem mD{P:Prop}(h:P:=by have:=f3.out;omega):P:=h
theorem nG{P:Prop}(h:P:=by simp[World.cell?_alloc_past _ _ _ ja,l4]):P:=h
theorem pr{P:Prop}(h:P:=by simp[d4]):P:=h
theorem pw{P:Prop}(h:P:=by unfold maxLen;omega):P:=h
theorem vh{P:Prop}(h:P:=by simp[results,Tryz.results196,go_sem,fd,b1,b7]):P:=h
theorem Cj{P:Prop}(h:P:=by rw[g4];rfl):P:=h
theorem vj{P:Prop}(h:P:=by rw[jr];omega):P:=h
theorem yU{P:Prop}(h:P:=by simp[results,Tryz.results236,go_sem,fd,b1]):P:=h
theorem SC{P:Prop}(h:P:=by simp[results,Tryz.results107,go_sem,v0,v1]):P:=h
theorem yV{P:Prop}(h:P:=by rw[EX.out];exact av):P:=h
theorem Ck{P:Prop}(h:P:=by intro e;simp[e]at ad):P:=h
theorem Cm{P:Prop}(h:P:=by unfold kQ;rw[c6];rfl):P:=h
theorem Cn{P:Prop}(h:P:=by rw[A.mG];omega):P:=h
theorem NG{P:Prop}(h:P:=by rw[g4]at hle0;simpa using hle0):P:=h
theorem NH{P:Prop}(h:P:=by rw[g4]at hle;simpa using hle):P:=h
theorem Co{P:Prop}(h:P:=by show L.length<m+i2;omega):P:=h
theorem GJ{P:Prop}(h:P:=by simp[results,Tryz.results174,go_sem,fd,b1]):P:=h
theorem Cp{P:Prop}(h:P:=by rw[a9];simp;omega):P:=h
theorem GK{P:Prop}(h:P:=by simp[results,Tryz.results152,go_sem,v0,v1,v2,v3,v4];rfl):P:=h
theorem GL{P:Prop}(h:P:=by simp[results,Tryz.results152,go_sem,v0,v1,v2,v3,v4]):P:=h
theorem GM{P:Prop}(h:P:=by have:=c5.size;simp at this;omega):P:=h
theorem GN{P:Prop}(h:P:=by intro v ch;simp at ch;obtain⟨a,_,rfl⟩:=ch;rfl):P:=h
theorem GQ{P:Prop}(h:P:=by simp[sizeOf,typeInfo,b2,ia]):P:=h
theorem GR{P:Prop}(h:P:=by intro u cW;simp at cW;obtain⟨r,_,rfl⟩:=cW;rfl):P:=h
theorem UK{P:Prop}(h:P:=by rw[List.getElem?_set_self (by simp_all)]):P:=h
theorem GS{P:Prop}(h:P:=by unfold Er.aP;split <;> rfl):P:=h
theorem GU{P:Prop}(h:P:=by rw[List.length_map,List.length_take];omega):P:=h
theorem GW{P:Prop}(h:P:=by first|rfl|simp[Act.eval]):P:=h
theorem NI{P:Prop}(h:P:=by show 5001<=n+M.2.ar;omega):P:=h
theorem NJ{P:Prop}(h:P:=by first|exact((R.refl (fun _=>False) w).drewN _).alloc _|exact(((R.refl (fun _=>False) w).drewN _).drewN _).alloc _):P:=h
theorem NK{P:Prop}(h:P:=by show ¬w.heap.size+1<w.heap.size;omega):P:=h
theorem GX{P:Prop}(h:P:=by rw[List.map_append];exact ax fz (ah _ _ _ _) (fun b a5 e=>by have:=(fz.lt b a5).1;omega)):P:=h
theorem GY{P:Prop}(h:P:=by simp[results,Tryz.results82,go_sem,v0,v1,v2,v3]):P:=h
theorem GZ{P:Prop}(h:P:=by rw[<-World.drewN_drewN];exact P.aw d0 (P.eA.drewN kc) ((R.refl _ _).drewN kc)):P:=h
theorem NL{P:Prop}(h:P:=by rw[ou];exact c7.quiet j1 bq ((R.refl _ wr).drewN ce)):P:=h
theorem NM{P:Prop}(h:P:=by simp[results,Tryz.results225,go_sem,fd,b1,b7,dq]):P:=h
theorem NO{P:Prop}(h:P:=by rw[List.getElem?_map,<-bb,List.getD_eq_getElem?_getD,List.getElem?_eq_getElem (by rw[dN.len];omega)];rfl):P:=h
theorem NP{P:Prop}(h:P:=by rw[List.getElem?_map,<-bA,List.getD_eq_getElem?_getD,List.getElem?_eq_getElem (by rw[dN.len];omega)];rfl):P:=h
theorem NQ{P:Prop}(h:P:=by rw[List.getD_eq_getElem?_getD,List.getD_eq_getElem?_getD,List.getElem?_take,if_pos aa]):P:=h
theorem NR{P:Prop}(h:P:=by rw[(ry F (row.getD i {}) (aC (eN t))).1,a9]):P:=h
theorem TX{P:Prop}(h:P:=by
 clear bv c4 l2 hQ kF;go_upto_region 7 with (fail)
 go_quiet (fail)
 have dj:aG a0 (a0.drewN nq):=(R.refl _ a0).drewN nq;have tx:=dj.T j9 id
 have rb:Hid (∃fv,(a0.drewN nq).ownsRow w.heap.size 35 1 (.slice bh d3.length j2) d3.length fv/\∀(i:Nat) (l:List Int),d3[i]? =some l->∃ra rc,fv[i]? =some (.slice ra l.length (l.length+rc))/\bW (a0.drewN nq) ra l):=by
  obtain⟨fv,dl,h0⟩:=se.o;refine⟨fv,gp dl dj,fun i l bs=>?_⟩;obtain⟨ra,rc,nx,nm⟩:=h0 i l bs;exact⟨ra,rc,nx,nm.quiet dj⟩
 have nu:Hid (aG w (a0.drewN nq)):=oV.o.t dj;have s2:Hid (bW (a0.drewN nq) (some ⟨hB,0,none⟩) m):=bW.quiet s9.o dj;generalize a0.drewN nq=a7 at*
 clear dj se oV s9 oq j9;obtain⟨fv,dl,h0⟩:=rb.o;go_upto_region 9 with (fail)
 have jr:(a7.alloc (.cells #[bJ hB (2*g+2) (2*g+2)] 35)).heap.size=a7.heap.size+1:=aK;have rn:aG a7 (a7.alloc (.cells #[bJ hB (2*g+2) (2*g+2)] 35)):=(R.refl _ a7).alloc _;have hL:=gp dl rn;have o6:=nu.o.size;go_upto_region 10 with (at_builtin;refine iT B6 hL ?_;intro c0 gs ba fz f2 hk k6)
 have hp:R (fun b=>(Value.slice bh d3.length j2).ownBlock=some b) a7 ba:=rn.t (R.bT f2);have y9:=Gl dl h0 hp (l:=m) (ra:=some ⟨hB,0,none⟩) (rc:=0) (by rw[lS];exact fz) s2.o;have ac:aG w ba:=nu.o.trans hp (fun _ e=>e) (fun b a5 e=>by have:=(dl.lt b e).1;omega);obtain⟨hm,c',y4,p9,b1,b7⟩:=y9;obtain⟨ha,jj,eb,xf,_⟩:=s2.o (fun e=>by rw[e]at lS;simp at lS);injection eb with eb;injection eb with x7 xs;subst x7;have z5:=hp.T tx (fun e=>absurd (xf.eH (aR.aJ dl e)) ae);have fb:Hid (∃fv,ba.ownsRow w.heap.size 35 1 (bJ c0 (d3.length+1) gs) (d3.length+1) fv/\∀(i:Nat) (l:List Int),(d3++[m])[i]? =some l->∃ra rc,fv[i]? =some (.slice ra l.length (l.length+rc))/\bW ba ra l):=⟨y4,by injection p9 with a9 an c8;subst a9;subst c8;rw[List.length_append]at b1;exact b1,b7⟩;have qv:=Y ac;clear b1 b7 p9 ac hp fz f2 hk k6 hL rn jr dl h0 xs;go_wp2;go_roundg n
 case measure=>omega
 case rel=>exact ⟨hX,(hX:Int),d3++[m],_,_,by rw[List.length_append];rfl,rfl,rfl,by
  obtain⟨u1,u2,u3⟩:=kd.out;rw[if_pos trivial]at u2;rw[List.length_append];exact⟨u1,by rw[if_pos rfl];exact u2,u3⟩,by
  show(d3++[m])++_=g6;rw[List.append_assoc];exact q7.o,by rw[List.length_append];exact fb.o,qv.o⟩):P:=h
theorem TY{P:Prop}(h:P:=by
 have m9:iF s.ak s.au.length s.au[j]={s.au[j]with cM:=(s.au.length:Int)}:=by
  unfold iF;rw[if_pos be,if_pos (by simp[oN])]
 have ht:=vn (iF s.ak s.au.length) s.au j ad
 have lm:∀m,(Instr.lookup 115 (.map (some hc)) (.int .i32 (s.au[j]).ag) false).run Tryz.prog (wr.drewN m)=.ok (Z 4) (wr.drewN m):=fun m=>by
  rw[<-be];exact kV (wr.drewN m) hc _ g2
 have lp:wr.cell? ⟨qb,j*14+5,none⟩=some (Z (s.au[j]).cM):=by
  obtain⟨_,_,_,_,_,e⟩:=mh 5 E ci j E;rw[am.cellAt (j*14+5) E,e,pu]
  rfl
 have s6:wr.cell? ⟨qb,j*14+4,none⟩=some (.string ⟨#[]⟩):=by
  obtain⟨_,_,_,_,_,e⟩:=mh 4 E ci j E;rw[am.cellAt (j*14+4) E,e,pu];show some (Value.string ⟨(s.au[j]).name.toArray⟩)=_;rw[oN]
 have t6:=CI am (j*14+5)
 have o7:(lO (iF s.ak s.au.length) s.au j).set j {(lO (iF s.ak s.au.length) s.au j)[j]'E with cM:=(s.au.length:Int)}=lO (iF s.ak s.au.length) s.au (j+1):=by
  rw[ht,m9,pu]
 have l9:=Y o7;have p5:=Y lS;have t1:=fun m=>(gj.aw (gj.bI.drewN m) ((R.refl _ wr).drewN m) (Nat.le_refl _):iP g pp aq (wr.drewN m) {s with au:=lO (iF s.ak s.au.length) s.au j});have sN:=Y t1;have pv:(j:Int)<(s.au.length:Int):=E;generalize (s.au[j]).ag=n3,(s.au[j]).cM=sm at*
 go_wp21
 go_quiet (fail)
 go_wp21
 have s3:=sN.o nq;obtain⟨tn,ac,s8⟩:=s3.B2 (qb:=qb) (qc:=qc) (by rw[p5.o];exact bc) j (by rw[p5.o];exact ad) (s.au.length:Int)
 have yo:((wr.drewN nq).setCell ⟨qb,j*14+5,none⟩ (Z (s.au.length:Int))).cell? ⟨qb,j*14+4,none⟩=some (.string ⟨#[]⟩):=by
  rw[World.cell?_setCell_other _ _ _ _ aK];exact s6
 have bh:R (fun b=>aq<=b) w ((wr.drewN nq).setCell ⟨qb,j*14+5,none⟩ (Z (s.au.length:Int))):=(lc.o.2.drewN nq).t ac;have s0:=Y tn;generalize (wr.drewN nq).setCell ⟨qb,j*14+5,none⟩ (Z (s.au.length:Int))=a7 at*
 go_wp2;go_roundg (gk-1)
 case measure=>have:=hv.o;omega
 case rel=>
  refine⟨j+1,by go_num,E,⟨bV hv.o,?_,bh⟩⟩;rw[<-l9.o];exact s0.o):P:=h
theorem SB{P:Prop}(h:P:=by
 have hW:=l9.o;unfold V.dE at hW;simp only at hW
 try dsimp only[World.s]at*
 generalize V.skip g.L k3 false=ff at*
 have q0:=kR.cC
 go_wp21
 refine l2.k fun m1 ⟨g0,nd⟩=>?_;have mm:=cL g m1 ff g0;have oS:=g0.le;obtain⟨sS,te,o9,qu⟩:=g0.cells;have rx:=bC o9 2;clear o9 qu;by_cases kv:0<=V.bj g.L ff/\V.bj g.L ff≠59/\V.bj g.L ff≠10/\V.bj g.L ff≠125
 ·rw[if_pos kv]at hW
  obtain⟨kb,a9,an,c8⟩:=kv;have co:(V.bj g.L ff==59)=false:=bS a9;have d7:(V.bj g.L ff==10)=false:=bS an;have g8:(V.bj g.L ff==125)=false:=bS c8;have r4:=iN co;have p4:=iN d7;have qs:=iN g8;clear a9 an c8;have lr:=Y hW;clear hW l9
  try dsimp only[World.s]at*
  generalize V.bj g.L ff=ng at*
  go_wp21
  refine mm.kd fun hH=>?_
  go_wp21
  refine(cO g _ _ (g0.drewN hH) 3 ff.i oS).k fun t4 ⟨hK,pc⟩=>?_;go_wp2;go_end0;exact⟨rfl,lr.o _ hK (nd.t (pc.d))⟩
 ·rw[if_neg kv]at hW
  have lr:=Y hW;have k9:V.bj g.L ff<0\/V.bj g.L ff=59\/V.bj g.L ff=10\/V.bj g.L ff=125:=E;clear hW l9 kv
  rcases k9 with x|x|x|x
  all_goals
   first
    |rw[x]at mm
    |generalize V.bj g.L ff=ng at*
   go_wp21
   refine mm.kd fun hH=>?_;go_wp2;go_end0;exact⟨rfl,lr.o _ (g0.drewN hH) (nd.drewN hH)⟩):P:=h
theorem Nw{P:Prop}(h:P:=by
 have h9:=P.eA;obtain⟨xn,xk,re,tj⟩:=P.Fp;have tb:Hid _:=tj;clear tj;have o4:=re 0 _ rfl;have hn:=re 1 _ rfl;have v0:=P.xm 0 _ rfl;have v1:=P.xm 1 _ rfl;have nc:=P.o;clear re P;go_wp2;refine bodyPost_ret (v:=.agg #[.slice xn t.n xk,.int .i64 (t.af:Int)]) SC rfl ?_
 first
  |exact⟨_,_,_,rfl,tb.out _ (Ja _ _ _ _),da.sG h9 w.heap.size d0 hM hG (rD _ _ _ _),nc.trans (rD _ _ _ _) (fun _ e=>e) (fun b a5 e=>absurd e (by omega))⟩
  |exact⟨⟨_,_,_,rfl⟩,tb.out _ (Ja _ _ _ _),da.sG h9 w.heap.size d0 hM hG (rD _ _ _ _),nc.trans (rD _ _ _ _) (fun _ e=>e) (fun b a5 e=>absurd e (by omega))⟩):P:=h
theorem TZ{P:Prop}(h:P:=by
 have jl:=z2.o k (bV f3.o) hY hh B {r' with s:=c4} g7.sf tr.o x2.o rL.o;rw[EX.out,m3.out,xa.out]at jl;have mS:=V.Ph g.L g.pl k ca {r' with s:=c4} tr.o;have hZ:=V.Ds g.L g.pl k ca (fun r h=>V.l7 g.L g.pl k (ca+1) r h) {r' with s:=c4} x2.o;have cn:=hz.o;generalize V.tA g.L g.pl k ca {r' with s:=c4}=r6 at*
 have x9:=Y cn;have rv:=Y mS;have sv:=Y hZ;clear cn mS hz hZ
 go_wp21
 refine jl.mono ?_;intro e a7 gj;obtain⟨cb,c0,rfl,hO,t5⟩:=g7.Uo gj sv.o.2 r0.o (D:=a3) (bV f3.o) o8.out;have q5:Hid _:=t5;clear t5 o8;clear gj jl g7;go_upto_region 13 with (fail)
 have jr:(a7.alloc (.cells #[az cb] 88)).heap.size=a7.heap.size+1:=aK;have bh:aG a7 (a7.alloc (.cells #[az cb] 88)):=(R.refl _ a7).alloc _;have hL:=gp hO.row bh;have o6:=hO.o.size;have nC:ln<=501:=bV f3.o;go_wp2_with (at_builtin;refine iT DX hL ?_;intro hs y3 ba fz f2 hk k6);have kA:=hO.qd hD (bh.t (R.bT f2)) fz (hk.imp id (fun h=>E));have r2:Hid (qg w ba c0 (bJ hs (ln+1) y3) a3 r.row.length r6 (fv++[az cb])):=qg.qd hO q5.o (bh.t (R.bT f2)) (hk.imp id (fun h=>E));clear hO hL bh q5;go_roundg k
 case measure=>have:=f3.o;omega
 case rel=>exact ⟨c0,r6,_,_,_,_,rfl,kA,r2.out,⟨x9.o,rv.o.2,fun e=>by have o:=(rv.o.1 e).2;have a4:g.L.length<=c4.i+k:=(by have g0:=rL.o;rw[m3.out]at g0;exact g0);have ab:c4.i<r6.s.i:=o;omega,bV f3.o,sv.o.1⟩⟩):P:=h
theorem T4{P:Prop}(h:P:=by
 obtain⟨t9,tl,d5,d9⟩:=a4.cells;have m6:=bC d5 0;have g3:=bC d5 2;have n0:(s.i:Int)<=(F.i:Int):=bV hv.o;have jn:(F.i:Int)<=(g.lc:Int):=E;by_cases g4:g.L= []
 ·have ip:=d9.1 g4
  subst ip;have a9:s.i=0:=NG;have an:F.i=0:=NH
  have hV:Hid (kl g aM bE):=by
   have cm:bE= []:=List.eq_nil_of_length_eq_zero (bV hv.o);exact⟨none,0,by rw[cm];rfl,fun e=>absurd cm e⟩
  have c8:g.L.length=0:=Cj;have hJ:=cv.Bz g4;clear d5 d9;rw[an]at g3;rw[c8,hJ]at m6
  go_wp21
  go_quiet (fail)
  go_wp2;go_ret;exact⟨_,rfl,hV.o,by first|exact cv.drewN _|exact(cv.drewN _).drewN _,by first|exact f9.drewN _|exact(f9.drewN _).drewN _⟩
 ·have ip:=d9.2 g4
  subst ip;clear d5 d9;by_cases ll:g.lc=s.i
  ·have hV:Hid (∀X C,kl g (.slice X (F.i-s.i) C) bE):=fun X C=>by
    have ap:=hv.o;have cm:bE= []:=List.eq_nil_of_length_eq_zero E;exact⟨X,_,by rw[show F.i-s.i=bE.length by omega],fun e=>absurd cm e⟩
   go_wp21
   go_quiet (fail)
   go_wp2;go_ret;exact⟨_,rfl,hV.o _ _,by first|exact cv.drewN _|exact(cv.drewN _).drewN _,by first|exact f9.drewN _|exact(f9.drewN _).drewN _⟩
  ·have hV:Hid (kl g (.slice (some ⟨g.lb,s.i,none⟩) (F.i-s.i) (g.lc-s.i)) bE):=by
    have ap:=hv.o;exact⟨_,_,by rw[show F.i-s.i=bE.length by omega],fun _=>⟨s.i,rfl,E,tq.o⟩⟩
   go_wp21
   go_quiet (fail)
   go_wp2;go_ret
   exact⟨_,rfl,hV.o,by first|exact cv.drewN _|exact(cv.drewN _).drewN _,by first|exact f9.drewN _|exact(f9.drewN _).drewN _⟩):P:=h
theorem Ka{P:Prop}(h:P:=by
 go_wp21
 go_region
 go_wp2;go_end0;refine⟨rfl,da.jh pa.o js j1 l5 ?_ _ _,Em fo.o ?_ _ _,fun c hb=>((hb.aw z4.o fo.o).quiet ?_).text (po.o _ _ _ E (fun hC=>by first|rfl|omega))⟩
 all_goals first
  |exact(R.refl _ _).drewN _
  |exact((R.refl _ _).drewN _).drew
  |exact(((R.refl _ _).drewN _).drewN _).drew
  |exact((R.refl _ _).drewN _).drewN _):P:=h
theorem T5{P:Prop}(h:P:=by
 go_wp21
 refine(hE.o _).k fun a7 ⟨a4,ac⟩=>?_;obtain⟨t9,tl,d5,d9⟩:=a4.cells;have m6:=bC d5 0;have g3:=bC d5 2;rw[V.UN]at g3;have n0:(s.i:Int)<=(bk.i:Int):=bV hv.o;have jn:(bk.i:Int)<=(g.lc:Int):=E;by_cases g4:g.L= []
 ·have ip:=d9.1 g4
  subst ip;have a9:s.i=0:=NG;have an:bk.i=0:=NH
  have hV:Hid (kl g aM bE):=by
   have cm:bE= []:=List.eq_nil_of_length_eq_zero (bV hv.o);exact⟨none,0,by rw[cm];rfl,fun e=>absurd cm e⟩
  have c8:g.L.length=0:=Cj;have hJ:=cv.Bz g4;clear d5 d9;rw[an]at g3;rw[c8,hJ]at m6
  go_wp21
  go_quiet (fail)
  go_wp2;go_ret;exact⟨_,rfl,hV.o,a4.drewN _,((f9.drewN _).t ac:R (·=g.x) w a7).drewN _⟩
 ·have ip:=d9.2 g4
  subst ip
  have hV:Hid (kl g (.slice (some ⟨g.lb,s.i,none⟩) (bk.i-s.i) (g.lc-s.i)) bE):=by
   have ap:=hv.o;exact⟨_,_,by rw[show bk.i-s.i=bE.length by omega],fun _=>⟨s.i,rfl,E,tq.o⟩⟩
  clear d5 d9
  go_wp21
  go_quiet (fail)
  go_wp2;go_ret;exact⟨_,rfl,hV.o,a4.drewN _,((f9.drewN _).t ac:R (·=g.x) w a7).drewN _⟩):P:=h
theorem T6{P:Prop}(h:P:=by
 clear o
 rcases kW with rfl|rfl|rfl
 all_goals
  go_wp21
  refine p8.kd fun hH=>?_;go_wp2;have p1:=fun m=>da.sG (h6.o.drewN hH) w.heap.size d0 hM hG (R.setCell (S:=fun b=>w.heap.size<=b) (p:=⟨w.heap.size+1,4,none⟩) (R.refl _ _) (fun _=>Nat.le_succ _) (.int .u8 m));have ls:=fun m=>(p1 m).step r8;refine bodyPost_ret (v:=.agg #[.int .u8 120,aB,.slice b9 (2*n) bi,.bool g8,.int .u8 _]) GK rfl ⟨_,rfl,by rw[o5.o];exact⟨.slice b9 (2*n) bi,rfl,(oj.o.T ((((R.refl (fun b=>b=g.x\/b=w.heap.size+1) _).drewN hH).setCell (p:=⟨w.heap.size+1,4,none⟩) (fun _=>Or.inr rfl) _).t (ls _).2) (fun b a5 _ e=>by rcases e with e|e <;> omega) (fun b a5 _=>a5)).T (xQ _ w.heap.size _ _ _ _ _) (fun b a5 _ e=>E) (fun b a5 _=>E)⟩,da.sG (ls _).1 w.heap.size d0 hM hG (gY _ _ _ _ _ _ _),?_⟩;exact(((fo.o.drewN hH).setCell (p:=⟨w.heap.size+1,4,none⟩) (fun e=>absurd e NK) _).t (ls _).2).t (gY _ _ _ _ _ _ _)):P:=h
theorem T7{P:Prop}(h:P:=by
 clear r5 ib hy st t7;have dj:aG rP rP.drew:=(R.refl _ rP).drew;have y1:=gp s7 dj;have k9:=(x8.T dj (fun _ _ _=>id)).cut rc a3 t E E s4;have oP:a3<=t:=E;have ro:t<=rc:=E
 go_region_law ((refine kK _ aV _ _ aV aq (.slice hm f0 c') f0 h aV y1 _ _ (A.nJ sp a3 t) _ aV k8.symm (by first|exact k9|simpa using k9) E (by have:=rg.size;have:=dj.size;omega) ?_;intro c6 am a7 fz dn hk))
 all_goals
  clear k9;generalize (if rc=a3 then ra else Option.map (fun a1=>a1.add a3) ra)=b9 at*
  go_wp2;go_roundg (gk-1)
  case measure=>have:=fb.o;omega
  case rel=>exact ⟨j+1,f0+(t-a3),c6,am,h++A.nJ sp a3 t,rfl,by first|rfl|simp,bV fb.o,rT,by show _=_;rw[List.length_append,k8,hr.out],fz,(rg.t dj).trans dn (fun _ e=>e) (fun b a5 e=>by rcases ab.out b e with e|e;exact e;omega),kw (rg.t dj).size hk⟩):P:=h
theorem QK{P:Prop}(h:P:=by
 refine⟨rfl,c9.mono ?_⟩;clear c9 hl;rintro e cp (⟨rfl,rd,nr⟩ |⟨rfl,y8⟩)
 ·have ol:=q2.round it nr
  obtain⟨S,c3,mn,_⟩:=nr.only;have z9:=c3.T x0 (mn _ _ od.aZ ae ae ae ae);clear c3 mn nr q2 t2 od x0 tt;have oW:=kk cp ol;clear kk;generalize A.bD (A.eZ sp a6) hX=kf at*
  gi_wp2
  refine⟨trivial,rfl,(callsIn_wide.2 oW).mono ?_⟩;clear oW;rintro e fc ⟨rfl,r9,pn⟩;have xt:=ol.step r9 pn;have x4:J (pre++[m]) fc:=q3 _ _ _ rd (r9.mono (fun c _ e=>by subst e;exact⟨ol.xu.aZ,nO⟩));clear r9 pn ol rd
  gi_wp2
  go_roundw
  case rel=>exact ⟨pre++[m],k',hX,kf,rfl,rfl,by show _=_;rw[dN.out,tE.out];simp,tv,x3,xt,x4⟩
  case measure=>exact ts.out
 ·gi_wp2
  refine bodyPost_ret (results_none rfl _ _ _) rfl ?_;exact⟨⟨_,rfl⟩,.inr ⟨pre++[m],⟨h6.o,aK⟩,y8⟩⟩):P:=h
theorem D6{P:Prop}(h:P:=by
 generalize c.ag=n3 at*
 go_enter Tryz.func103,Tryz.ntmps103
 go_wp21
 go_quiet (fail)
 go_wp21
 refine(kp _).mono ?_;rintro e cp ⟨v,rfl,bb,c3⟩;go_wp2;go_ret
 exact⟨v,rfl,bb.oG (Nat.le_refl _),((R.refl (fun b=>b=g.c\/b=cb) w).drewN _).trans c3 (fun _ e=>e) (fun b _ e=>by first|exact e|exact e.elim)⟩):P:=h
theorem QL{P:Prop}(h:P:=by
 have P:=ns;clear ns f8 c3;go_upto_region 21 with (fail)
 have jr:(cp.alloc (.cells #[Z (re)] 3)).heap.size=cp.heap.size+1:=aK;have bh:aG cp (cp.alloc (.cells #[Z (re)] 3)):=(R.refl _ cp).alloc _;have hL:=gp P.row bh;have o6:=P.o.size;have nC:l.length<=501:=bV f3.o;go_wp2_with (at_builtin;refine iT eD hL ?_;intro c0 gs ba fz f2 hk k6);have k7:=P.lP d0 hM hG (re) (bh.t (R.bT f2)) fz;go_roundg (gk-1)
 case measure=>have:=f3.o.1;omega
 case rel=>exact ⟨y6,l++[re],m,_,_,by rw[List.length_append];rfl,by rw[List.length_append];exact k7,⟨fun e=>by
  have h9:=(ka.o e).2;have g0:=f3.o;rw[List.length_append];exact⟨E,E,by show l.length+1<=_;omega⟩,hz.o,nb.o⟩⟩):P:=h
theorem QM{P:Prop}(h:P:=by
 have k4:=z.ag;rw[bz]at k4;have⟨c1,bp⟩:=gz (Rr.fY F t);rw[<-bp];have cj:=Y bp;have fe:=Y h;have fo:=Y c5;have⟨b9,bi,l0,oa,hN,bc,am,ci,h1⟩:=h.cells;have il:=bC bc 3;have li:=bC bc 4;have⟨d8,g5,he,_,_⟩:=h.zY;rw[he]at il;have dj:∀n,aG w (w.drewN n):=fun n=>(R.refl _ w).drewN n;have m5:=fun n=>oJ F fa X (w.drewN n) t (fe.o.eC (dj n)) fo.o dz;rw[bs]at li;go_enter Tryz.func64,Tryz.ntmps64
 go_wp21
 go_quiet (fail)
 have x6:=m5 nq;have s1:=dj nq;generalize w.drewN nq=a0 at*
 go_wp21
 refine x6.k fun a7 ⟨b7,ac⟩=>?_;go_wp2;go_ret;rw[cj.o];exact⟨rfl,b7,Bk.trans (fQ s1) (dT ac)⟩):P:=h
theorem IB{P:Prop}(h:P:=by
 rcases k9 with x|x|x|x
 all_goals
  first
   |rw[x]at mm
   |generalize V.bj g.L ff=ng at*
  go_wp21
  refine mm.kd fun hH=>?_;go_wp2;go_end0;exact⟨rfl,lr.o _ (g0.drewN hH) (nd.drewN hH)⟩):P:=h
theorem IC{P:Prop}(h:P:=by
 go_wp21
 refine h3.kd fun al=>?_
 go_wp21
 refine(hE.o al).kd fun ce=>?_
 go_wp21
 refine(hE.o _).kd fun h8=>?_;go_wp2
 (try simp only[Exit.inBlock,Exit.then])
 refine bodyPost_ret (results_none rfl _ _ _) rfl ?_;exact⟨rfl,h4.o.drewN _,fo.o.drewN _,fun c hb=>(r1.o c hb).quiet ((R.refl _ _).drewN _),_,_,_,h5.o.drewN _⟩):P:=h
theorem MW{P:Prop}(h:P:=by
 have t3:=k1.T p3 (Gh im) (fun e=>lN k1.aZ im e.symm);have xb:R (fun b=>b=g.c\/aq<=b+1) u cp:=p2.trans p3 (fun _ e=>Or.inl e) (fun b a5 e=>Or.inr E);have sn:=(p3.cell (p:=⟨pp,2,none⟩) q6 (fun e=>lN a4.dp.aZ im e.symm)).trans (p2.cell (p:=⟨pp,2,none⟩) h.dp.lt h.dp.ne);have ya:=Y sn;go_wp2;go_ret;exact⟨rfl,t3,r3,ya.o,xb⟩):P:=h
theorem lI{P:Prop}(h:P:=by
 intro u cW;obtain⟨c4,f1,k0,k3⟩:=cW
 go_simp
 try with_reducible rfl):P:=h
theorem QN{P:Prop}(h:P:=by
 go_wp21
 go_quiet (fail)
 have cc:=b6.drewN nq;have z0:=cc.T ds id;have yp:=cc.T nt id;have yf:=cc.T tp id;have z3:=cc.T sb id;have yr:=cc.T dl id;have z8:=ty.o _ cc _ dl;generalize bx.drewN nq=ba at*
 go_wp21
 go_region
 all_goals
  go_wp2;rw[l3.o];refine⟨by rw[d6.o];generalize r.neg=n5;cases n5 <;> rfl,?_,?_⟩
  ·rw[d6.o];exact ef.eC (h6.o ba cc _) nF
  ·first|exact(kC cc ne.o _).drew|exact(kC cc ne.o _).drewN _|exact kC cc ne.o _):P:=h
theorem QO{P:Prop}(h:P:=by
 go_wp21
 refine p8.kd fun hH=>?_;go_wp2;refine bodyPost_ret (v:=.agg #[.int .u8 120,aB,.slice b9 (2*n) bi,.bool g8,.int .u8 49]) GL rfl ⟨_,rfl,by rw[o5.o];exact⟨.slice b9 (2*n) bi,rfl,(oj.o.T ((R.refl (fun _=>False) _).drewN hH) (fun _ _ _=>id) (fun b a5 _=>a5)).T (xQ _ w.heap.size _ _ _ _ _) (fun b a5 _ e=>E) (fun b a5 _=>E)⟩,da.sG (o.drewN hH) w.heap.size d0 hM hG (gY _ _ _ _ _ _ _),?_⟩;exact(m4.drewN hH).t (gY _ _ _ _ _ _ _)):P:=h
theorem QP{P:Prop}(h:P:=by
 have q1:=Y m2;clear m2 b0 ti
 go_wp21
 refine me.kd fun h8=>?_;go_wp2;go_roundg (gk-1)
 case measure=>have:=hQ.o;omega
 case rel=>exact ⟨i+1,bk,rfl,by have:=hQ.o;show i+1+(gk-1)=bu.length;omega,(S.T bk (pa.o.drewN h8) ((R.refl (fun _=>False) wr).drewN h8) (fun _ _=>id) (fun _ _=>id) (fun _ _ _=>id)),q1.o,fo.o.drewN h8,⟨fun e=>(qr.o.1 e).aw pa.o ((R.refl _ _).drewN h8),fun h=>(qr.o.2 h).T ((R.refl (fun _=>False) _).drewN h8) id⟩,t8.o⟩):P:=h
theorem QQ{P:Prop}(h:P:=by
 refine⟨?_,?_⟩
 ·rw[kb]
  constructor
  ·rintro⟨o,a4⟩
   refine⟨0,?_,Nat.le_refl _,a4⟩;unfold kQ
   rcases bv with ⟨dS,c6⟩ |⟨dS,c6⟩ |⟨dS,c6⟩ |⟨dS,c6⟩ <;> rw[dS]at o <;> simp[c6]at o ⊢
  ·rintro⟨k,o,a4,ab⟩
   have:k=0:=E;subst this;refine⟨?_,ab⟩;unfold kQ at o
   rcases bv with ⟨dS,c6⟩ |⟨dS,c6⟩ |⟨dS,c6⟩ |⟨dS,c6⟩ <;> rw[dS] <;> simp[c6]at o ⊢
 ·intro o
  have:=(kb _).1 o;rw[if_pos (by rw[this.1,this.2];rfl)]
  rfl):P:=h
theorem mC{P:Prop}(h:P:=by
 intro u cW;obtain⟨c4,f1,k0⟩:=cW
 go_simp
 try with_reducible rfl):P:=h
theorem QR{P:Prop}(h:P:=by
 have⟨j,ap⟩:=DJ r A.dW 0 0;unfold sV at h;have bb:=vP w r (dM 0 A.dW).toArray.toList _ ap;simp only[Instr.lookup,Sem.run_bind,run_underlying Tryz.underlying115,MapKept.run_getObj_map h,tw,Result.andThen,Sem.run_pure,bb,A.aQ]
 cases A.dW.find? (fun p=>r==p.1)with
 |none=>simp [Tryz.zeroValue145]
 |some p=>simp):P:=h
theorem ID{P:Prop}(h:P:=by
 go_wp21
 refine(fy _ _).kk ?_;rw[j5.o];go_wp2;go_ret;exact⟨rfl,na.T ((R.refl (·=g.c) wr).drewN _) ic,cv.drewN _,f9.drewN _,kB.trans (pY.IV ((R.refl (·=g.c) wr).drewN _) ic na.aZ.lt)⟩):P:=h
theorem QS{P:Prop}(h:P:=by
 have hf:Hid (∀n,Tc s w (.returned (.tuple #[aM,aB,Z bk.e,Z bk.p])) (wr.drewN n)):=fun n=>by
  have o:=sf.o;rw[<-m2]at o;exact CC (I5 ao pm.o (fo.o.drewN n) o none 0 0 0 bk.p (fun _=>rfl) (fun e=>absurd e b0)) b0
 clear m2 b0 cj sf S ht d9 d5
 go_wp21
 go_quiet (fail)
 go_wp2
 try simp only[Exit.inBlock,Exit.then]
 refine bodyPost_ret (mg rfl _ _ _) rfl ?_;exact hf.o _):P:=h
theorem QT{P:Prop}(h:P:=by
 rw[<-pe]at fd b1 bb oA;clear pe;obtain⟨gb,jb⟩:=b8 (a0.heap.size);rw[jb]at bb ⊢;have z7:w.heap.size+1<gb:=E;go_wp2;have c3:=mJ cp w.heap.size aM aB;refine bodyPost_ret (v:=.tuple #[.agg #[aM,aB],az gb]) GJ rfl ⟨_,rfl,⟨gb,rfl,E,bb.T c3 E⟩,?_⟩;have bc:R (·=g.c) w wr:=oo.t f9;exact(bc.t oA).trans c3 (fun _ e=>e) (fun b a5 e=>E)):P:=h
theorem yS{P:Prop}(h:P:=by
 rcases f6 with h|h
 ·intro e
  simp[Value.ownBlock]at e;exact bq GI
 ·intro e
  simp[Value.ownBlock]at e;omega):P:=h
theorem IE{P:Prop}(h:P:=by
 go_wp2;go_roundg (leftOf (bg 0 ak).toArray (n1.push k)).size
 case measure=>rw [fb.o];exact z1.o
 case rel=>exact ⟨_,rfl,⟨n1.push k,rfl,(gO _).1.out,d6.o⟩,(gO _).2⟩):P:=h
theorem QU{P:Prop}(h:P:=by
 go_enter Tryz.func52,Tryz.ntmps52
 go_wp21
 refine(aL g w s.i bl.bI).kd fun n=>?_;rw[gN.o]
 go_wp21
 refine(fx _ _).kk ?_;rw[n9.o]
 go_wp21
 refine(cK g _ s.i (bl.bI.drewN n) ad).k fun a7 ⟨d1,dn⟩=>?_;have ac:=dn.d;go_wp2;go_ret;exact⟨rfl,bl.aw d1 ac E,ac.mono (fun _ _ e=>Or.inl e)⟩):P:=h
theorem D7{P:Prop}(h:P:=by
 injection h with h;injection h with o h;injection h with a4 h;injection h with ab be;subst ab;exact g4.qd E (fun h2=>absurd h2 E)):P:=h
theorem QV{P:Prop}(h:P:=by
 have qa:=z.T ac h.ct ic;have⟨ik,ga,kn,ki,k2,gr,dd⟩:=qa.ij;have fd:=gr 0 _ rfl;go_wp2;go_ret;have b6:=ah a7 cb 0 (.int .i32 (A.aj g.L s.i));have m0:=dd.T b6 (gm qa.aZ ae);exact⟨rfl,⟨qa.aZ.set,ik,ga,kn,ki,k2,gr.set 0 _,⟨m0.a,m0.i,m0.r,m0.f,m0.t⟩⟩,d1.rU b6 qa.aZ,ac.t b6⟩):P:=h
theorem Nx{P:Prop}(h:P:=by
 go_wp21
 go_region
 all_goals
  go_wp2;go_roundg (gk-1)
  case measure=>omega
  case rel=>
   have X:=qW (ms.o U) nF
   exact⟨q+1,by first|rfl|simp,⟨E,E⟩,X.1.next (hP.o.trans tg.o.symm),X.2.1,X.2.2⟩):P:=h
theorem QW{P:Prop}(h:P:=by
 go_wp21
 refine l0.k fun a0 av=>?_
 go_wp21
 refine(vR X eb a0 s (fe.o.quiet av) hR n hx ko).mono ?_;rintro e a7 ⟨⟨v2,rfl⟩,b7,ac⟩;go_wp2;refine bodyPost_ret (results_none rfl _ _ _) rfl ?_;rw[j0.o];exact⟨⟨_,rfl⟩,⟨_,_,_,_,_,_,b7⟩,jm (av.mono (fun _ _ e=>e.elim)) (rY ac)⟩):P:=h
theorem QX{P:Prop}(h:P:=by
 have lz:=j5.o.len;have ab:=a4.aD (kp':=j+1) ib v1 (by rw[zB E];simpa using v2) v3 v4
 have b6:=ac.trans v3 (fun _ e=>e) (fun b _ e=>by
  rcases e with e|e
  ·omega
  ·have:=(hy.lt b e).1;omega)
 go_roundg (gk-1)
 case measure=>have:=hv.o;omega
 case rel=>exact ⟨j+1,bV hv.o,ab,b6⟩):P:=h
theorem AG{P:Prop}(h:P:=by
 go_enter Tryz.func219,Tryz.ntmps219;go_wp2;go_ret;exact⟨rfl,R.refl _ _⟩):P:=h
theorem QY{P:Prop}(h:P:=by
 generalize c.ag=n3 at*
 go_enter Tryz.func103,Tryz.ntmps103
 go_wp21
 go_quiet (fail)
 go_wp21
 refine(kp _).k fun cp ⟨la,r3,dz,c3⟩=>?_;go_wp2;go_ret
 exact⟨rfl,la,r3,dz,c3.mono (fun b _ e=>by rcases e with e|e;exact Or.inl e;exact Or.inr (Or.inr e))⟩):P:=h
theorem QZ{P:Prop}(h:P:=by
 subst lk
 go_wp21
 go_region
 all_goals
  go_wp2;rw[l3.o];refine⟨by rw[d6.o];generalize r.neg=n5;cases n5 <;> rfl,?_,?_⟩
  ·rw[d6.o];exact ef.eC (h6.o ba c3 _) nF
  ·first|exact(kC c3 ne.o _).drew|exact(kC c3 ne.o _).drewN _|exact kC c3 ne.o _):P:=h
theorem Q2{P:Prop}(h:P:=by
 rw[<-hT];refine⟨?_,by rw[World.frozen?_setCell];exact(h.any j ap).2⟩;by_cases e:j=m
 ·subst e;exact⟨_,World.cell?_setCell_same _ _ _ cW⟩
 ·have⟨y,hl⟩:=(h.any j ap).1
  exact⟨y,by rw[World.cell?_setCell_other w ⟨fp,m,none⟩ ⟨fp,j,none⟩ _ aK];exact hl⟩):P:=h
theorem Ny{P:Prop}(h:P:=by
 rw[o0]at b4 j0;go_enter Tryz.func96,Tryz.ntmps96
 go_wp21
 refine b4.mono ?_;rintro e a0 ⟨⟨v1,rfl⟩,b1,av⟩;go_wp2;go_end0;rw[j0.o];exact⟨⟨_,rfl⟩,b1,av⟩):P:=h
theorem Q3{P:Prop}(h:P:=by
 generalize c.ag=n3 at*
 go_enter Tryz.func103,Tryz.ntmps103
 go_wp21
 go_quiet (fail)
 go_wp21
 have av:R (·=g.c) w (w.drewN nq):=(R.refl _ w).drewN nq;refine(j3 nq).k fun a7 ⟨d1,sz,dn⟩=>?_;go_wp2;go_ret;exact⟨rfl,d1,sz,av.t dn⟩):P:=h
theorem Q4{P:Prop}(h:P:=by
 rcases h.2 with ⟨_,e⟩ |⟨g,cD,bI,ch,a5,c2,_,_,i8,qt⟩
 ·omega
 ·injection ch with a9 an c8
  refine⟨g,a9,a5,⟨bI,(0,0),c2⟩,fun k v aa=>?_⟩;rw[cell_of_row _ g k bI _ (0,0) c2];rw[<-qt,List.getElem?_take]at aa;split at aa
  ·simp_all
  ·cases aa):P:=h
theorem Q5{P:Prop}(h:P:=by
 go_enter Tryz.func93,Tryz.ntmps93
 go_wp21
 go_quiet ((go_at_call 44;exact(c2 _).mono (fun e a0 ⟨b0,hT⟩=>⟨b0,_,hT⟩)))
 go_wp2;go_end0;exact⟨⟨_,rfl⟩,fe.o.quiet ((R.refl _ w).drewN _),(R.refl _ w).drewN _⟩):P:=h
theorem Q6{P:Prop}(h:P:=by
 have f7:Hid (A.eV a1=true):=dN;clear dN;rw[f7.o];have d6:Hid (¬a9= -1):=d2;clear d2;have y5:(a9== -1)=false:=pq;have yb:(a9 != -1)=true:=pq;have x5:decide (a9= -1)=false:=pq;go_wp2;go_ret;exact⟨by simp[A.fi,fb.o,f7.o,d6.o],gO _ p0⟩):P:=h
theorem Nz{P:Prop}(h:P:=by
 go_wp21
 refine(y0.o n).kd fun al=>?_;rw[nO];go_wp2;go_roundg (gk-1)
 case measure=>omega
 case rel=>exact ⟨i+1,by first|rfl|simp,⟨E,E⟩,d6.o,⟨_,rfl⟩⟩):P:=h
theorem Q7{P:Prop}(h:P:=by
 rw[z]at h;obtain⟨c',b5⟩:=a1;obtain⟨a,b,d,a9⟩:=ao.1 _ _ z;simp only at h;injection h with h;injection h with o h;injection h with a4 h;injection h with ab be;subst o;subst a4;subst ab;subst be;exact⟨a,jp.mono b,rfl,b,d,a9⟩):P:=h
theorem sk{P:Prop}(h:P:=by
 have:=kV (w.drewN m) hc c.ag g2
 rwa [aa]at this):P:=h
theorem Q8{P:Prop}(h:P:=by
 have iv:=qG (pl:=pl) c2 q k n (sp++[m]) b3 E c8;have a5:(!(sp++[m]).isEmpty)=true:=aK;rw[a5]at iv;rw[a9,hJ,mf,<-LD];exact⟨fun EU b5 h=>by obtain⟨⟨a,b,c⟩,d⟩:=iv.1 EU b5 h;exact⟨⟨a,E,c⟩,d⟩,iv.2⟩):P:=h
theorem Q9{P:Prop}(h:P:=by
 obtain⟨hm,c',rfl⟩:=bG a4;unfold Oper.wp execOp;simp only[c5,resolve,invoke,builtin,Sem.run_bind,Sem.run_pure,Result.andThen_ok,List.map_toArray,List.map_cons,List.map_nil,ch,bw,x];exact h hm c' a2 a4 (R.bT ab) be):P:=h
theorem IF{P:Prop}(h:P:=by
 rcases hk with h|h
 ·intro e
  simp[Value.ownBlock]at e;exact hF GI
 ·intro e
  simp[Value.ownBlock]at e;omega):P:=h
theorem Ra{P:Prop}(h:P:=by
 exact⟨q+1,by first|rfl|simp,⟨E,E⟩,X.1.next (hP.o.trans tg.o.symm),X.2.1,X.2.2⟩):P:=h
theorem IG{P:Prop}(h:P:=by
 rintro e a7 ⟨v,rfl,bb,ac⟩;go_wp2;go_ret;exact⟨v,rfl,bb.oG (Nat.le_refl _),((R.refl (·=g.c) w).drewN _).t ac⟩):P:=h
theorem Rb{P:Prop}(h:P:=by
 by_cases e:j=i/\t=s
 ·obtain⟨rfl,rfl⟩:=e
  simp;exact World.cell?_setCell_same _ _ _ (h.aD j t ap bA).1
 ·rw[if_neg e,World.cell?_setCell_other w ⟨aq+i,s,none⟩ ⟨aq+j,t,none⟩ _ cr]
  exact(h.aD j t ap bA).1):P:=h
theorem Rc{P:Prop}(h:P:=by
 have hA:=aL g w i h;rw[hd]at hA;go_enter Tryz.func142,Tryz.ntmps142
 go_wp21
 refine hA.kd fun n=>?_
 go_wp21
 refine(fy _ _).kk ?_;rw[j5.o];go_wp2;go_ret;exact⟨rfl,n,rfl⟩):P:=h
theorem D8{P:Prop}(h:P:=by
 simp at x;obtain⟨rfl,rfl,rfl,rfl⟩:=x;exact⟨ao.gK,fun _ h=>h,fun e=>by cases e⟩):P:=h
theorem Re{P:Prop}(h:P:=by
 have j5:=Y hd;go_enter Tryz.func142,Tryz.ntmps142
 go_wp21
 refine(aL g w i h).kd fun n=>?_
 go_wp21
 refine(fy _ _).kk ?_;rw[j5.o];go_wp2;go_ret;exact⟨rfl,n,rfl⟩):P:=h
theorem Rg{P:Prop}(h:P:=by
 simp only[Instr.lookup,Sem.run_bind,run_underlying Tryz.underlying117,MapKept.run_getObj_map h,lZ,Result.andThen,Sem.run_pure,aa];simp[Tryz.zeroValue176]):P:=h
theorem NA{P:Prop}(h:P:=by
 go_wp2;rw[l3.o];exact⟨by rw[d6.o];generalize r.neg=n5;cases n5 <;> rfl,by rw[d6.o];exact fe.o.eC c3,c3.mono (fun _ _ e=>e.elim)⟩):P:=h
theorem Rh{P:Prop}(h:P:=by
 go_wp21
 refine(cu g w s.i h.bI).kd fun n=>?_
 go_wp21
 refine(eI 8 _ _).kk ?_;go_wp2;go_ret;exact⟨_,rfl,⟨_,rfl,Nat.le_refl _,jE.cG _ _ _⟩,((R.refl _ w).drewN n).alloc _⟩):P:=h
theorem Ri{P:Prop}(h:P:=by
 first|exact(kC c3 ne.o _).drew|exact(kC c3 ne.o _).drewN _|exact kC c3 ne.o _):P:=h
theorem Rj{P:Prop}(h:P:=by
 rw[toList_madeCells_one]at z;refine⟨aR.cG w _ _ _,fun j ap=>?_,fun j ap=>by omega,fun j ap=>by omega,fun j t ap=>by omega⟩;have:=z j aM (by simp[ap]);exact⟨⟨_,this.1⟩,this.2⟩):P:=h
theorem II{P:Prop}(h:P:=by
 refine⟨fun p b5 h=>cN,fun a3 h=>?_⟩;injection h with h;rw[<-h];exact jW rfl _ _ _ ae):P:=h
theorem Rk{P:Prop}(h:P:=by
 go_enter Tryz.func96,Tryz.ntmps96
 go_wp21
 refine hZ.mono ?_;rintro e a0 ⟨⟨v1,rfl⟩,b1,av⟩;go_wp2;go_end0;rw[j0.o];exact⟨⟨_,rfl⟩,⟨_,_,_,_,_,_,b1⟩,qX av⟩):P:=h
theorem Rl{P:Prop}(h:P:=by
 go_enter Tryz.func105,Tryz.ntmps105
 go_wp21
 refine nl.kd fun al=>?_
 go_wp21
 refine(hu al).kd fun ce=>?_;go_wp2;go_ret
 first|exact⟨rfl,_,rfl⟩|exact⟨bQ,_,rfl⟩):P:=h
theorem Rn{P:Prop}(h:P:=by
 go_wp21
 refine hU.k fun a0 ⟨o,av⟩=>?_
 go_wp21
 refine(fe.o _).kk ?_
 go_wp21
 refine(cO g _ c4 o 3 s.i hS).k fun bx ⟨ab,b6⟩=>?_;go_wp2;go_ret;exact⟨rfl,ab,cE av b6⟩):P:=h
theorem Ro{P:Prop}(h:P:=by
 go_wp21
 refine(aL g wr j cv).kd fun al=>?_;rw[mb]
 go_wp21
 go_quiet (fail)
 go_wp2;go_ret;rw[hE.o];exact⟨by rw[cj.o];rfl,(cv.drewN _).drewN _,(c5.out.drewN _).drewN _⟩):P:=h
theorem yT{P:Prop}(h:P:=by
 go_wp21
 go_quiet (fail)
 go_wp2;go_ret;exact⟨rfl,_,rfl⟩):P:=h
theorem Rp{P:Prop}(h:P:=by
 have p7:=fun c=>(h.aZ.ne (h.jB j E) ae) (Eq.symm c);have p:=h.aD j t E bA;have q:=os.T p.1 p7;exact⟨bh.T q id,bh.aE q (os.aE p.1 p.2 p7) id⟩):P:=h
theorem Rq{P:Prop}(h:P:=by
 rw[b4];simp at f6;obtain⟨⟨o,a4⟩,ab⟩:=f6;rw[o];have sj:¬A.aj L i=36:=bS a4;have xc:¬A.aj L i=47:=bS ab;simp only[Bool.false_eq_true,if_false,sj,xc]):P:=h
theorem Rs{P:Prop}(h:P:=by
 go_wp2;go_roundg (gk-1)
 case measure=>omega
 case rel=>exact ⟨i+1,at_,_,rfl,by first|rfl|simp,⟨E,E,nn,by rw[List.length_set];exact sd⟩,nf.o,pb.o,nv.o⟩):P:=h
theorem NC{P:Prop}(h:P:=by
 injection h with h;rw[<-h];exact jW rfl _ _ _ ae):P:=h
theorem Rt{P:Prop}(h:P:=by
 go_wp21
 refine hu.kd fun al=>?_;go_wp2
 (try simp only[Exit.inBlock,Exit.then])
 refine bodyPost_ret (results_none rfl _ _ _) rfl ?_;exact⟨rfl,cv.drewN al,f9.drewN al⟩):P:=h
theorem Ru{P:Prop}(h:P:=by
 simp only[Instr.lookup,Sem.run_bind,run_underlying Tryz.underlying117,MapKept.run_getObj_map h,lZ,Result.andThen,Sem.run_pure,aa];simp):P:=h
theorem Rv{P:Prop}(h:P:=by
 rw[<-hT];by_cases e:j=m
 ·subst e;exact World.cell?_setCell_same _ _ _ cW
 ·rw[World.cell?_setCell_other w ⟨fp,m,none⟩ ⟨fp,j,none⟩ _ aK];exact h.cell j E):P:=h
theorem Rw{P:Prop}(h:P:=by
 go_wp21
 refine(eI 4 _ _).mono ?_;rintro e cp ⟨rfl,rfl⟩;go_wp2;go_ret2;exact⟨_,rfl,⟨_,rfl,(Hid.o c5).size,jE.cG _ _ _⟩,(R.drewN c5 _).alloc _⟩):P:=h
theorem ND{P:Prop}(h:P:=by
 exact(f9.t ac:R (fun b=>b=g.c\/w.heap.size<=b) w a7).trans b6 (fun _ e=>e) (fun b a5 e=>Or.inr (l6.lt b e).1)):P:=h
theorem AH{P:Prop}(h:P:=by
 go_wp2;go_ret;exact⟨_,rfl,⟨gb,rfl,E,np.o⟩,ov.o⟩):P:=h
theorem Rx{P:Prop}(h:P:=by
 go_enter Tryz.func60,Tryz.ntmps60
 go_wp21
 refine gn.k fun a0 ⟨b1,av⟩=>?_;go_wp2;go_end0;exact⟨rfl,b1,av⟩):P:=h
theorem Ry{P:Prop}(h:P:=by
 go_wp21
 refine(eI 4 _ _).kk ?_;go_wp2;go_ret;exact⟨_,rfl,⟨_,rfl,by show w.heap.size<=cp.heap.size;omega,jE.cG _ _ _⟩,(m8.drewN _).alloc _⟩):P:=h
theorem Rz{P:Prop}(h:P:=by
 go_enter Tryz.func64,Tryz.ntmps64
 go_wp21
 refine n4.kk ?_;go_wp2;go_ret;rw[cj.o];exact⟨rfl,fe.o,R.refl _ _⟩):P:=h
theorem RB{P:Prop}(h:P:=by
 have nR:=Y bv;clear bv f7 z cj;go_wp2;go_roundg (gk-2)
 case measure=>omega
 case rel=>exact ⟨i+2,by first|rfl|simp,⟨E,E⟩,nR.o,rfl⟩):P:=h
theorem RD{P:Prop}(h:P:=by
 go_wp21
 refine sa.kk ?_;go_wp2;go_roundg (gk-1)
 case measure=>omega
 case rel=>exact ⟨i+1,by first|rfl|simp,⟨E,E⟩,⟨hE.o,y2.o⟩,rfl⟩):P:=h
theorem RF{P:Prop}(h:P:=by
 rcases cz.1 cW with a9 |⟨a9,an⟩ <;> rcases cz.1 ch with c8 |⟨c8,hJ⟩
 ·rw[a9,c8]
 ·simp_all
 ·simp_all
 ·exact h.mO u a9 v c8 e):P:=h
theorem RG{P:Prop}(h:P:=by
 rw[if_neg bs,if_pos (show t.aI=F.aT.length by rw[<-h.aI];omega)];exact Or.inr (Or.inr (Or.inr ⟨rfl,xH (h.at n s.drop true),rfl,hd,rfl,b0⟩))):P:=h
theorem RH{P:Prop}(h:P:=by
 rw[List.length_append]at oi;go_wp2;go_end0;rw[cj.o,hV.o];exact⟨rfl,oi.out,Bk.trans (fQ h7) (Bk.trans (fQ qo) (dT (ah _ _ _ _)))⟩):P:=h
theorem RI{P:Prop}(h:P:=by
 cases bw:A.br (A.aj L (i+1))with
 |false=>simp
 |true=>
  have:A.aj L (i+1)=48:=Decidable.byContradiction fun e=>hd ⟨bw,e⟩;simp[this]):P:=h
theorem NF{P:Prop}(h:P:=by
 go_wp2;go_end0;exact⟨rfl,lr.o _ hK (nd.t (pc.d))⟩):P:=h
theorem RJ{P:Prop}(h:P:=by
 unfold A.plain;rw[o];refine⟨fun p b5 h=>cN,fun a3 h=>?_⟩;injection h with h;rw[<-h];exact⟨rfl,rfl,(show(3:Int)≠0 by decide)⟩):P:=h
theorem IJ{P:Prop}(h:P:=by
 go_wp21
 go_quiet (fail)
 go_wp2;go_ret;exact⟨rfl,(R.refl _ w).drewN _⟩):P:=h
theorem RL{P:Prop}(h:P:=by
 have eW:=m7.it;rw[a9]at eW;have:=Lib.run_next_any_at (P:=Tryz.prog) wr (w.heap.size+1) s p hw eW c8;rw[hJ,mf]at this;rw[a9,an];simpa using this):P:=h
theorem RM{P:Prop}(h:P:=by
 go_wp21
 refine(dR g _ i (h.drewN n)).mono ?_;rintro e ba ⟨v,rfl,bb,cc⟩;go_wp2;go_ret2;exact⟨v,rfl,bb.oG (Nat.le_refl _),cc.d⟩):P:=h
theorem RN{P:Prop}(h:P:=by
 go_enter Tryz.func217,Tryz.ntmps217
 go_wp21
 refine(JU a1 g9 a8 r w bw).k fun a0 c5=>?_;go_wp2;go_ret;exact⟨rfl,c5⟩):P:=h
theorem IK{P:Prop}(h:P:=by
 go_wp2;go_end0;rw[cj.o];exact⟨rfl,b7,Bk.trans (fQ h7) (dT ac)⟩):P:=h
theorem RO{P:Prop}(h:P:=by
 subst tc;go_wp2;go_roundg (gk-1)
 case measure=>have:=fb.o;omega
 case rel=>exact ⟨j+1,e,_,rfl,rfl,bV fb.o,E,y7,q4,kd,n6,ni,rp⟩):P:=h
theorem RQ{P:Prop}(h:P:=by
 unfold A.cH at f6;simp only[p6,Bool.or_false]at f6;have:A.br (A.aj L i)=false:=bS hd;rw[this]at f6;simpa using f6):P:=h
theorem RR{P:Prop}(h:P:=by
 go_wp2;rw[l3.o];exact⟨by rw[d6.o];generalize r.neg=n5;cases n5 <;> rfl,by rw[d6.o];exact fe.o.eC b6,b6.mono (fun _ _ e=>e.elim)⟩):P:=h
theorem NS{P:Prop}(h:P:=by
 exact ax hj gg (fun b a5 e=>by subst e;exact absurd ((aR.aJ hj a5).eH q8) ae)):P:=h
theorem RT{P:Prop}(h:P:=by
 rw[a9];exact⟨⟨_,c6,am,hs,Or.inr rfl,oD⟩,om.trans ((pF dn ih.lt hB).trans c4),(ih.T dn hB).setCell _ _,bs⟩):P:=h
theorem RU{P:Prop}(h:P:=by
 exact d1.T b6 (du l6 d1.tc ae) (fun b4 e=>by
  have lx:=l6.lt _ e;have lw:=h.tr b4;have:=lw.lt;omega) (du l6 d1.tp ae)):P:=h
theorem NT{P:Prop}(h:P:=by
 go_enter Tryz.func81,Tryz.ntmps81;go_wp2;go_ret;exact Hw bb.out rfl):P:=h
theorem Ma{P:Prop}(h:P:=by
 refine Or.inr ⟨⟨fd,o2,(ot fd).2 (Or.inl o),a4,ab,be⟩,fun j y ap hl ao=>?_⟩
 rcases(ot j).1 ap with ap|rfl
 ·grind
 ·simp_all):P:=h
theorem Mb{P:Prop}(h:P:=by
 go_enter Tryz.func94,Tryz.ntmps94
 go_wp21
 refine jc.kk ?_;go_wp2;go_end0;exact⟨⟨_,rfl⟩,d6.o,g1⟩):P:=h
theorem Mc{P:Prop}(h:P:=by
 go_wp21
 refine h3.kd fun al=>?_
 go_wp21
 refine(hE.o al).k fun a7 ⟨a4,ac⟩=>?_;go_wp2;go_ret;exact⟨rfl,a4,(f9.drewN al).t ac⟩):P:=h
theorem Md{P:Prop}(h:P:=by
 refine Or.inr ⟨⟨k,a1,(ot k).2 (Or.inr rfl),aa,bw,rfl⟩,fun j y ap hl ao=>?_⟩
 rcases(ot j).1 ap with ap|rfl
 ·grind
 ·simp_all):P:=h
theorem Me{P:Prop}(h:P:=by
 rintro e bx ⟨v,rfl,bb,b6⟩;go_wp2;go_ret;exact⟨v,rfl,bb.oG (Nat.le_refl _),((R.refl (fun b=>b=g.c\/b=cb) w).drewN al).t b6⟩):P:=h
theorem Mf{P:Prop}(h:P:=by
 by_cases a9:g.L= []
 ·exact Or.inl a9
 ·by_cases an:g.lc=f1.i
  ·exact Or.inr (Or.inl ⟨a9,an⟩)
  ·exact Or.inr (Or.inr ⟨a9,an⟩)):P:=h
theorem Gm{P:Prop}(h:P:=by
 go_enter Tryz.func146,Tryz.ntmps146;go_wp2;go_ret;exact⟨rfl,0,rfl⟩):P:=h
theorem Gn{P:Prop}(h:P:=by
 rw[hd];refine⟨rfl,ae,?_,fun e=>?_⟩
 ·simp only;omega
 ·simp only at e;omega):P:=h
theorem Mg{P:Prop}(h:P:=by
 rw[List.length_take]at ap;rw[z j E,List.getD_eq_getElem?_getD,List.getD_eq_getElem?_getD,List.getElem?_take,if_pos E]):P:=h
theorem Gp{P:Prop}(h:P:=by
 exact⟨fun c' b5 h=>by obtain⟨a,b,c⟩:=iv.1 c' b5 h;exact⟨a,E,c⟩,iv.2⟩):P:=h
theorem Gq{P:Prop}(h:P:=by
 go_enter Tryz.func180,Tryz.ntmps180;go_wp2;go_ret;exact⟨rfl,rfl⟩):P:=h
theorem Mh{P:Prop}(h:P:=by
 exact bodyPost_ret (v:=.tuple #[.agg #[aB,.string (Utf8.encode r),aB],.pointer none]) vh rfl ⟨by rw[OH],c,a8⟩):P:=h
theorem Mi{P:Prop}(h:P:=by
 unfold A.dv at h;split at h
 ·grind
 ·split at h
  ·unfold A.ux at h
   split at h
   ·cases h
   ·grind
  ·grind):P:=h
theorem Mj{P:Prop}(h:P:=by
 go_enter Tryz.func116,Tryz.ntmps116;go_wp2;go_ret;exact⟨_,_,rfl,x,(R.refl _ w).alloc _⟩):P:=h
theorem Mk{P:Prop}(h:P:=by
 go_wp21
 refine(eI 5 _ _).kk ?_;go_wp2;go_ret;exact⟨_,rfl,⟨_,rfl,Nat.le_refl _,jE.cG _ _ _⟩,NJ⟩):P:=h
theorem Gr{P:Prop}(h:P:=by
 refine⟨fun l1 h=>cN,fun a3 h=>?_⟩;injection h with h;rw[<-h];exact d2):P:=h
theorem Ml{P:Prop}(h:P:=by
 by_cases e:j=m
 ·simp_all
 ·exact((h.jB j E).T os (fun c=>(h.aZ.ne (h.jB j E) ae) c.symm)).T bh id):P:=h
theorem Mm{P:Prop}(h:P:=by
 intro bq;have⟨ha,jj,e,bA,z⟩:=h bq;exact⟨ha,jj,e,bA.T a8 (ao _ bA),fun j ap=>a8.T (z j ap) (ao _ bA)⟩):P:=h
theorem Mn{P:Prop}(h:P:=by
 exact(f9.t hI:R (fun b=>b=g.c\/w.heap.size<=b) w a0).mono (fun b a5 e=>by rcases e with e|e;exact e;omega)):P:=h
theorem Mo{P:Prop}(h:P:=by
 cases a <;> simp[Builtin.append_,cW,i8,Builtin.lenOf,Builtin.firstCells,z,storeCells,Sem.run_bind,Result.andThen]):P:=h
theorem Gs{P:Prop}(h:P:=by
 go_wp21
 refine sa.kk ?_;go_wp2;go_ret;exact⟨by rw[<-cj.o,gN.o];rfl,rfl⟩):P:=h
theorem Gt{P:Prop}(h:P:=by
 have:=congrArg List.length e;rw[List.length_drop,i8]at this;simp at this;omega):P:=h
theorem Mp{P:Prop}(h:P:=by
 have t0:=Y h6.o.1;rw[ox]at t0 oT;go_wp2;go_end0;rw[j0.o];exact⟨⟨_,rfl⟩,⟨_,_,_,_,_,_,t0.o⟩,oT.o⟩):P:=h
theorem Mq{P:Prop}(h:P:=by
 rintro e a0 ⟨⟨v1,rfl⟩,b1,av⟩;go_wp2;go_end0;rw[j0.o];exact⟨⟨_,rfl⟩,⟨_,_,_,_,_,_,b1⟩,rY av⟩):P:=h
theorem Mr{P:Prop}(h:P:=by
 simp only[if_true];exact⟨⟨fun _=>⟨0,Nat.le_refl _,Nat.zero_le _,o3⟩,fun _=>by omega⟩,fun _=>rfl⟩):P:=h
theorem Ms{P:Prop}(h:P:=by
 rw[cell_of_row _ g k bI _ (0,0) c2,<-Array.getElem?_toList]
 rwa [<-qt,List.getElem?_take,if_pos E]at j9):P:=h
theorem Mt{P:Prop}(h:P:=by
 rw[e];go_enter Tryz.func235,Tryz.ntmps235;go_wp2;go_ret;exact⟨rfl,(R.refl _ w).alloc _⟩):P:=h
theorem Mu{P:Prop}(h:P:=by
 cases bw:c.ay with
 |true=>simp
 |false=>
  have:¬A.aj L i=112:=fun e=>bl ⟨e,bw⟩;simpa using this):P:=h
theorem Mv{P:Prop}(h:P:=by
 have a9:=bv.2 a3 z;refine⟨fun m b5 h=>by simp at h,fun i1 h=>?_⟩
 cases h
 rw[yZ a9.ne];exact a9):P:=h
theorem Gu{P:Prop}(h:P:=by
 go_wp2;go_ret;exact⟨rfl,x▸a4,je ((R.refl _ w).drewN _) ac⟩):P:=h
theorem Mw{P:Prop}(h:P:=by
 cases bw:c.all with
 |true=>simp
 |false=>
  have:¬A.aj L i=103:=fun e=>bm ⟨e,bw⟩;simpa using this):P:=h
theorem Mx{P:Prop}(h:P:=by
 go_wp21
 refine hU.k fun a0 ⟨o,av⟩=>?_
 go_wp21
 refine(fe.o _).kk ?_;go_wp2;go_ret;exact⟨rfl,o,av⟩):P:=h
theorem Gv{P:Prop}(h:P:=by
 exact⟨by simp[ByteArray.size],by simp[ByteArray.size],fun h=>key c⟩):P:=h
theorem Gw{P:Prop}(h:P:=by
 exact ax hj gg (fun b hi e=>by have:=(hj.lt b hi).1;omega)):P:=h
theorem My{P:Prop}(h:P:=by
 by_cases n2:s2.ew=0
 ·exact nW h3 c7 n _ _ _ c6 n2 hg io kf E
 ·exact PC c6 n2 n _):P:=h
theorem Mz{P:Prop}(h:P:=by
 rw[bs]at x;simp at x;by_cases g0:(A.aN L (A.bB L i)).length>8
 ·simp_all
 ·simp_all):P:=h
theorem MA{P:Prop}(h:P:=by
 rw[e];go_enter Tryz.func171,Tryz.ntmps171;go_wp2;go_ret;exact⟨rfl,rfl⟩):P:=h
theorem MC{P:Prop}(h:P:=by
 go_enter Tryz.func218,Tryz.ntmps218;go_wp2;go_ret;exact⟨rfl,R.refl _ _⟩):P:=h
theorem Gx{P:Prop}(h:P:=by
 clear g7;go_wp2;go_ret;have h9:=kA.Vf r2.out;rw[<-hz.o];exact h9):P:=h
theorem MD{P:Prop}(h:P:=by
 refine⟨fun p b5 h=>cN,fun a3 h=>?_⟩;injection h with h
 rwa [<-h,tK (by exact a9.ne)]):P:=h
theorem ME{P:Prop}(h:P:=by
 rw[e];go_enter Tryz.func168,Tryz.ntmps168;go_wp2;go_ret;exact⟨rfl,rfl⟩):P:=h
theorem MF{P:Prop}(h:P:=by
 have a9:=bv.2 _ z;refine⟨fun p b5 h=>cN,fun a3 h=>?_,aK⟩;injection h with h
 rwa [<-h]):P:=h
theorem Gy{P:Prop}(h:P:=by
 have im:=k5.aw ac;exact im.T b6 (du l6 im.aZ ae)):P:=h
theorem MG{P:Prop}(h:P:=by
 go_enter Tryz.func217,Tryz.ntmps217;go_wp2;go_ret;exact⟨rfl,R.refl _ _⟩):P:=h
theorem Ce{P:Prop}(h:P:=by
 exact yi F dg row n m _ _ E E E E):P:=h
theorem MH{P:Prop}(h:P:=by
 go_enter Tryz.func17,Tryz.ntmps17;go_wp2;go_ret;exact⟨r,rfl,o1,rfl⟩):P:=h
theorem MI{P:Prop}(h:P:=by
 rw[a];exact⟨fun gl b5 h=>by obtain⟨a,b,c⟩:=iv.1 gl b5 h;exact⟨a,E,c⟩,iv.2⟩):P:=h
theorem MJ{P:Prop}(h:P:=by
 go_enter Tryz.func74,Tryz.ntmps74;go_wp2;go_ret;exact⟨rfl,rfl⟩):P:=h
theorem MK{P:Prop}(h:P:=by
 go_wp2;go_end0;rw[q9.o];exact⟨⟨_,rfl⟩,by rw[n9.o];exact⟨_,_,_,_,_,_,f7.o⟩,x1⟩):P:=h
theorem ML{P:Prop}(h:P:=by
 refine⟨i,by rw[List.length_append];omega,a4,?_⟩;rw[kx,if_pos o];exact⟨ab,be⟩):P:=h
theorem MM{P:Prop}(h:P:=by
 go_wp21
 refine pi.mono ?_;rintro e bx ⟨v,rfl,bb,b6⟩;go_wp2;go_ret;exact⟨v,rfl,bb,b6⟩):P:=h
theorem Gz{P:Prop}(h:P:=by
 show t.aI<=(fY F t).aI;rw[tG];exact Nat.le_refl _):P:=h
theorem Cf{P:Prop}(h:P:=by
 show _=_;rw[pk.o];unfold V.vU;rw[if_pos kW]):P:=h
theorem Cg{P:Prop}(h:P:=by
 show _=_;rw[pk.o];unfold V.vU;rw[if_neg kW]):P:=h
theorem MN{P:Prop}(h:P:=by
 exact(m4.drewN hH).trans (gY _ _ _ _ _ _ _) (fun _ e=>e) (fun b a5 e=>absurd e E)):P:=h
theorem MQ{P:Prop}(h:P:=by
 exact Or.inr (Or.inl ⟨rfl,(oC h).at n true _,rfl,rfl,(mj s).2.2.trans c5⟩)):P:=h
theorem MR{P:Prop}(h:P:=by
 show ∀j t,_->_->_->_;intro j s cl c0 hs;rw[if_neg E];exact a4.out j s cl c0 hs):P:=h
theorem MS{P:Prop}(h:P:=by
 rintro e bx ⟨v,rfl,bb,b6⟩;go_wp2;go_ret;exact⟨v,rfl,bb.oG (Nat.le_refl _),b6.d⟩):P:=h
theorem MU{P:Prop}(h:P:=by
 rintro e ba ⟨v,rfl,bb,cc⟩;go_wp2;go_ret2;exact⟨v,rfl,bb.oG md.size,md.t cc⟩):P:=h
theorem MV{P:Prop}(h:P:=by
 exact nW h3 c7 n _ _ _ (g2.at c.cM.toNat M.2.drop M.2.lJ) sc rfl s5 mo NI):P:=h
theorem MX{P:Prop}(h:P:=by
 simp
 rcases h:(c==10)with _|_ <;> simp[Bool.or_comm,Bool.or_left_comm,Bool.or_assoc]):P:=h
theorem MY{P:Prop}(h:P:=by
 rw[bs]at x;simp at x;by_cases g0:(A.aN L i).length>8
 ·simp_all
 ·grind):P:=h
theorem GA{P:Prop}(h:P:=by
 split
 ·rw[kN];exact sJ _ _ _
 ·exact sJ _ _ _):P:=h
theorem MZ{P:Prop}(h:P:=by
 go_wp2;go_end0;rw[j0.o];exact⟨⟨_,rfl⟩,⟨_,_,_,_,_,_,oi.out.1⟩,oi.out.2⟩):P:=h
theorem GB{P:Prop}(h:P:=by
 rw[Array.getElem?_setIfInBounds,if_neg (fun e=>ao e.symm)]):P:=h
theorem M0{P:Prop}(h:P:=by
 rw[z]at bm;exact⟨fun m b5 h=>cN,fun i1 h=>by cases h;exact bm.2 _ rfl⟩):P:=h
theorem M3{P:Prop}(h:P:=by
 rcases eM hq (A.cg bE)with ⟨o,a4⟩ |⟨o,a4⟩
 ·exact a4
 ·rw[o]):P:=h
theorem M4{P:Prop}(h:P:=by
 injection hC with hC;injection hC with o a4;rw[d1,<-o];exact⟨rfl,rfl,rfl⟩):P:=h
theorem GC{P:Prop}(h:P:=by
 exact(kB.trans (pY.IV ac ic na.aZ.lt)).trans dq):P:=h
theorem M5{P:Prop}(h:P:=by
 rcases e with e|e
 ·subst e;exact ce (bA.eH h.ed.aZ)
 ·exact al (bA.eH e.1)):P:=h
theorem M6{P:Prop}(h:P:=by
 go_wp21
 go_quiet (fail)
 go_wp2;go_ret;exact⟨by rw[<-d6.o];rfl,fo.o.drewN _⟩):P:=h
theorem M7{P:Prop}(h:P:=by
 rw[List.getElem?_map,List.getD_eq_getElem?_getD,List.getElem?_eq_getElem ta]
 rfl):P:=h
theorem M8{P:Prop}(h:P:=by
 go_wp2;go_ret;exact⟨by simp[A.fi,fb.o,f7.o,oz.o,d6.o,cj.o],gO _ oc⟩):P:=h
theorem M9{P:Prop}(h:P:=by
 rcases List.mem_append.1 ap with ap|ap
 ·have:=h.Sz j ap;omega
 ·simp_all):P:=h
theorem Ch{P:Prop}(h:P:=by
 exact⟨v',a2,o,by simpa using a4,ab,f8⟩):P:=h
theorem Na{P:Prop}(h:P:=by
 exact Or.inr ⟨⟨bI,tR,(av.block b a5 rS).symm.trans hC⟩,(c0.lt b e).1⟩):P:=h
theorem Nb{P:Prop}(h:P:=by
 rcases eM ps.ak bE with ⟨cl,c0⟩ |⟨cl,c0⟩
 ·grind
 ·simp_all):P:=h
theorem Nc{P:Prop}(h:P:=by
 rcases eM ps.ak bE with ⟨_,an⟩ |⟨an,_⟩
 ·exact an
 ·rw[an]):P:=h
theorem Nd{P:Prop}(h:P:=by
 rcases hj.2 with ⟨rfl,rfl⟩ |⟨g,cD,bI,rfl,_,_,h,_⟩
 ·simp
 ·grind):P:=h
theorem Nf{P:Prop}(h:P:=by
 unfold A.cd;rw[mw,if_neg E,if_neg E,if_pos E,b1]
 rfl):P:=h
theorem Ng{P:Prop}(h:P:=by
 unfold Er.ay;split <;> exact⟨rfl,rfl,rfl,rfl,rfl,rfl,rfl,rfl,rfl,rfl⟩):P:=h
theorem Nh{P:Prop}(h:P:=by
 cases a5:A.bU r with
 |true=>exact absurd (Or.inl a5) o
 |false=>rfl):P:=h
theorem Ni{P:Prop}(h:P:=by
 split
 ·exact fun e=>absurd e (gw _ _ _ _ ae)
 ·exact ug L pl s):P:=h
theorem GD{P:Prop}(h:P:=by
 go_wp2;go_ret;exact⟨by rw[d6.o];rfl,⟨_,rfl⟩⟩):P:=h
theorem Nj{P:Prop}(h:P:=by
 have h6:=Y bw;have pk:=Y hl;go_wp2;rw[l3.o];exact⟨rfl,h6.o,pk.o⟩):P:=h
theorem Nk{P:Prop}(h:P:=by
 go_wp2;go_ret;exact⟨by simp[A.fi,fb.o,f7.o,oz.o,cj.o],gO _ oc⟩):P:=h
theorem Ci{P:Prop}(h:P:=by
 rw[h,e,Int.toNat_natCast,Nat.mul_one]
 rfl):P:=h
theorem Nl{P:Prop}(h:P:=by
 refine⟨fun p b5 h=>cN,fun a3 h=>?_⟩;injection h with h
 rwa [<-h]):P:=h
theorem Nn{P:Prop}(h:P:=by
 go_wp2;go_ret2;exact⟨rfl,z,md.trans c5 (fun _ e=>e) (fun _ _ e=>e)⟩):P:=h
theorem No{P:Prop}(h:P:=by
 simp only[List.length_append,List.length_cons,List.length_nil,ii];omega):P:=h
theorem GF{P:Prop}(h:P:=by
 exact(f9.t ac:R (fun b=>b=g.c\/b=cb) w a7).t b6):P:=h
theorem Np{P:Prop}(h:P:=by
 go_wp2;go_roundg j
 case measure=>omega
 case rel=>exact ⟨_,gN,fl,ho⟩):P:=h
theorem Nq{P:Prop}(h:P:=by
 simp only[List.length_append,List.length_cons,List.length_nil,ii];simp):P:=h
theorem Nr{P:Prop}(h:P:=by
 injection e with e;injection e with e;have:=(h.aS.aZ h2).1.lt;omega):P:=h
theorem Ns{P:Prop}(h:P:=by
 have⟨dk,qc,fv,e,dl,h0⟩:=h1;exact gn b _ (aR.aJ dl aU) ae):P:=h
theorem Nt{P:Prop}(h:P:=by
 obtain⟨a1,bw,rfl⟩:=List.mem_map.1 hl;exact Kl g4 (nI a1 bw)):P:=h
theorem Nu{P:Prop}(h:P:=by
 have⟨_,_,c8⟩:=x.mO b1 (Or.inl rfl) (Or.inr ⟨b7,dq,ds⟩);omega):P:=h
theorem Nv{P:Prop}(h:P:=by
 exact((h7.drewN al).t ac:R (·=g.x) w a7).t (jS _ _ _ _ _ _)):P:=h
theorem GG{P:Prop}(h:P:=by
 rw[Array.getElem?_setIfInBounds_self_of_lt ad]):P:=h
theorem GH{P:Prop}(h:P:=by
 exact jZ (n:=128+c % 64) E (bS bv)):P:=h
end Go.Proofs.YtbiobhghnldckaaGreatDoor
